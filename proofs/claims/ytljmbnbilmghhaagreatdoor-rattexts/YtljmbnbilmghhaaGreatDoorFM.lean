/-
  PROVED: terracelaw2.RatTexts returns true at every input, and every input reads behind the call as it read before: the tied card (the tables math/bits.deBruijn32tab, math/bits.deBruijn64tab and internal/strconv.uint64pow10 hold what the program's text lays). No other condition.
-/
import Derived.Test.YtljmbnbilmghhaaGreatDoorRS
import Derived.Test.YtljmbnbilmghhaaGreatDoorFL0
import Derived.Test.YtljmbnbilmghhaaGreatDoorTie
import Derived.Test.YtljmbnbilmghhaaGreatDoorCards
import Derived.ChangeOld
import Derived.ChangeSame
import Derived.Deep.Strs
import Derived.SevenTiedAt
namespace Go.Proofs.YtljmbnbilmghhaaGreatDoor
open Go.RowKit Go.ChangeShapes Go.WideShapes Go.ChangeAt
set_option linter.unusedVariables false
set_option linter.unusedSimpArgs false

theorem cells_texts : Tryz.prog.cellsOf 61 = 2 := by kernel_rfl
theorem cells_twos : Tryz.prog.cellsOf 22 = 1 := by kernel_rfl
theorem cells_strs : Tryz.prog.cellsOf 59 = 1 := by kernel_rfl
theorem cells_str : Tryz.prog.cellsOf 9 = 1 := by kernel_rfl
/-- the list of texts, off a reading -/
theorem strs_of_trod {H : Type} {enc : TypeId × Value → H} {W : World} {fuel : Nat} {v : Value} {x : DataW H × List MemPlace} (h : DataW.trod enc Tryz.prog W 0 (fun _ => true) true fuel 59 [v] = some x) : ∃ so sl sc, v = .slice so sl sc ∧ StrsR W so sl ∧ sl ≤ 9223372036854775807 := by
  rcases Go.Deep.open_strs Tryz.underlying59 Tryz.underlying9 cells_str h with ⟨hcs, _⟩ | ⟨a, l, c, m, Sx, hcs, _, hl, hm, hmm, _, hx⟩
  · simp at hcs; subst hcs
    exact ⟨none, 0, 0, rfl, fun i hi => absurd hi (by omega), by decide⟩
  · simp at hcs; subst hcs
    simp only [if_true] at hmm
    refine ⟨some a, l, c, rfl, fun i hi => ?_, Nat.le_trans hl hm⟩
    obtain ⟨b, off, spot⟩ := a
    have hs : spot = none := by simpa [Addr.add] using World.cell?_spot (hx 0 (by omega)).1
    subst hs
    obtain ⟨h1, h2⟩ := hx i (by omega)
    rw [add_off] at h1
    exact ⟨b, off, Sx i, rfl, cell_lt h1, h1, h2⟩
/-- both lists, off a reading -/
theorem texts_of_trod {H : Type} {enc : TypeId × Value → H} {W : World} {fuel : Nat} {cs : Array Value} {x : DataW H × List MemPlace} (hsz : cs.size = 2) (h : DataW.trod enc Tryz.prog W 0 (fun _ => true) true fuel 61 cs.toList = some x) :
    ∃ lo len cap so sl sc, cs = #[.slice lo len cap, .slice so sl sc] ∧ ElemsR W lo len ∧ len ≤ 9223372036854775807 ∧ StrsR W so sl ∧ sl ≤ 9223372036854775807 := by
  obtain ⟨l⟩ := cs
  match l, hsz with
  | [v0, v1], _ =>
    obtain ⟨y0, y1, n, _, _, h0, h1⟩ := trod_struct2 Tryz.underlying61 h
    simp only [cells_twos, cells_strs, List.drop_zero, List.take_succ_cons, List.take_zero, List.drop_succ_cons] at h0 h1
    obtain ⟨so, sl, sc, rfl, hS, hsl⟩ := strs_of_trod h1
    have hv : ∃ lo len cap, v0 = .slice lo len cap := by
      rcases Go.Deep.open_slice Tryz.underlying22 h0 with ⟨hcs, _⟩ | ⟨a, l, c, m, n, D, Pl, hcs, _⟩
      · simp at hcs; exact ⟨_, _, _, hcs⟩
      · simp at hcs; exact ⟨_, _, _, hcs⟩
    obtain ⟨lo, len, cap, rfl⟩ := hv
    obtain ⟨hE, hl⟩ := elemsR_of_trod h0
    exact ⟨lo, len, cap, so, sl, sc, rfl, hE, hl, hS, hsl⟩
set_option maxRecDepth 100000 in
theorem ratTexts_lifted (os : Os) (started : os.Started) (H : Type) (enc : TypeId × Value → H) :
    ReturnsInHanded {} Tryz.checked os 6 .any (fun w args => (Rows.ratTextsSpec.pre enc Tryz.prog Tryz.f6 [] false w args ∧ laidMetH Tryz.prog [("math/bits.deBruijn32tab", Rows.laid_math_bits_deBruijn32tab), ("math/bits.deBruijn64tab", Rows.laid_math_bits_deBruijn64tab), ("internal/strconv.uint64pow10", Rows.laid_internal_strconv_uint64pow10)] w) ∧ sizedMet enc Tryz.prog Tryz.f6 (OpenSpec.ofChange Rows.ratTextsSpec) false w args)
      (Rows.ratTextsSpec.post enc Tryz.prog Tryz.f6 false true false false) := by
  refine returnsInHanded_of_change_and (C := Tryz.checked) (X := fun w _ => laidMetH Tryz.prog [("math/bits.deBruijn32tab", Rows.laid_math_bits_deBruijn32tab), ("math/bits.deBruijn64tab", Rows.laid_math_bits_deBruijn64tab), ("internal/strconv.uint64pow10", Rows.laid_internal_strconv_uint64pow10)] w) (fun _ _ _ hh h => h.of_heap hh) own started (by kernel_rfl) Tryz.func6
    (ChangeSpec.witness_shaped (enc := enc) (C := Tryz.checked) (os := os) (X := fun w _ => laidMetH Tryz.prog [("math/bits.deBruijn32tab", Rows.laid_math_bits_deBruijn32tab), ("math/bits.deBruijn64tab", Rows.laid_math_bits_deBruijn64tab), ("internal/strconv.uint64pow10", Rows.laid_internal_strconv_uint64pow10)] w) false (World.doorLaid Tryz.prog 400 os) #[.agg #[.slice none 0 0, .slice none 0 0]] 8 rfl (World.shaped_of_RefB (by kernel_rfl) (by kernel_rfl)) (by kernel_rfl) (by kernel_rfl) (by kernel_rfl) (door_met os _)) ?_
  intro W base args ds gs before hval0 hW _ _ hL _
  have hval : ∀ (j : Nat) t v, Tryz.f6.params[j]? = some t → args[j]? = some v → Value.okWide Tryz.prog W .any base t v := hval0
  have hW' := hW
  obtain ⟨p, q, hA0, hV, rfl, hfz, hnd⟩ := hW
  have hA : DataW.TrodAll enc Tryz.prog W 0 (fun _ => true) true Tryz.f6.params.toList args.toList ds p := hA0
  rw [Tryz.params6] at hA hval
  obtain ⟨v0, vs0, d0, ds0, p0, q0, hargs, rfl, rfl, h0, r0⟩ := trodAll_cons hA
  obtain ⟨rfl, rfl, rfl⟩ := trodAll_nil r0
  obtain rfl : args = #[v0] := by cases args; simp_all
  obtain ⟨rfl, rfl⟩ := trodVars_none hV
  obtain ⟨cs0, rfl, hsz0⟩ := okWide_struct Tryz.underlying61 (hval 0 61 v0 rfl rfl)
  rw [cells_texts] at hsz0
  have k0 := h0
  have lt0 : ∀ x ∈ p0, x.block < W.heap.size := by obtain ⟨m, hm⟩ := k0; exact DataW.trod_lt m _ _ _ hm
  obtain ⟨fuel, hf⟩ := h0
  obtain ⟨lo, len0, cap0, so, sl, sc, rfl, hE, hl, hS, hsl⟩ := texts_of_trod hsz0 (by simpa [Value.cells] using hf)
  clear hA0 hval0
  refine (ratTexts_any lo so len0 cap0 sl sc W hE hl hS hsl (bits_of_laid hL) (pow_of_laid hL)).mono fun e W' ⟨he, bel⟩ => ?_
  subst he
  exact ⟨_, rfl, _, _, _, [], _, [], hW', trodAll_mk1 (shut_bool Tryz.underlying4 _), (trodAll_cons_mk (Below.trod laidOut (by kernel_rfl) (of_decide_eq_true (by kernel_rfl)) k0 bel lt0) trodAll_mk0), rfl, bel.frame _, fun h => by cases h⟩

theorem ratTexts_holds : Rows.RatTextsSaid :=
  OpenClaim.holds_of_wide 6 Tryz.f6 rfl rfl rfl rfl rfl rfl rfl ⟨rfl, rfl, rfl, rfl, rfl⟩ rfl rfl rfl rfl rfl (by kernel_rfl) Tryz.func6 (by kernel_rfl)
    (of_decide_eq_true (by kernel_rfl)) (by unfold Func.isWrapper; first | (rw [if_pos (by decide +kernel)]; kernel_rfl) | (rw [if_neg (by decide +kernel)]; exact ⟨rfl, rfl⟩))
    (fun os started H enc _ => ratTexts_lifted os started H enc)
/-- THE TIED CARD. -/
theorem ratTexts_card : Rows.RatTextsCardSaid :=
  Claim7.holds_tied_plain_at .later [] [.data, .data, .data] true Rows.ratTextsCard.stood.harness false
    ratTexts_holds (fun _ h => by cases h) (by kernel_rfl) (fun _ h => by cases h) ratTexts_row_tie rfl ⟨rfl, rfl⟩ (by kernel_rfl) rfl
    (fun f fn hf hfn => by
      obtain rfl : f = 6 := Option.some.inj ((show Tryz.prog.funcNamed "terrace/terracelaw2.RatTexts" = some 6 by kernel_rfl).symm.trans hf) |>.symm
      obtain rfl : fn = Tryz.f6 := (Option.some.inj (Tryz.func6.symm.trans hfn)).symm
      exact ⟨by kernel_rfl, fun j t ht => by
        rw [Tryz.params6] at ht
        have hm : t ∈ [61] := by simpa using Array.mem_of_getElem? ht
        have hall : ([61].all fun u => !Tryz.prog.wantsStandIn u) = true := by kernel_rfl
        exact (show Tryz.prog.wantsStandIn t = false by simpa using List.all_eq_true.1 hall t hm)⟩)
    (by kernel_rfl)
#print axioms ratTexts_card
end Go.Proofs.YtljmbnbilmghhaaGreatDoor
