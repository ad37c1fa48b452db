/-
  What is read of a list of pairs of numbers.
-/
import Derived.Test.YtiemgadnnnhmkaaGreatPO06
import Derived.Test.YtiemgadnnnhmkaaGreatPO11
import Derived.Test.YtiemgadnnnhmkaaGreatPO12
import Derived.ProofKit
import Derived.OpenShut
import Derived.Deep.Slices
import Derived.Deep.Strs
namespace Go.Proofs.YtiemgadnnnhmkaaGreat
open Go.RowKit Go.ChangeShapes Go.WideShapes Go.ChangeAt
set_option linter.unusedVariables false
set_option linter.unusedSimpArgs false
theorem cells_int : Tryz.prog.cellsOf 30 = 2 := by kernel_rfl
theorem cells_bool : Tryz.prog.cellsOf 4 = 1 := by kernel_rfl
theorem cells_nat : Tryz.prog.cellsOf 28 = 1 := by kernel_rfl
theorem cells_i64 : Tryz.prog.cellsOf 3 = 1 := by kernel_rfl
theorem cells_u64 : Tryz.prog.cellsOf 80 = 1 := by kernel_rfl
theorem add_off {b off j : Nat} : Addr.add ⟨b, off, none⟩ j = ⟨b, off + j, none⟩ := by
  by_cases h0 : j = 0
  · subst h0; simp [Addr.add]
  · simp [Addr.add, h0]
/-- words, off a reading -/
theorem row_of_trod {H : Type} {enc : TypeId × Value → H} {W : World} {fuel : Nat} {v : Value} {x : DataW H × List MemPlace} (h : DataW.trod enc Tryz.prog W 0 (fun _ => true) true fuel 28 [v] = some x) :
    ∃ ao len cap zs, v = .slice ao len cap ∧ RowAt W .u64 ao len cap zs ∧ Wd 18446744073709551616 zs ∧ cap ≤ 9223372036854775807 := by
  rcases open_ints Tryz.underlying28 Tryz.underlying80 cells_u64 h with ⟨hcs, _⟩ | ⟨a, len, cap, zs, hcs, _, hl, hm, hz, _, hcell, hwz⟩
  · simp at hcs; subst hcs
    exact ⟨none, 0, 0, [], rfl, RowAt.nilRow W .u64, Wd.nil _, by decide⟩
  · simp at hcs; subst hcs
    simp only [if_true] at hz
    refine ⟨some a, len, cap, zs.take len, rfl, ⟨by simp; omega, hl, fun e => (by cases e), ?_⟩, ?_, hm⟩
    · by_cases h0 : len = 0
      · exact Or.inl h0
      · right
        obtain ⟨b, off, spot⟩ := a
        have hs : spot = none := by simpa [Addr.add] using World.cell?_spot (hcell 0 (by omega))
        subst hs
        refine ⟨b, off, rfl, ?_, fun t ht => ?_⟩
        · have := hcell 0 (by omega)
          rw [add_off] at this; exact cell_lt this
        · have := hcell t (by omega)
          rw [add_off] at this
          rw [dig_take ht]; exact this
    · intro z hz'
      have := bounds_u64 (hwz z (List.mem_of_mem_take hz'))
      omega
/-- a sign and words, off a reading -/
theorem int_of_trod {H : Type} {enc : TypeId × Value → H} {W : World} {fuel : Nat} {c0 c1 : Value} {x : DataW H × List MemPlace} (h : DataW.trod enc Tryz.prog W 0 (fun _ => true) true fuel 30 [c0, c1] = some x) :
    ∃ neg ao len cap zs, c0 = .bool neg ∧ c1 = .slice ao len cap ∧ RowAt W .u64 ao len cap zs ∧ Wd 18446744073709551616 zs ∧ cap ≤ 9223372036854775807 := by
  obtain ⟨y0, y1, n, _, _, h0, h1⟩ := trod_struct2 Tryz.underlying30 h
  simp only [cells_bool, cells_nat, List.drop_zero, List.take_succ_cons, List.take_zero, List.drop_succ_cons] at h0 h1
  obtain ⟨neg, hb, _⟩ := DataW.trod_bool Tryz.underlying4 h0
  simp at hb
  obtain ⟨ao, len, cap, zs, hv, hr, hw, hc⟩ := row_of_trod h1
  exact ⟨neg, ao, len, cap, zs, hb, hv, hr, hw, hc⟩
theorem own : ownKnob Tryz.prog.godebug = none := by kernel_rfl
theorem laidOut : laidOutB Tryz.prog = true := by kernel_rfl
end Go.Proofs.YtiemgadnnnhmkaaGreat
/-
  NK: what is read of a list of the law's items: polynomials in several variables, rationals, a number.
-/
namespace Go.Proofs.YtiemgadnnnhmkaaGreat
open Go.RowKit Go.ChangeShapes Go.WideShapes Go.ChangeAt
set_option linter.unusedVariables false
set_option linter.unusedSimpArgs false
theorem cells_term7 : Tryz.prog.cellsOf 56 = 3 := by kernel_rfl
theorem cells_terms7 : Tryz.prog.cellsOf 23 = 1 := by kernel_rfl
theorem cells_mpoly7 : Tryz.prog.cellsOf 25 = 2 := by kernel_rfl
theorem cells_exps7 : Tryz.prog.cellsOf 54 = 1 := by kernel_rfl
theorem cells_rat7 : Tryz.prog.cellsOf 42 = 3 := by kernel_rfl
theorem cells_rats7 : Tryz.prog.cellsOf 26 = 1 := by kernel_rfl
theorem cells_two7 : Tryz.prog.cellsOf 32 = 9 := by kernel_rfl
/-- exponents, off a reading -/
theorem exps_of_trod {H : Type} {enc : TypeId × Value → H} {W : World} {fuel : Nat} {v : Value} {x : DataW H × List MemPlace} (h : DataW.trod enc Tryz.prog W 0 (fun _ => true) true fuel 54 [v] = some x) :
    ∃ ao len cap zs, v = .slice ao len cap ∧ RowAt W .i64 ao len cap zs := by
  rcases open_ints Tryz.underlying54 Tryz.underlying3 cells_i64 h with ⟨hcs, _⟩ | ⟨a, len, cap, zs, hcs, _, hl, hm, hz, _, hcell, hwz⟩
  · simp at hcs; subst hcs
    exact ⟨none, 0, 0, [], rfl, RowAt.nilRow W .i64⟩
  · simp at hcs; subst hcs
    simp only [if_true] at hz
    refine ⟨some a, len, cap, zs.take len, rfl, ⟨by simp; omega, hl, fun e => (by cases e), ?_⟩⟩
    by_cases h0 : len = 0
    · exact Or.inl h0
    · right
      obtain ⟨b, off, spot⟩ := a
      have hs : spot = none := by simpa [Addr.add] using World.cell?_spot (hcell 0 (by omega))
      subst hs
      refine ⟨b, off, rfl, ?_, fun t ht => ?_⟩
      · have := hcell 0 (by omega)
        rw [add_off] at this; exact cell_lt this
      · have := hcell t (by omega)
        rw [add_off] at this
        rw [dig_take ht]; exact this
/-- a list of terms, off a reading -/
theorem terms_of_trod {H : Type} {enc : TypeId × Value → H} {W : World} {fuel : Nat} {v : Value} {x : DataW H × List MemPlace} (h : DataW.trod enc Tryz.prog W 0 (fun _ => true) true fuel 23 [v] = some x) :
    ∃ tp tl tc T, v = .slice tp tl tc ∧ TermsR W tp tl tc T := by
  rcases Go.Deep.open_slice Tryz.underlying23 h with ⟨hcs, _⟩ | ⟨a, l, c, m, n, D, Pl, hcs, _, hl, hm, hmm, _, hx⟩
  · simp at hcs; subst hcs
    exact ⟨none, 0, 0, [], rfl, rfl, fun t ht => absurd ht (by simp)⟩
  · simp at hcs; subst hcs
    simp only [if_true] at hmm
    simp only [cells_term7] at hx
    by_cases h0 : l = 0
    · subst h0
      exact ⟨some a, 0, c, [], rfl, rfl, fun t ht => absurd ht (by simp)⟩
    · obtain ⟨b, off, spot⟩ := a
      have hs : spot = none := by
        obtain ⟨cs0, hcells0, _⟩ := hx 0 (by omega)
        obtain ⟨_, hlen0, hc0⟩ := World.cells?_some hcells0
        have h1 := hc0 0 (by omega)
        rw [List.getElem?_eq_getElem (by omega)] at h1
        simpa [Addr.add] using World.cell?_spot h1
      subst hs
      have hv : ∀ t, ∃ r : (List Int × Bool × List Int), t < l → TermR W b (off + t * 3) r := by
        intro t
        by_cases ht : t < l
        · obtain ⟨cs, hcells, htr⟩ := hx t (by omega)
          obtain ⟨_, hlen, hc⟩ := World.cells?_some hcells
          match cs, hlen with
          | [v0, v1, v2], _ =>
            obtain ⟨y0, y1, n', _, _, t0, t1⟩ := trod_struct2 Tryz.underlying56 htr
            simp only [cells_int, cells_exps7, List.drop_zero, List.take_succ_cons, List.take_zero, List.drop_succ_cons] at t0 t1
            obtain ⟨eo, el, ec, E, rfl, hE⟩ := exps_of_trod t0
            obtain ⟨neg, ao, la, ca, zs, rfl, rfl, hr, hw, _⟩ := int_of_trod t1
            have g : ∀ j, j < 3 → W.cell? ⟨b, off + t * 3 + j, none⟩ = [Value.slice eo el ec, .bool neg, .slice ao la ca][j]? := by
              intro j hj
              have := hc j hj
              rw [add_off, add_off] at this; exact this
            exact ⟨(E, neg, zs), fun _ => ⟨eo, el, ec, ao, la, ca, ⟨g 0 (by omega), g 1 (by omega), g 2 (by omega)⟩, hE, hr, hw⟩⟩
        · exact ⟨([], false, []), fun h => absurd h ht⟩
      refine ⟨some ⟨b, off, none⟩, l, c, (List.range l).map fun t => Classical.choose (hv t), rfl, by simp, fun t ht => ?_⟩
      have ht' : t < l := by simpa using ht
      have e : ((List.range l).map fun t => Classical.choose (hv t))[t] = Classical.choose (hv t) := by simp
      rw [e]
      exact ⟨b, off, rfl, Classical.choose_spec (hv t) ht'⟩
/-- a polynomial, off a reading -/
theorem mpoly7_of_trod {H : Type} {enc : TypeId × Value → H} {W : World} {fuel : Nat} {c0 c1 : Value} {x : DataW H × List MemPlace} (h : DataW.trod enc Tryz.prog W 0 (fun _ => true) true fuel 25 [c0, c1] = some x) :
    ∃ n tp tl tc T, c0 = .int .i64 n ∧ c1 = .slice tp tl tc ∧ TermsR W tp tl tc T := by
  obtain ⟨y0, y1, n', _, _, t0, t1⟩ := trod_struct2 Tryz.underlying25 h
  simp only [cells_i64, cells_terms7, List.drop_zero, List.take_succ_cons, List.take_zero, List.drop_succ_cons] at t0 t1
  obtain ⟨nn, hn, _, _⟩ := DataW.trod_int Tryz.underlying3 t0
  simp at hn
  obtain ⟨tp, tl, tc, T, hv, hT⟩ := terms_of_trod t1
  exact ⟨nn, tp, tl, tc, T, hn, hv, hT⟩
/-- a list of rationals, off a reading -/
theorem rats7_of_trod {H : Type} {enc : TypeId × Value → H} {W : World} {fuel : Nat} {v : Value} {x : DataW H × List MemPlace} (h : DataW.trod enc Tryz.prog W 0 (fun _ => true) true fuel 26 [v] = some x) :
    ∃ ao al ac, v = .slice ao al ac ∧ RatsR W ao al := by
  rcases Go.Deep.open_slice Tryz.underlying26 h with ⟨hcs, _⟩ | ⟨a, l, c, m, n, D, Pl, hcs, _, hl, hm, hmm, _, hx⟩
  · simp at hcs; subst hcs
    exact ⟨none, 0, 0, rfl, fun t ht => absurd ht (by omega)⟩
  · simp at hcs; subst hcs
    simp only [if_true] at hmm
    simp only [cells_rat7] at hx
    refine ⟨some a, l, c, rfl, fun t ht => ?_⟩
    obtain ⟨b, off, spot⟩ := a
    have hs : spot = none := by
      obtain ⟨cs0, hcells0, _⟩ := hx 0 (by omega)
      obtain ⟨_, hlen0, hc0⟩ := World.cells?_some hcells0
      have h1 := hc0 0 (by omega)
      rw [List.getElem?_eq_getElem (by omega)] at h1
      simpa [Addr.add] using World.cell?_spot h1
    subst hs
    obtain ⟨cs, hcells, htr⟩ := hx t (by omega)
    obtain ⟨_, hlen, hc⟩ := World.cells?_some hcells
    match cs, hlen with
    | [v0, v1, v2], _ =>
      obtain ⟨y0, y1, n', _, _, t0, t1⟩ := trod_struct2 Tryz.underlying42 htr
      simp only [cells_int, cells_nat, List.drop_zero, List.take_succ_cons, List.take_zero, List.drop_succ_cons] at t0 t1
      obtain ⟨neg, so, sl, sc, zs, rfl, rfl, _, _, _⟩ := int_of_trod t0
      obtain ⟨uo, ul, uc, ds, rfl, _, _, _⟩ := row_of_trod t1
      have g : ∀ j, j < 3 → W.cell? ⟨b, off + t * 3 + j, none⟩ = [Value.bool neg, .slice so sl sc, .slice uo ul uc][j]? := by
        intro j hj
        have := hc j hj
        rw [add_off, add_off] at this; exact this
      exact ⟨b, off, neg, so, sl, sc, uo, ul, uc, rfl, g 0 (by omega), g 1 (by omega), g 2 (by omega)⟩
theorem trod_struct6n {H : Type} {enc : TypeId × Value → H} {P : Program} {w : World} {base : Nat} {spare : Nat → Bool} {held : Bool} {t : TypeId} {f0 f1 f2 f3 f4 f5 : Field} {fuel : Nat} {cs : List Value} {x : DataW H × List MemPlace} (ht : P.underlying t = some (.struct #[f0, f1, f2, f3, f4, f5])) (h : DataW.trod enc P w base spare held fuel t cs = some x) :
    ∃ y0 y1 y2 y3 y4 y5 n, DataW.trod enc P w base spare held n f0.type ((cs.drop f0.offset).take (P.cellsOf f0.type)) = some y0 ∧
      DataW.trod enc P w base spare held n f1.type ((cs.drop f1.offset).take (P.cellsOf f1.type)) = some y1 ∧ DataW.trod enc P w base spare held n f2.type ((cs.drop f2.offset).take (P.cellsOf f2.type)) = some y2 ∧
      DataW.trod enc P w base spare held n f3.type ((cs.drop f3.offset).take (P.cellsOf f3.type)) = some y3 ∧ DataW.trod enc P w base spare held n f4.type ((cs.drop f4.offset).take (P.cellsOf f4.type)) = some y4 ∧ DataW.trod enc P w base spare held n f5.type ((cs.drop f5.offset).take (P.cellsOf f5.type)) = some y5 := by
  obtain ⟨xs, n, _, rfl, hl, hlen, hf⟩ := DataW.trod_struct ht h
  match xs, hlen with
  | [y0, y1, y2, y3, y4, y5], _ => exact ⟨y0, y1, y2, y3, y4, y5, n, by simpa using hf 0 f0 rfl, by simpa using hf 1 f1 rfl, by simpa using hf 2 f2 rfl, by simpa using hf 3 f3 rfl, by simpa using hf 4 f4 rfl, by simpa using hf 5 f5 rfl⟩
set_option maxRecDepth 100000 in
set_option maxHeartbeats 4000000 in
/-- the list, off a reading -/
theorem items7_of_trod {H : Type} {enc : TypeId × Value → H} {W : World} {fuel : Nat} {lo : Option Addr} {len cap : Nat} {x : DataW H × List MemPlace} (h : DataW.trod enc Tryz.prog W 0 (fun _ => true) true fuel 22 [.slice lo len cap] = some x) : Items7 W lo len ∧ len ≤ 9223372036854775807 := by
  rcases Go.Deep.open_slice Tryz.underlying22 h with ⟨hcs, _⟩ | ⟨a, l, c, m, n, D, Pl, hcs, _, hl, hm, hmm, _, hx⟩
  · simp at hcs; obtain ⟨rfl, rfl, rfl⟩ := hcs
    exact ⟨fun i hi => absurd hi (by omega), by decide⟩
  · simp at hcs; obtain ⟨rfl, rfl, rfl⟩ := hcs
    refine ⟨fun i hi => ?_, Nat.le_trans hl hm⟩
    simp only [if_true] at hmm
    simp only [cells_two7] at hx
    obtain ⟨cs, hcells, htr⟩ := hx i (by omega)
    obtain ⟨_, hlen, hc⟩ := World.cells?_some hcells
    match cs, hlen with
    | [v0, v1, v2, v3, v4, v5, v6, v7, v8], _ =>
      obtain ⟨b, off, spot⟩ := a
      have hs : spot = none := by
        obtain ⟨cs0, hcells0, _⟩ := hx 0 (by omega)
        obtain ⟨_, hlen0, hc0⟩ := World.cells?_some hcells0
        have h1 := hc0 0 (by omega)
        rw [List.getElem?_eq_getElem (by omega)] at h1
        simpa [Addr.add] using World.cell?_spot h1
      subst hs
      obtain ⟨y0, y1, y2, y3, y4, y5, n', t0, t1, t2, t3, t4, t5⟩ := trod_struct6n Tryz.underlying32 htr
      simp only [cells_mpoly7, cells_i64, cells_rats7, cells_int, List.drop_zero, List.take_succ_cons, List.take_zero, List.drop_succ_cons] at t0 t1 t2 t3 t4 t5
      obtain ⟨nP, po, pl, pc, P, rfl, rfl, hP⟩ := mpoly7_of_trod t0
      obtain ⟨nQ, qo, ql, qc, Q, rfl, rfl, hQ⟩ := mpoly7_of_trod t1
      obtain ⟨V, e2, _, _⟩ := DataW.trod_int Tryz.underlying3 t2
      obtain ⟨N, e3, _, _⟩ := DataW.trod_int Tryz.underlying3 t3
      simp at e2 e3
      subst e2 e3
      obtain ⟨Ao, Al, Ac, rfl, hA⟩ := rats7_of_trod t4
      obtain ⟨nc, Co, Cl, Cc, _, rfl, rfl, _, _, _⟩ := int_of_trod t5
      have g : ∀ j, j < 9 → W.cell? ⟨b, off + i * 9 + j, none⟩ = [Value.int .i64 nP, .slice po pl pc, .int .i64 nQ, .slice qo ql qc, .int .i64 V, .int .i64 N, .slice Ao Al Ac, .bool nc, .slice Co Cl Cc][j]? := by
        intro j hj
        have := hc j hj
        rw [add_off, add_off] at this; exact this
      refine ⟨b, off, rfl, cell_lt (p := ⟨b, off + i * 9, none⟩) (v := .int .i64 nP) (g 0 (by omega)), nP, nQ, V, N, po, qo, Ao, Co, pl, pc, ql, qc, Al, Ac, Cl, Cc, nc, P, Q, fun j v hj => ?_, hP, hQ, hA⟩
      by_cases h9 : j < 9
      · rw [g j h9]; exact hj
      · rw [List.getElem?_eq_none (by show 9 ≤ j; omega)] at hj; cases hj
end Go.Proofs.YtiemgadnnnhmkaaGreat
/-
  NL: walks: the wake's own polynomials: x and y, by the page.
-/
namespace Go.Proofs.YtiemgadnnnhmkaaGreat
open Go.RowKit
set_option linter.unusedVariables false
set_option linter.unusedSimpArgs false
/-- a call tells a polynomial of two variables with one term, x^a y^b -/
def OneM (a b : Int) (w : World) (e : Ending) (w' : World) : Prop := ∃ tp tc, e = .returned (.agg #[.int .i64 2, .slice tp 1 tc]) ∧ TermsAt w' tp 1 tc [([a, b], false, [1])] ∧ Below w.heap.size w w'
theorem infoInt : (Tryz.prog.info? 3).map (fun i => (i.zero, i.size, i.bytes)) = some (some (.int .i64 0), 1, 8) := by kernel_rfl
theorem mag1 : mag (1 : Int).natAbs = [1] := by decide +kernel
theorem oneM_done {W : World} {g s : Nat} {a b : Int} {ao : Option Addr} {la ca : Nat} (c0 : W.cell? ⟨g, 0, none⟩ = some (.int .i64 a)) (c1 : W.cell? ⟨g, 1, none⟩ = some (.int .i64 b)) (s0 : W.cell? ⟨s, 0, none⟩ = some (.slice (some ⟨g, 0, none⟩) 2 2)) (s1 : W.cell? ⟨s, 1, none⟩ = some (.bool false)) (s2 : W.cell? ⟨s, 2, none⟩ = some (.slice ao la ca)) (hr : RowAt W .u64 ao la ca [1]) :
    TermsAt W (some ⟨s, 0, none⟩) 1 1 [([a, b], false, [1])] := by
  refine ⟨rfl, fun t ht => ?_⟩
  obtain rfl : t = 0 := by simp at ht; omega
  refine ⟨s, 0, rfl, some ⟨g, 0, none⟩, 2, 2, ao, la, ca, ⟨s0, s1, s2⟩, ⟨⟨rfl, Nat.le_refl _, fun e => (by cases e), Or.inr ⟨g, 0, rfl, cell_lt c0, fun t ht => ?_⟩⟩, by decide⟩, hr, ?_, ?_⟩
  · match t, ht with
    | 0, _ => simpa [dig] using c0
    | 1, _ => simpa [dig] using c1
  · intro z hz
    simp at hz
    subst hz
    decide
  · have := hr.hlen
    simp at this
    omega
set_option maxRecDepth 100000 in
set_option maxHeartbeats 1000000 in
theorem rvar0_any (w : World) : Calls Tryz.prog 20 #[.int .i64 2, .int .i64 0] w (OneM 1 0 w) := by
  obtain ⟨i0, hi, hz0, hz1, hz2⟩ := info_parts infoInt
  obtain ⟨W0, hW0⟩ : ∃ W0, W0 = w.alloc (.cells #[.int .i64 0, .slice none 0 0] 25) := ⟨_, rfl⟩
  have HB0 : Hid (Below w.heap.size w W0 ∧ W0.heap.size = w.heap.size + 1 ∧ Bx W0 w.heap.size [.int .i64 0, .slice none 0 0]) := ⟨by rw [hW0]; exact (Below.refl _ _).alloc (Nat.le_refl _) _, by rw [hW0]; simp, by rw [hW0]; exact Bx.new _ _ _⟩
  have HW0 : Hid (W0 = w.alloc (.cells #[.int .i64 0, .slice none 0 0] 25)) := hW0
  clear hW0
  have b1 : Hid (i0.bytes * 2 ≤ 281474976710656) := by show _ ≤ _; rw [hz2]; omega
  have b2 : Hid (2 ≤ maxLen) := by show _ ≤ _; unfold maxLen; omega
  go_enter Tryz.func20, Tryz.ntmps20
  go_wp2_with (first
    | (at_make; rw [← HW0.out]; refine wpList_make_full _ rfl (.tmp 6) (.tmp 6) 54 rfl 0 3 i0 (.int .i64 0) 1 Tryz.underlying54 hi hz0 hz1 .i64 .i64 _ _ 2 rfl rfl rfl rfl b1.out b2.out (Nat.zero_le _) ?_; intro w1 hown1 hgrow1; have HK : Hid (Blk w1 W0.heap.size .i64 3 [0, 0] ∧ Below W0.heap.size W0 w1) := ⟨made_blk hown1, grown_below hgrow1⟩; clear hown1 hgrow1; have a0 := HK.out.1.cell (j := 0) (by decide); have a1 := HK.out.1.cell (j := 1) (by decide); have af := fun j => HK.out.1.frozen j)
    | (go_at_call 37; refine (rfrom_any 1 _ (by decide) (by decide)).mono ?_; rintro e w2 ⟨neg, ao, la, ca, rfl, hs, ho, hb⟩; have HY : Hid (Below W0.heap.size W0 w2) := ((below_set HK.out.2 (Nat.le_refl _)).trans (hb.mono (by simpa using HK.out.2.size))); have HF : Hid (neg = sgB 1 ∧ Own w1.heap.size w2 .u64 80 ao la ca [1] ∧ Blk w2 W0.heap.size .i64 3 [1, 0] ∧ w1.heap.size ≤ w2.heap.size) := ⟨hs, by rw [← mag1]; simpa using ho, (HK.out.1.set 0 1).later hb (by simpa using HK.out.1.lt), by simpa using hb.size⟩; clear hs ho hb; have hbx := HB0.out.2.2.later HY.out HB0.out.2.2.lt; have p0 := hbx.1 0 _ rfl; have p1 := hbx.1 1 _ rfl; have pf := hbx.2; have hlt0 : w.heap.size < w2.heap.size := (by have := HY.out.size; have := HB0.out.2.1; omega); clear hbx a0 a1 af))
  have hsz := HB0.out.2.1
  have hlt := HF.out.2.2.1.lt
  have hn : neg = false := HF.out.1
  subst hn
  have hne2 : W0.heap.size ≠ w.heap.size := by omega
  have hw1 : w.heap.size < w1.heap.size := by have := HK.out.1.lt; omega
  obtain ⟨A, hA⟩ : ∃ A, A = (w2.setCell ⟨w.heap.size, 0, none⟩ (.int .i64 2)).setCell ⟨w.heap.size, 1, none⟩ (.slice (some ⟨w2.heap.size, 0, none⟩) 1 1) := ⟨_, rfl⟩
  have hAs : A.heap.size = w2.heap.size := by rw [hA]; simp
  have hbU : Below A.heap.size A (A.alloc (.cells #[.slice (some ⟨W0.heap.size, 0, none⟩) 2 2, .bool false, .slice ao la ca] 56)) := (Below.refl _ _).alloc (Nat.le_refl _) _
  have hx := Bx.new A [.slice (some ⟨W0.heap.size, 0, none⟩) 2 2, .bool false, .slice ao la ca] 56
  rw [hAs] at hx
  have hR : RowAt A .u64 ao la ca [1] := by rw [hA]; exact (HF.out.2.1.store (r := w.heap.size) hw1 (.int .i64 2) (.slice (some ⟨w2.heap.size, 0, none⟩) 1 1)).row
  have hg : ∀ j, j < 2 → A.cell? ⟨W0.heap.size, j, none⟩ = some (.int .i64 (dig [1, 0] j)) := fun j hj => by
    rw [hA, cell_off hne2, cell_off hne2]; exact HF.out.2.2.1.cell (by simpa using hj)
  have hbA : Below w.heap.size w A := by rw [hA]; exact below_store (HB0.out.1.trans (HY.out.mono (by omega))) (Nat.le_refl _) _ _
  have hO : OneM 1 0 w (.returned (.agg #[.int .i64 2, .slice (some ⟨w2.heap.size, 0, none⟩) 1 1])) (A.alloc (.cells #[.slice (some ⟨W0.heap.size, 0, none⟩) 2 2, .bool false, .slice ao la ca] 56)) :=
    ⟨_, _, rfl, oneM_done (g := W0.heap.size) (s := w2.heap.size) ((hbU.cell (p := ⟨W0.heap.size, 0, none⟩) (by show W0.heap.size < A.heap.size; omega)).trans (hg 0 (by decide))) ((hbU.cell (p := ⟨W0.heap.size, 1, none⟩) (by show W0.heap.size < A.heap.size; omega)).trans (hg 1 (by decide))) (hx.1 0 _ rfl) (hx.1 1 _ rfl) (hx.1 2 _ rfl) (hR.later hbU), hbA.alloc (by have := hbA.size; omega) _⟩
  rw [hA] at hO
  exact bodyPost_ret (v := .agg #[.int .i64 2, .slice (some ⟨w2.heap.size, 0, none⟩) 1 1]) (by simp [results, Tryz.results20, go_sem, p0, p1, pf, hlt0]) rfl hO
set_option maxRecDepth 100000 in
set_option maxHeartbeats 1000000 in
theorem rvar1_any (w : World) : Calls Tryz.prog 20 #[.int .i64 2, .int .i64 1] w (OneM 0 1 w) := by
  obtain ⟨i0, hi, hz0, hz1, hz2⟩ := info_parts infoInt
  obtain ⟨W0, hW0⟩ : ∃ W0, W0 = w.alloc (.cells #[.int .i64 0, .slice none 0 0] 25) := ⟨_, rfl⟩
  have HB0 : Hid (Below w.heap.size w W0 ∧ W0.heap.size = w.heap.size + 1 ∧ Bx W0 w.heap.size [.int .i64 0, .slice none 0 0]) := ⟨by rw [hW0]; exact (Below.refl _ _).alloc (Nat.le_refl _) _, by rw [hW0]; simp, by rw [hW0]; exact Bx.new _ _ _⟩
  have HW0 : Hid (W0 = w.alloc (.cells #[.int .i64 0, .slice none 0 0] 25)) := hW0
  clear hW0
  have b1 : Hid (i0.bytes * 2 ≤ 281474976710656) := by show _ ≤ _; rw [hz2]; omega
  have b2 : Hid (2 ≤ maxLen) := by show _ ≤ _; unfold maxLen; omega
  go_enter Tryz.func20, Tryz.ntmps20
  go_wp2_with (first
    | (at_make; rw [← HW0.out]; refine wpList_make_full _ rfl (.tmp 6) (.tmp 6) 54 rfl 0 3 i0 (.int .i64 0) 1 Tryz.underlying54 hi hz0 hz1 .i64 .i64 _ _ 2 rfl rfl rfl rfl b1.out b2.out (Nat.zero_le _) ?_; intro w1 hown1 hgrow1; have HK : Hid (Blk w1 W0.heap.size .i64 3 [0, 0] ∧ Below W0.heap.size W0 w1) := ⟨made_blk hown1, grown_below hgrow1⟩; clear hown1 hgrow1; have a0 := HK.out.1.cell (j := 0) (by decide); have a1 := HK.out.1.cell (j := 1) (by decide); have af := fun j => HK.out.1.frozen j)
    | (go_at_call 37; refine (rfrom_any 1 _ (by decide) (by decide)).mono ?_; rintro e w2 ⟨neg, ao, la, ca, rfl, hs, ho, hb⟩; have HY : Hid (Below W0.heap.size W0 w2) := ((below_set HK.out.2 (Nat.le_refl _)).trans (hb.mono (by simpa using HK.out.2.size))); have HF : Hid (neg = sgB 1 ∧ Own w1.heap.size w2 .u64 80 ao la ca [1] ∧ Blk w2 W0.heap.size .i64 3 [0, 1] ∧ w1.heap.size ≤ w2.heap.size) := ⟨hs, by rw [← mag1]; simpa using ho, (HK.out.1.set 1 1).later hb (by simpa using HK.out.1.lt), by simpa using hb.size⟩; clear hs ho hb; have hbx := HB0.out.2.2.later HY.out HB0.out.2.2.lt; have p0 := hbx.1 0 _ rfl; have p1 := hbx.1 1 _ rfl; have pf := hbx.2; have hlt0 : w.heap.size < w2.heap.size := (by have := HY.out.size; have := HB0.out.2.1; omega); clear hbx a0 a1 af))
  have hsz := HB0.out.2.1
  have hlt := HF.out.2.2.1.lt
  have hn : neg = false := HF.out.1
  subst hn
  have hne2 : W0.heap.size ≠ w.heap.size := by omega
  have hw1 : w.heap.size < w1.heap.size := by have := HK.out.1.lt; omega
  obtain ⟨A, hA⟩ : ∃ A, A = (w2.setCell ⟨w.heap.size, 0, none⟩ (.int .i64 2)).setCell ⟨w.heap.size, 1, none⟩ (.slice (some ⟨w2.heap.size, 0, none⟩) 1 1) := ⟨_, rfl⟩
  have hAs : A.heap.size = w2.heap.size := by rw [hA]; simp
  have hbU : Below A.heap.size A (A.alloc (.cells #[.slice (some ⟨W0.heap.size, 0, none⟩) 2 2, .bool false, .slice ao la ca] 56)) := (Below.refl _ _).alloc (Nat.le_refl _) _
  have hx := Bx.new A [.slice (some ⟨W0.heap.size, 0, none⟩) 2 2, .bool false, .slice ao la ca] 56
  rw [hAs] at hx
  have hR : RowAt A .u64 ao la ca [1] := by rw [hA]; exact (HF.out.2.1.store (r := w.heap.size) hw1 (.int .i64 2) (.slice (some ⟨w2.heap.size, 0, none⟩) 1 1)).row
  have hg : ∀ j, j < 2 → A.cell? ⟨W0.heap.size, j, none⟩ = some (.int .i64 (dig [0, 1] j)) := fun j hj => by
    rw [hA, cell_off hne2, cell_off hne2]; exact HF.out.2.2.1.cell (by simpa using hj)
  have hbA : Below w.heap.size w A := by rw [hA]; exact below_store (HB0.out.1.trans (HY.out.mono (by omega))) (Nat.le_refl _) _ _
  have hO : OneM 0 1 w (.returned (.agg #[.int .i64 2, .slice (some ⟨w2.heap.size, 0, none⟩) 1 1])) (A.alloc (.cells #[.slice (some ⟨W0.heap.size, 0, none⟩) 2 2, .bool false, .slice ao la ca] 56)) :=
    ⟨_, _, rfl, oneM_done (g := W0.heap.size) (s := w2.heap.size) ((hbU.cell (p := ⟨W0.heap.size, 0, none⟩) (by show W0.heap.size < A.heap.size; omega)).trans (hg 0 (by decide))) ((hbU.cell (p := ⟨W0.heap.size, 1, none⟩) (by show W0.heap.size < A.heap.size; omega)).trans (hg 1 (by decide))) (hx.1 0 _ rfl) (hx.1 1 _ rfl) (hx.1 2 _ rfl) (hR.later hbU), hbA.alloc (by have := hbA.size; omega) _⟩
  rw [hA] at hO
  exact bodyPost_ret (v := .agg #[.int .i64 2, .slice (some ⟨w2.heap.size, 0, none⟩) 1 1]) (by simp [results, Tryz.results20, go_sem, p0, p1, pf, hlt0]) rfl hO
end Go.Proofs.YtiemgadnnnhmkaaGreat
/-
  NM: walks: mpoly's isZero, degree of one term of two variables; the law's num.
-/
namespace Go.Proofs.YtiemgadnnnhmkaaGreat
open Go.RowKit
set_option linter.unusedVariables false
set_option linter.unusedSimpArgs false
set_option maxRecDepth 100000 in
set_option maxHeartbeats 400000 in
theorem num7_any (n : Int) (w : World) : Calls Tryz.prog 18 #[.int .i64 n] w fun e w' => e = .returned (.int .i64 n) ∧ w' = w := by
  go_enter Tryz.func18, Tryz.ntmps18
  go_wp2
  go_ret
  exact ⟨rfl, rfl⟩
set_option maxRecDepth 100000 in
set_option maxHeartbeats 400000 in
theorem isZero_any (n : Int) (tp : Option Addr) (tl tc : Nat) (c : Bool) (w : World) (hc : ((tl : Int) == 0) = c) :
    Calls Tryz.prog 31 #[.agg #[.int .i64 n, .slice tp tl tc]] w fun e w' => e = .returned (.bool c) ∧ Below w.heap.size w w' := by
  go_enter Tryz.func31, Tryz.ntmps31
  go_wp2
  go_ret
  exact ⟨by rw [← hc]; rfl, (Below.refl _ _).alloc (Nat.le_refl _) _⟩
set_option maxRecDepth 100000 in
set_option maxHeartbeats 1000000 in
theorem degree_one (a b d : Int) (v : Nat) (tp : Option Addr) (tc : Nat) (w : World) (h : TermsAt w tp 1 tc [([a, b], false, [1])]) (hv : v < 2) (hd : dig [a, b] v = d) (hd0 : 0 ≤ d) :
    Calls Tryz.prog 48 #[.agg #[.int .i64 2, .slice tp 1 tc], .int .i64 (v : Int)] w fun e w' => e = .returned (.int .i64 d) ∧ Below w.heap.size w w' := by
  obtain ⟨W, hW⟩ : ∃ W, W = w.alloc (.cells #[.int .i64 2, .slice tp 1 tc] 25) := ⟨_, rfl⟩
  have HW : Hid (Below w.heap.size w W) := by rw [hW]; exact (Below.refl _ _).alloc (Nat.le_refl _) _
  have HWE : Hid (W = w.alloc (.cells #[.int .i64 2, .slice tp 1 tc] 25)) := hW
  have HP : Hid (TermsAt W tp 1 tc [([a, b], false, [1])] ∧ dig [a, b] v = d) := ⟨h.later HW.out, hd⟩
  clear hW h hd
  go_enter Tryz.func48, Tryz.ntmps48
  go_wp2
  rw [← HWE.out]
  go_loopw [11, 5] (fun i x wr => ∃ k : Nat, k ≤ 1 ∧ i = .int .i64 (k : Int) ∧ x = .int .i64 (if k = 0 then -1 else d) ∧ Hid (Below W.heap.size W wr)) (fun i _ _ => 1 - (intOf i).toNat)
  case atStart => exact ⟨0, by omega, rfl, rfl, Below.refl _ _⟩
  case round =>
    obtain ⟨k, hk, rfl, rfl, HS⟩ := hrel
    by_cases h0 : k = 0
    · subst h0
      obtain ⟨b9, off, eo, el, ec, n1, ao, la, ca, rfl, hb, ⟨a0, a1, a2⟩, hn1, he1, hr1, hw1, hl1⟩ := (HP.out.1.later HS.out).get (k := 0) (by simp)
      have hel : el = 2 := he1.row.hlen
      subst hel
      obtain ⟨b8, o8, rfl, hb8, hc8⟩ := he1.row.get (by omega)
      have h8 := hc8 v hv
      have h8' : wr.cell? ⟨b8, o8 + v, none⟩ = some (.int .i64 d) := by rw [← HP.out.2]; exact h8
      simp only [Nat.zero_mul, Nat.add_zero] at a0 a1 a2
      have z1 : (v : Int) < 2 := by omega
      have z2 : (0 : Int) ≤ (v : Int) := by omega
      have z3 : max (-1 : Int) d = d := by omega
      have hbw := Nat.ne_of_lt hb8
      clear hc8 h8 hn1 he1 hr1 hw1 hl1
      go_wp2
      go_roundw
      case rel => exact ⟨1, by omega, by go_num, by simp [z3], HS.out.trans ((Below.refl _ _).alloc (by exact HS.out.size) _)⟩
      case measure => simp [intOf]
    · obtain rfl : k = 1 := by omega
      go_wp2
      go_ret
      exact ⟨by simp, bnext HW.out HS.out⟩
end Go.Proofs.YtiemgadnnnhmkaaGreat
/-
  NN: walks: mpoly's tooHigh of two polynomials of one term each; a made row of terms. (gen/nn.py)
-/
namespace Go.Proofs.YtiemgadnnnhmkaaGreat
open Go.RowKit
set_option linter.unusedVariables false
set_option linter.unusedSimpArgs false
set_option maxRecDepth 100000 in
set_option maxHeartbeats 1000000 in
theorem tooHigh_one (a b c d : Int) (tp tq : Option Addr) (tc qc : Nat) (w : World) (h : TermsAt w tp 1 tc [([a, b], false, [1])]) (hq : TermsAt w tq 1 qc [([c, d], false, [1])]) (ha : 0 ≤ a ∧ a ≤ 500) (hb : 0 ≤ b ∧ b ≤ 500) (hc : 0 ≤ c ∧ c ≤ 500) (hd : 0 ≤ d ∧ d ≤ 500) :
    Calls Tryz.prog 32 #[.agg #[.int .i64 2, .slice tp 1 tc], .agg #[.int .i64 2, .slice tq 1 qc]] w fun e w' => e = .returned (.bool false) ∧ Below w.heap.size w w' := by
  obtain ⟨W, hW⟩ : ∃ W, W = (w.alloc (.cells #[.int .i64 2, .slice tp 1 tc] 25)).alloc (.cells #[.int .i64 2, .slice tq 1 qc] 25) := ⟨_, rfl⟩
  obtain ⟨hbW, hk⟩ := box2 hW
  have HWE : Hid (W = (w.alloc (.cells #[.int .i64 2, .slice tp 1 tc] 25)).alloc (.cells #[.int .i64 2, .slice tq 1 qc] 25)) := hW
  have HP : Hid (TermsAt W tp 1 tc [([a, b], false, [1])] ∧ TermsAt W tq 1 qc [([c, d], false, [1])]) := ⟨h.later hbW, hq.later hbW⟩
  have HB : Hid (Below w.heap.size w W) := hbW
  have HD : Hid ((∀ v, v < 2 → 0 ≤ dig [a, b] v ∧ dig [a, b] v ≤ 500) ∧ ∀ v, v < 2 → 0 ≤ dig [c, d] v ∧ dig [c, d] v ≤ 500) :=
    ⟨fun v hv => (by match v, hv with | 0, _ => simpa [dig] using ha | 1, _ => simpa [dig] using hb), fun v hv => (by match v, hv with | 0, _ => simpa [dig] using hc | 1, _ => simpa [dig] using hd)⟩
  have KC : Hid (∀ w', Below W.heap.size W w' → w'.cell? ⟨w.heap.size, 0, none⟩ = some (.int .i64 2) ∧ w'.cell? ⟨w.heap.size, 1, none⟩ = some (.slice tp 1 tc) ∧ w'.cell? ⟨w.heap.size + 1, 0, none⟩ = some (.int .i64 2) ∧ w'.cell? ⟨w.heap.size + 1, 1, none⟩ = some (.slice tq 1 qc)) := hk
  clear hW hbW hk h hq ha hb hc hd
  go_enter Tryz.func32, Tryz.ntmps32
  go_wp2
  rw [← HWE.out]
  go_loopw [8] (fun i wr => ∃ k : Nat, k ≤ 2 ∧ i = .int .i64 (k : Int) ∧ Hid (Below W.heap.size W wr)) (fun i _ => 2 - (intOf i).toNat)
  case atStart => exact ⟨0, by omega, rfl, Below.refl _ _⟩
  case round =>
    obtain ⟨k, hk, rfl, HS⟩ := hrel
    by_cases hlt : k < 2
    · have z1 : (k : Int) < 2 := by omega
      obtain ⟨x, hx⟩ : ∃ x, dig [a, b] k = x := ⟨_, rfl⟩
      obtain ⟨y, hy⟩ : ∃ y, dig [c, d] k = y := ⟨_, rfl⟩
      have hx1 := HD.out.1 k hlt
      have hy1 := HD.out.2 k hlt
      rw [hx] at hx1
      rw [hy] at hy1
      have HC1 : Hid (∀ W', Below W.heap.size W W' → Calls Tryz.prog 48 #[.agg #[.int .i64 2, .slice tp 1 tc], .int .i64 (k : Int)] W' fun e w' => e = .returned (.int .i64 x) ∧ Below W'.heap.size W' w') := fun W' hw => degree_one a b x k tp tc W' (HP.out.1.later hw) hlt hx hx1.1
      have HC2 : Hid (∀ W', Below W.heap.size W W' → Calls Tryz.prog 48 #[.agg #[.int .i64 2, .slice tq 1 qc], .int .i64 (k : Int)] W' fun e w' => e = .returned (.int .i64 y) ∧ Below W'.heap.size W' w') := fun W' hw => degree_one c d y k tq qc W' (HP.out.2.later hw) hlt hy hy1.1
      have z2 : IntKind.i64.wrap (x + y) = x + y := by rw [IntKind.wrap_i64]; omega
      have z3 : ¬ 1024 < x + y := by omega
      clear hx hy hx1 hy1
      obtain ⟨c0, c1, c2, c3⟩ := KC.out _ HS.out
      go_wp2
      clear c0 c1 c2 c3
      refine wp_region_noPanic ?_
      refine wp_region_held_drew (S := fun w' => (w'.cell? ⟨w.heap.size, 0, none⟩ = some (.int .i64 2) ∧ w'.cell? ⟨w.heap.size, 1, none⟩ = some (.slice tp 1 tc) ∧ w'.cell? ⟨w.heap.size + 1, 0, none⟩ = some (.int .i64 2) ∧ w'.cell? ⟨w.heap.size + 1, 1, none⟩ = some (.slice tq 1 qc))) (by kernel_rfl) (by (try dsimp only); exact KC.out _ HS.out.drew) (fun hHeld => ?_)
      refine wpAnyH_take (i := 0) (oi := Oper.mk (some 11) _ _ _ _ _) (v := ?_) rfl (by decide +kernel) (by decide +kernel) (by decide +kernel) (fun _ _ _ h => h) (Or.inl ⟨by rfl, ?_⟩) (by assumption) ?_
      rotate_left
      · (intro w hSw; (try dsimp only at hSw); go_simp <;> (try with_reducible rfl))
      (try simp only [Act.put, List.setIfInBounds_toArray, List.set_cons_zero, List.set_cons_succ])
      refine wpAnyH_take (i := 1) (oi := Oper.mk (some 12) _ _ _ _ _) (v := ?_) rfl (by decide +kernel) (by decide +kernel) (by decide +kernel) (fun _ _ _ h => h) (Or.inl ⟨by rfl, ?_⟩) (by assumption) ?_
      rotate_left
      · (intro w hSw; (try dsimp only at hSw); go_simp <;> (try with_reducible rfl))
      (try simp only [Act.put, List.setIfInBounds_toArray, List.set_cons_zero, List.set_cons_succ])
      refine wpAnyH_take (i := 3) (oi := Oper.mk (some 14) _ _ _ _ _) (v := ?_) rfl (by decide +kernel) (by decide +kernel) (by decide +kernel) (fun _ _ _ h => h) (Or.inl ⟨by rfl, ?_⟩) (by assumption) ?_
      rotate_left
      · (intro w hSw; (try dsimp only at hSw); go_simp <;> (try with_reducible rfl))
      (try simp only [Act.put, List.setIfInBounds_toArray, List.set_cons_zero, List.set_cons_succ])
      refine wpAnyH_take (i := 4) (oi := Oper.mk (some 15) _ _ _ _ _) (v := ?_) rfl (by decide +kernel) (by decide +kernel) (by decide +kernel) (fun _ _ _ h => h) (Or.inl ⟨by rfl, ?_⟩) (by assumption) ?_
      rotate_left
      · (intro w hSw; (try dsimp only at hSw); go_simp <;> (try with_reducible rfl))
      (try simp only [Act.put, List.setIfInBounds_toArray, List.set_cons_zero, List.set_cons_succ])
      refine wpAnyH_ready (rs := [2]) (by decide +kernel) (by simp) ?_
      refine AllReadyH.cons (o := Oper.mk (some 13) _ _ _ _ _) rfl (fun K hK => ?_) AllReadyH.nil
      go_simp
      (go_at_call 48; refine (HC1.out _ HS.out.drew).mono ?_; rintro e w4 ⟨rfl, hb4⟩; have H1 : Hid (Below W.heap.size W w4) := bnext HS.out.drew hb4; clear hb4)
      (try go_wp2_with fail)
      clear hHeld
      refine hK.out _ _ (by (try dsimp only); exact KC.out _ H1.out) (fun hHeld => ?_)
      clear hK K
      (try simp only [Act.put, List.setIfInBounds_toArray, List.set_cons_zero, List.set_cons_succ])
      refine wpAnyH_ready (rs := [5]) (by decide +kernel) (by simp) ?_
      refine AllReadyH.cons (o := Oper.mk (some 16) _ _ _ _ _) rfl (fun K hK => ?_) AllReadyH.nil
      go_simp
      (go_at_call 48; refine (HC2.out _ H1.out).mono ?_; rintro e w6 ⟨rfl, hb6⟩; have H2 : Hid (Below W.heap.size W w6) := bnext H1.out hb6; clear hb6)
      (try go_wp2_with fail)
      clear hHeld
      refine hK.out _ _ (by (try dsimp only); exact KC.out _ H2.out) (fun hHeld => ?_)
      clear hK K
      (try simp only [Act.put, List.setIfInBounds_toArray, List.set_cons_zero, List.set_cons_succ])
      refine wpAnyH_take (i := 6) (oi := Oper.mk (some 17) _ _ _ _ _) (v := ?_) rfl (by decide +kernel) (by decide +kernel) (by decide +kernel) (fun _ _ _ h => h) (Or.inl ⟨by rfl, ?_⟩) (by assumption) ?_
      rotate_left
      · (intro w hSw; (try dsimp only at hSw); go_simp <;> (try with_reducible rfl))
      (try simp only [Act.put, List.setIfInBounds_toArray, List.set_cons_zero, List.set_cons_succ])
      refine wpAnyH_take (i := 7) (oi := Oper.mk (some 18) _ _ _ _ _) (v := ?_) rfl (by decide +kernel) (by decide +kernel) (by decide +kernel) (fun _ _ _ h => h) (Or.inl ⟨by rfl, ?_⟩) (by assumption) ?_
      rotate_left
      · (intro w hSw; (try dsimp only at hSw); go_simp <;> (try with_reducible rfl))
      (try simp only [Act.put, List.setIfInBounds_toArray, List.set_cons_zero, List.set_cons_succ])
      refine wpAnyH_done (by decide +kernel) ?_ _
      refine NoPanic.normal ?_
      go_wp2
      go_roundw
      case rel => exact ⟨k + 1, by omega, by go_num, H2.out⟩
      case measure => simp [intOf]; omega
    · obtain rfl : k = 2 := by omega
      go_wp2
      go_ret
      exact ⟨rfl, bnext HB.out HS.out⟩
/-- one value alone in a row made by make: its cells -/
theorem bx_of_made {w w' : World} {t : TypeId} {L : List Value} {n size : Nat} (hL : 0 < L.length) (h : w'.ownsRow 0 t size (.slice (some ⟨w.heap.size, 0, none⟩) n n) n L) : Bx w' w.heap.size L := by
  rcases h.2 with ⟨hv, h0⟩ | ⟨g, cap, cur, hv, hg, hh, hc1, hc2, hs, ht⟩
  · cases hv
  · simp only [Value.slice.injEq, Option.some.injEq, Addr.mk.injEq] at hv
    obtain ⟨⟨rfl, _⟩, _, rfl⟩ := hv
    have h2 : cur.toList = L := by rw [← ht, List.take_of_length_le (by simp; omega)]
    refine ⟨fun j v hj => ?_, fun j => ?_⟩
    · have h3 : cur[j]? = some v := by rw [← h2] at hj; simpa using hj
      simp [World.cell?, hh, h3]
    · simp [World.frozen?, hh]
end Go.Proofs.YtiemgadnnnhmkaaGreat
/-
  NO: walks: mpoly's laid of one entry of two variables.
-/
namespace Go.Proofs.YtiemgadnnnhmkaaGreat
open Go.RowKit
set_option linter.unusedVariables false
set_option linter.unusedSimpArgs false
theorem RowAt.cellKept9 {w : World} {k : IntKind} {ao : Option Addr} {len cap r j : Nat} {zs : List Int} {v : Value} (h : RowAt w k ao len cap zs) (hv : w.cell? ⟨r, j, none⟩ = some v) (hn : ∀ z, v ≠ .int k z) (x : Value) : RowAt (w.setCell ⟨r, j, none⟩ x) k ao len cap zs := by
  refine ⟨h.hlen, h.hcap, h.hnil, ?_⟩
  rcases h.hat with h0 | ⟨b, off, h1, hlt, h2⟩
  · exact Or.inl h0
  · refine Or.inr ⟨b, off, h1, by simpa [World.setCell] using hlt, fun t ht => ?_⟩
    have hc := h2 t ht
    rw [setCell_ne]
    · exact hc
    · rintro ⟨e1, e2⟩
      simp only at e1 e2
      rw [e1, e2, hv] at hc
      exact hn _ (Option.some.inj hc)
/-- one term of two variables lies in block s, its exponents in a block of their own, both from B on -/
def TermOne (B : Nat) (W : World) (s : Nat) (a b : Int) : Prop := ∃ g ao la ca, B ≤ g ∧ B ≤ s ∧ W.cell? ⟨g, 0, none⟩ = some (.int .i64 a) ∧ W.cell? ⟨g, 1, none⟩ = some (.int .i64 b) ∧ W.cell? ⟨s, 0, none⟩ = some (.slice (some ⟨g, 0, none⟩) 2 2) ∧ W.cell? ⟨s, 1, none⟩ = some (.bool false) ∧ W.cell? ⟨s, 2, none⟩ = some (.slice ao la ca) ∧ RowAt W .u64 ao la ca [1]
theorem TermOne.terms {B s : Nat} {W : World} {a b : Int} (h : TermOne B W s a b) : TermsAt W (some ⟨s, 0, none⟩) 1 1 [([a, b], false, [1])] := by
  obtain ⟨g, ao, la, ca, _, _, c0, c1, s0, s1, s2, hr⟩ := h
  exact oneM_done c0 c1 s0 s1 s2 hr
theorem TermOne.mono {B B' s : Nat} {W : World} {a b : Int} (h : TermOne B W s a b) (hB : B' ≤ B) : TermOne B' W s a b := by
  obtain ⟨g, ao, la, ca, h1, h2, h3⟩ := h
  exact ⟨g, ao, la, ca, Nat.le_trans hB h1, Nat.le_trans hB h2, h3⟩
theorem TermOne.later {B s : Nat} {W W' : World} {a b : Int} (h : TermOne B W s a b) (hb : Below W.heap.size W W') : TermOne B W' s a b := by
  obtain ⟨g, ao, la, ca, h1, h2, c0, c1, s0, s1, s2, hr⟩ := h
  exact ⟨g, ao, la, ca, h1, h2, (hb.cell (p := ⟨g, 0, none⟩) (cell_lt c0)).trans c0, (hb.cell (p := ⟨g, 1, none⟩) (cell_lt c1)).trans c1, (hb.cell (p := ⟨s, 0, none⟩) (cell_lt s0)).trans s0, (hb.cell (p := ⟨s, 1, none⟩) (cell_lt s1)).trans s1, (hb.cell (p := ⟨s, 2, none⟩) (cell_lt s2)).trans s2, hr.later hb⟩
theorem TermOne.store {B s r k : Nat} {W : World} {a b : Int} {x v : Value} (h : TermOne B W s a b) (hr : r < B) (hx : W.cell? ⟨r, k, none⟩ = some x) (hn : ∀ z, x ≠ .int .u64 z) : TermOne B (W.setCell ⟨r, k, none⟩ v) s a b := by
  obtain ⟨g, ao, la, ca, h1, h2, c0, c1, s0, s1, s2, h3⟩ := h
  have e1 : g ≠ r := by omega
  have e2 : s ≠ r := by omega
  exact ⟨g, ao, la, ca, h1, h2, by rw [cell_off e1]; exact c0, by rw [cell_off e1]; exact c1, by rw [cell_off e2]; exact s0, by rw [cell_off e2]; exact s1, by rw [cell_off e2]; exact s2, h3.cellKept9 hx hn _⟩
/-- a polynomial of one such term in memory of its own, and the error number of none -/
def OneME (a b : Int) (w : World) (e : Ending) (w' : World) : Prop := ∃ s, e = .returned (.tuple #[.agg #[.int .i64 2, .slice (some ⟨s, 0, none⟩) 1 1], .int .i64 0]) ∧ TermOne w.heap.size w' s a b ∧ Below w.heap.size w w'
/-- an entry of two variables -/
def entry2 (a b : Int) (ao : Option Addr) (la ca : Nat) : List Value := [.int .u16 a, .int .u16 b, .int .u16 0, .int .u16 0, .int .u16 0, .int .u16 0, .int .u16 0, .int .u16 0, .bool false, .slice ao la ca]
theorem infoTerm : (Tryz.prog.info? 56).map (fun i => (i.zero, i.size, i.bytes)) = some (some (.agg #[.slice none 0 0, .bool false, .slice none 0 0]), 3, 56) := by kernel_rfl
theorem made_term : (madeCells (Value.agg #[.slice none 0 0, .bool false, .slice none 0 0]).cells (1 * 3)).toList = [Value.slice none 0 0, .bool false, .slice none 0 0] := by
  simp [madeCells, Value.cells]
  try rfl
/-- how laid stands in its loop -/
structure LdSt (w wr : World) (r0 r1 g1 g2 : Nat) (a b : Int) (t : List Value) : Prop where
  x1 : Bx wr r1 [.int .i64 2, .slice (some ⟨g2, 0, none⟩) 1 1]
  x0 : Bx wr r0 [.int .i64 0, .slice none 0 0]
  bk : Bx wr g1 [.int .i64 a, .int .i64 b]
  xt : Bx wr g2 t
  bel : Below w.heap.size w wr
theorem Bx.set1 {w : World} {r j : Nat} {v x : Value} {vs : List Value} (h : Bx w r vs) (hj : vs[j]? = some x) : Bx (w.setCell ⟨r, j, none⟩ v) r (vs.set j v) := by
  refine ⟨fun i u hi => ?_, fun i => frozen_off.trans (h.2 i)⟩
  by_cases e : j = i
  · subst e
    have hl : j < vs.length := (List.getElem?_eq_some_iff.1 hj).1
    rw [List.getElem?_set_self hl] at hi
    cases hi
    exact set_hit (h.1 j x hj)
  · rw [List.getElem?_set_ne e] at hi
    exact (setCell_ne (fun q => e q.2.symm)).trans (h.1 i u hi)
theorem LdSt.set {w wr : World} {r0 r1 g1 g2 j : Nat} {x y z x' y' : Int} {t : List Value} (h : LdSt w wr r0 r1 g1 g2 x y t) (h0 : r0 ≠ g1) (h1 : r1 ≠ g1) (h2 : g2 ≠ g1) (hb : w.heap.size ≤ g1) (hj : j < 2) (e : [Value.int .i64 x, .int .i64 y].set j (.int .i64 z) = [.int .i64 x', .int .i64 y']) : LdSt w (wr.setCell ⟨g1, j, none⟩ (.int .i64 z)) r0 r1 g1 g2 x' y' t :=
  ⟨h.x1.off (ws := [.int .i64 z]) h1 j, h.x0.off (ws := [.int .i64 z]) h0 j, by
    obtain ⟨v, hv⟩ : ∃ v, [Value.int .i64 x, .int .i64 y][j]? = some v := ⟨_, List.getElem?_eq_getElem (by simpa using hj)⟩
    have := h.bk.set1 (v := .int .i64 z) hv
    rw [e] at this; exact this, h.xt.off (ws := [.int .i64 z]) h2 j, below_set h.bel hb⟩
theorem LdSt.term {w wr : World} {r0 r1 g1 g2 : Nat} {x y : Int} {t ws : List Value} (h : LdSt w wr r0 r1 g1 g2 x y t) (h0 : r0 ≠ g2) (h1 : r1 ≠ g2) (h2 : g1 ≠ g2) (hb : w.heap.size ≤ g2) (hl : ws.length = t.length) : LdSt w (putl wr g2 0 ws) r0 r1 g1 g2 x y ws :=
  ⟨h.x1.off (ws := ws) h1 0, h.x0.off (ws := ws) h0 0, h.bk.off (ws := ws) h2 0, h.xt.put hl, putl_below hb ws 0 _ h.bel⟩
theorem LdSt.later {w wr w' : World} {r0 r1 g1 g2 : Nat} {x y : Int} {t : List Value} (h : LdSt w wr r0 r1 g1 g2 x y t) (ht : 0 < t.length) (hb : Below wr.heap.size wr w') : LdSt w w' r0 r1 g1 g2 x y t := by
  have hlt : g2 < wr.heap.size := by
    match t, ht with
    | v :: r, _ => exact h.xt.lt
  exact ⟨h.x1.later hb h.x1.lt, h.x0.later hb h.x0.lt, h.bk.later hb h.bk.lt, h.xt.later hb hlt, bnext h.bel hb⟩
set_option maxRecDepth 100000 in
set_option maxHeartbeats 1000000 in
theorem laid_one (a b : Int) (g o cap : Nat) (ao : Option Addr) (la ca : Nat) (w : World) (ha : 0 ≤ a ∧ a < 65536) (hb : 0 ≤ b ∧ b < 65536) (hc : ∀ j v, (entry2 a b ao la ca)[j]? = some v → w.cell? ⟨g, o + j, none⟩ = some v) (hg : g < w.heap.size) (hr : RowAt w .u64 ao la ca [1]) :
    Calls Tryz.prog 30 #[.int .i64 2, .slice (some ⟨g, o, none⟩) 1 cap] w (OneME a b w) := by
  have KE : Hid (∀ w', Below w.heap.size w w' → (∀ j v, (entry2 a b ao la ca)[j]? = some v → w'.cell? ⟨g, o + j, none⟩ = some v)) := fun w' h j v hj => (h.cell (p := ⟨g, o + j, none⟩) hg).trans (hc j v hj)
  have HR : Hid (RowAt w .u64 ao la ca [1] ∧ (0 ≤ a ∧ a < 65536) ∧ 0 ≤ b ∧ b < 65536) := ⟨hr, ha, hb⟩
  clear hc hg hr ha hb
  obtain ⟨i0, hi, hz0, hz1, hz2⟩ := info_parts infoInt
  obtain ⟨i1, ti, tz0, tz1, tz2⟩ := info_parts infoTerm
  obtain ⟨W0, hW0⟩ : ∃ W0, W0 = (w.alloc (.cells #[.int .i64 0, .slice none 0 0] 25)).alloc (.cells #[.int .i64 2, .slice none 0 0] 25) := ⟨_, rfl⟩
  have HB0 : Hid (Below w.heap.size w W0 ∧ W0.heap.size = w.heap.size + 2) := ⟨by rw [hW0]; exact bnext ((Below.refl _ _).alloc (Nat.le_refl _) _) ((Below.refl _ _).alloc (Nat.le_refl _) _), by rw [hW0]; simp⟩
  have HX0 : Hid (Bx W0 (w.heap.size + 1) [.int .i64 2, .slice none 0 0] ∧ Bx W0 w.heap.size [.int .i64 0, .slice none 0 0]) := by
    have hx := Bx.new w [.int .i64 0, .slice none 0 0] 25
    have hy := Bx.new (w.alloc (.cells #[.int .i64 0, .slice none 0 0] 25)) [.int .i64 2, .slice none 0 0] 25
    rw [hW0]
    exact ⟨by simpa using hy, hx.later ((Below.refl _ _).alloc (Nat.le_refl _) _) hx.lt⟩
  have HW0 : Hid (W0 = (w.alloc (.cells #[.int .i64 0, .slice none 0 0] 25)).alloc (.cells #[.int .i64 2, .slice none 0 0] 25)) := hW0
  clear hW0
  have b1 : Hid (i0.bytes * 2 ≤ 281474976710656) := by show _ ≤ _; rw [hz2]; omega
  have b2 : Hid (2 ≤ maxLen) := by show _ ≤ _; unfold maxLen; omega
  have b3 : Hid (i1.bytes * 1 ≤ 281474976710656) := by show _ ≤ _; rw [tz2]; omega
  have b4 : Hid (1 ≤ maxLen) := by show _ ≤ _; unfold maxLen; omega
  go_enter Tryz.func30, Tryz.ntmps30
  go_wp2_with (first
    | (have _t := hi; at_make; rw [← HW0.out]; refine wpList_make_full _ rfl (.tmp 25) (.tmp 25) 54 rfl 0 3 i0 (.int .i64 0) 1 Tryz.underlying54 hi hz0 hz1 .i64 .i64 _ _ 2 rfl rfl (by decide) (by decide) b1.out b2.out (Nat.zero_le _) ?_; intro w1 hown1 hgrow1; have HK : Hid (Blk w1 W0.heap.size .i64 3 [0, 0] ∧ Below W0.heap.size W0 w1) := ⟨made_blk hown1, grown_below hgrow1⟩; clear hown1 hgrow1 hi)
    | (at_make; refine wpList_make_full _ rfl (.tmp 28) (.tmp 28) 23 rfl 0 56 i1 (.agg #[.slice none 0 0, .bool false, .slice none 0 0]) 3 Tryz.underlying23 ti tz0 tz1 .i64 .i64 _ _ 1 rfl rfl (by decide) (by decide) b3.out b4.out (Nat.zero_le _) ?_; intro w2 hown2 hgrow2; rw [made_term] at hown2; have HK2 : Hid (Bx w2 w1.heap.size [.slice none 0 0, .bool false, .slice none 0 0] ∧ Below w1.heap.size w1 w2) := ⟨bx_of_made (by decide) hown2, grown_below hgrow2⟩; clear hown2 hgrow2; have HM : Hid (Bx w2 (w.heap.size + 1) [.int .i64 2, .slice none 0 0] ∧ Bx w2 w.heap.size [.int .i64 0, .slice none 0 0] ∧ Blk w2 W0.heap.size .i64 3 [0, 0] ∧ Below W0.heap.size W0 w2) := ⟨HX0.out.1.later (bnext HK.out.2 HK2.out.2) HX0.out.1.lt, HX0.out.2.later (bnext HK.out.2 HK2.out.2) HX0.out.2.lt, HK.out.1.later HK2.out.2 HK.out.1.lt, bnext HK.out.2 HK2.out.2⟩; have m0 := HM.out.1.1 0 _ rfl; have m1 := HM.out.1.1 1 _ rfl; have mf := HM.out.1.2))
  have hd1 : w1.heap.size ≠ w.heap.size + 1 := by have := HM.out.1.lt; have h2 := HK.out.1.lt; have := HB0.out.2; omega
  have hd0 : w1.heap.size ≠ w.heap.size := by have h2 := HK.out.1.lt; have := HB0.out.2; omega
  have HS0 : Hid (LdSt w (w2.setCell ⟨w.heap.size + 1, 1, none⟩ (.slice (some ⟨w1.heap.size, 0, none⟩) 1 1)) w.heap.size (w.heap.size + 1) W0.heap.size w1.heap.size 0 0 [.slice none 0 0, .bool false, .slice none 0 0]) := by
    have h1 := (HM.out.1.set1 (j := 1) (v := .slice (some ⟨w1.heap.size, 0, none⟩) 1 1) rfl)
    refine ⟨h1, HM.out.2.1.off (ws := [.slice (some ⟨w1.heap.size, 0, none⟩) 1 1]) (by omega) 1, ?_, HK2.out.1.off (ws := [.slice (some ⟨w1.heap.size, 0, none⟩) 1 1]) hd1 1, below_set (HB0.out.1.trans (HM.out.2.2.2.mono (by have := HB0.out.2; omega))) (by omega)⟩
    have hb9 : Bx w2 W0.heap.size [.int .i64 0, .int .i64 0] := ⟨fun j v hj => (by
      match j, hj with
      | 0, hj => cases hj; exact HM.out.2.2.1.cell (j := 0) (by decide)
      | 1, hj => cases hj; exact HM.out.2.2.1.cell (j := 1) (by decide)), HM.out.2.2.1.frozen⟩
    exact hb9.off (ws := [.slice (some ⟨w1.heap.size, 0, none⟩) 1 1]) (by have := HB0.out.2; omega) 1
  obtain ⟨g1, hg1⟩ : ∃ g1, g1 = W0.heap.size := ⟨_, rfl⟩
  obtain ⟨g2, hg2⟩ : ∃ g2, g2 = w1.heap.size := ⟨_, rfl⟩
  rw [← hg1, ← hg2] at HS0
  have HG : Hid (g1 = w.heap.size + 2 ∧ g1 < g2) := by have := HK.out.1.lt; have := HB0.out.2; exact ⟨by omega, by omega⟩
  simp only [← hg1, ← hg2]
  clear hg1 hg2 hd1 hd0 m0 m1 mf HM HK HK2 HX0 HW0 HB0
  go_loopw [33] (fun i wr => (i = .int .i64 0 ∧ Hid (LdSt w wr w.heap.size (w.heap.size + 1) g1 g2 0 0 [.slice none 0 0, .bool false, .slice none 0 0])) ∨ (i = .int .i64 1 ∧ Hid (LdSt w wr w.heap.size (w.heap.size + 1) g1 g2 a b [.slice (some ⟨g1, 0, none⟩) 2 2, .bool false, .slice ao la ca]))) (fun i _ => 1 - (intOf i).toNat)
  case atStart => exact Or.inl ⟨rfl, HS0.out⟩
  case round =>
    rcases hrel with ⟨rfl, HS⟩ | ⟨rfl, HS⟩
    · obtain ⟨U, hU⟩ : ∃ U, U = wr.alloc (.cells (entry2 a b ao la ca).toArray 69) := ⟨_, rfl⟩
      have HUX : Hid (Bx U wr.heap.size (entry2 a b ao la ca) ∧ LdSt w U w.heap.size (w.heap.size + 1) g1 g2 0 0 [.slice none 0 0, .bool false, .slice none 0 0]) := by
        rw [hU]; exact ⟨Bx.new _ _ _, HS.out.later (by decide) ((Below.refl _ _).alloc (Nat.le_refl _) _)⟩
      have e0 := KE.out wr HS.out.bel 0 _ rfl
      have e1 := KE.out wr HS.out.bel 1 _ rfl
      have e2 := KE.out wr HS.out.bel 2 _ rfl
      have e3 := KE.out wr HS.out.bel 3 _ rfl
      have e4 := KE.out wr HS.out.bel 4 _ rfl
      have e5 := KE.out wr HS.out.bel 5 _ rfl
      have e6 := KE.out wr HS.out.bel 6 _ rfl
      have e7 := KE.out wr HS.out.bel 7 _ rfl
      have e8 := KE.out wr HS.out.bel 8 _ rfl
      have e9 := KE.out wr HS.out.bel 9 _ rfl
      simp only [Nat.add_zero] at e0
      have hU' : U = wr.alloc (.cells #[.int .u16 a, .int .u16 b, .int .u16 0, .int .u16 0, .int .u16 0, .int .u16 0, .int .u16 0, .int .u16 0, .bool false, .slice ao la ca] 69) := hU
      have HUE : Hid (U = wr.alloc (.cells #[.int .u16 a, .int .u16 b, .int .u16 0, .int .u16 0, .int .u16 0, .int .u16 0, .int .u16 0, .int .u16 0, .bool false, .slice ao la ca] 69)) := hU'
      clear hU hU'
      go_wp2
      rw [← HUE.out]
      clear e0 e1 e2 e3 e4 e5 e6 e7 e8 e9
      have HN : Hid (g1 < wr.heap.size ∧ g2 < wr.heap.size ∧ g1 = w.heap.size + 2 ∧ g1 < g2) := ⟨HS.out.bk.lt, HS.out.xt.lt, HG.out⟩
      have zu : IntKind.i64.wrap a = a := by have := HR.out.2.1; rw [IntKind.wrap_i64]; omega
      have zv : IntKind.i64.wrap b = b := by have := HR.out.2.2; rw [IntKind.wrap_i64]; omega
      obtain ⟨r9, hr9⟩ : ∃ r9, r9 = wr.heap.size := ⟨_, rfl⟩
      rw [← hr9] at HUX HN
      simp only [← hr9]
      clear hr9 HUE HS
      obtain ⟨wo, hwo⟩ : ∃ x, x = wr := ⟨_, rfl⟩
      subst hwo
      go_loopw [53] (fun i wv => ∃ k : Nat, k ≤ 2 ∧ i = .int .i64 (k : Int) ∧ Hid (Bx wv r9 (entry2 a b ao la ca) ∧ LdSt w wv w.heap.size (w.heap.size + 1) g1 g2 (if 0 < k then a else 0) (if 1 < k then b else 0) [.slice none 0 0, .bool false, .slice none 0 0])) (fun i _ => 2 - (intOf i).toNat)
      case atStart => exact ⟨0, by omega, rfl, HUX.out.1, by simpa using HUX.out.2⟩
      case round =>
        obtain ⟨k, hk, rfl, HI⟩ := hrel
        by_cases h0 : k = 0
        · subst h0
          have x0 := HI.out.1.1 0 _ rfl
          have y0 := HI.out.2.bk.1 0 _ rfl
          have yf := HI.out.2.bk.2
          go_wp2
          go_roundw
          case rel => exact ⟨1, by omega, by go_num, HI.out.1.off (ws := [.int .i64 a]) (by have := HN.out; omega) 0, by have := HN.out; exact HI.out.2.set (by omega) (by omega) (by omega) (by omega) (by decide) (by simp)⟩
          case measure => simp [intOf]
        · by_cases h1 : k = 1
          · subst h1
            have x0 := HI.out.1.1 1 _ rfl
            have y0 := HI.out.2.bk.1 1 _ rfl
            have yf := HI.out.2.bk.2
            go_wp2
            go_roundw
            case rel => exact ⟨2, by omega, by go_num, HI.out.1.off (ws := [.int .i64 b]) (by have := HN.out; omega) 1, by have := HN.out; exact HI.out.2.set (by omega) (by omega) (by omega) (by omega) (by decide) (by simp)⟩
            case measure => simp [intOf]
          · obtain rfl : k = 2 := by omega
            have x8 := HI.out.1.1 8 _ rfl
            have x9 := HI.out.1.1 9 _ rfl
            have y1 := HI.out.2.x1.1 1 _ rfl
            have t0 := HI.out.2.xt.1 0 _ rfl
            have t1 := HI.out.2.xt.1 1 _ rfl
            have t2 := HI.out.2.xt.1 2 _ rfl
            have tf := HI.out.2.xt.2
            go_wp2
            go_roundw
            case rel => exact Or.inr ⟨by go_num, by have := HN.out; exact HI.out.2.term (ws := [.slice (some ⟨g1, 0, none⟩) 2 2, .bool false, .slice ao la ca]) (by omega) (by omega) (by omega) (by omega) rfl⟩
            case measure => simp [intOf]
    · have q0 := HS.out.x0.1 0 _ rfl
      have q1 := HS.out.x0.1 1 _ rfl
      have qf := HS.out.x0.2
      have p0 := HS.out.x1.1 0 _ rfl
      have p1 := HS.out.x1.1 1 _ rfl
      go_wp2
      have hn1 : g1 ≠ w.heap.size := by have := HG.out; omega
      have hn2 : g2 ≠ w.heap.size := by have := HG.out; omega
      have hbF : Below w.heap.size w ((wr.setCell ⟨w.heap.size, 0, none⟩ (.int .i64 2)).setCell ⟨w.heap.size, 1, none⟩ (.slice (some ⟨g2, 0, none⟩) 1 1)) := below_store HS.out.bel (Nat.le_refl _) _ _
      have hO : OneME a b w (.returned (.tuple #[.agg #[.int .i64 2, .slice (some ⟨g2, 0, none⟩) 1 1], .int .i64 0])) ((wr.setCell ⟨w.heap.size, 0, none⟩ (.int .i64 2)).setCell ⟨w.heap.size, 1, none⟩ (.slice (some ⟨g2, 0, none⟩) 1 1)) := by
        have hG := HG.out
        refine ⟨g2, rfl, ⟨g1, ao, la, ca, by omega, by omega, ?_, ?_, ?_, ?_, ?_, HR.out.1.later hbF⟩, hbF⟩
        · rw [cell_off hn1, cell_off hn1]; exact HS.out.bk.1 0 _ rfl
        · rw [cell_off hn1, cell_off hn1]; exact HS.out.bk.1 1 _ rfl
        · rw [cell_off hn2, cell_off hn2]; exact HS.out.xt.1 0 _ rfl
        · rw [cell_off hn2, cell_off hn2]; exact HS.out.xt.1 1 _ rfl
        · rw [cell_off hn2, cell_off hn2]; exact HS.out.xt.1 2 _ rfl
      exact bodyPost_ret (v := .tuple #[.agg #[.int .i64 2, .slice (some ⟨g2, 0, none⟩) 1 1], .int .i64 0]) (by simp [results, Tryz.results30, go_sem, q0, q1, qf]) rfl hO
end Go.Proofs.YtiemgadnnnhmkaaGreat
