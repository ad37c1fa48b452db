/-
  MM: walks: what is too heavy; the law's items in memory, and off a reading.
-/
import Derived.Test.YtpannkjjggelhaaDoorPM07
import Derived.ProofKit
import Derived.OpenShut
import Derived.Deep.Slices
import Derived.Deep.Strs
namespace Go.Proofs.YtpannkjjggelhaaDoor
open Go.RowKit Go.Shelf Go.ChangeShapes Go.WideShapes Go.ChangeAt
set_option linter.unusedVariables false
set_option linter.unusedSimpArgs false
/-- a list of numbers: how long each is -/
def PolyL (w : World) (po : Option Addr) (pl : Nat) (ls : List Nat) : Prop :=
  pl = ls.length ∧ ∀ t, (ht : t < ls.length) → ∃ b off n o c, po = some ⟨b, off, none⟩ ∧ w.cell? ⟨b, off + t * 2, none⟩ = some (.bool n) ∧ w.cell? ⟨b, off + t * 2 + 1, none⟩ = some (.slice o ls[t] c)
theorem PolyL.later {w w' : World} {po : Option Addr} {pl : Nat} {ls : List Nat} (h : PolyL w po pl ls) (hb : Below w.heap.size w w') : PolyL w' po pl ls :=
  ⟨h.1, fun t ht => by
    obtain ⟨b, off, n, o, c, e, h1, h2⟩ := h.2 t ht
    exact ⟨b, off, n, o, c, e, (hb.cell (p := ⟨b, off + t * 2, none⟩) (cell_lt h1)).trans h1, (hb.cell (p := ⟨b, off + t * 2 + 1, none⟩) (cell_lt h2)).trans h2⟩⟩
/-- too many numbers, or too long ones -/
def hvB (pl : Nat) (ls : List Nat) : Bool := decide (13 < pl) || ls.any fun l => decide (3 < l)
set_option maxRecDepth 100000 in
set_option maxHeartbeats 1000000 in
theorem mheavyPoly_any (c : Bool) (po : Option Addr) (pl pc : Nat) (ls : List Nat) (w : World) (hr : PolyL w po pl ls) (hc : hvB pl ls = c) :
    Calls Tryd.prog 17 #[.slice po pl pc, .int .i64 12, .int .i64 3] w fun e w' => e = .returned (.bool c) ∧ Below w.heap.size w w' := by
  by_cases hd : 13 < pl
  · obtain rfl : c = true := by rw [← hc]; simp [hvB, hd]
    have hd' : ((13 : Int) < (pl : Int)) := by omega
    clear hd hc
    go_enter Tryd.func17, Tryd.ntmps17
    go_wp2
    go_ret
    exact ⟨rfl, Below.refl _ _⟩
  · have hd' : ¬ ((13 : Int) < (pl : Int)) := by omega
    have HR : Hid (PolyL w po pl ls ∧ hvB pl ls = c ∧ ¬ 13 < pl) := ⟨hr, hc, hd⟩
    have hp13 : pl ≤ 13 := by omega
    clear hr hc hd
    go_enter Tryd.func17, Tryd.ntmps17
    go_wp2
    go_loopw [7] (fun i wr => ∃ k : Nat, k ≤ pl ∧ i = .int .i64 k ∧ Hid (Below w.heap.size w wr ∧ ∀ t, (ht : t < ls.length) → t < k → ls[t] ≤ 3)) (fun i _ => pl - (intOf i).toNat)
    case atStart => exact ⟨0, Nat.zero_le _, rfl, Below.refl _ _, fun t _ ht => absurd ht (by omega)⟩
    case round =>
      obtain ⟨k, hk, rfl, HZ⟩ := hrel
      by_cases hlt : k < pl
      · have hkl : k < ls.length := by rw [← HR.out.1.1]; exact hlt
        obtain ⟨b, off, n, o, cc, rfl, h1, h2⟩ := (HR.out.1.later HZ.out.1).2 k hkl
        obtain ⟨l, hl⟩ : ∃ l, ls[k] = l := ⟨_, rfl⟩
        rw [hl] at h2
        have HL : Hid (ls[k] = l ∧ k < ls.length) := ⟨hl, hkl⟩
        have z1 : (k : Int) < (pl : Int) := by omega
        have z2 : (0 : Int) ≤ (k : Int) := by omega
        by_cases h3 : 3 < l
        · obtain rfl : c = true := by
            rw [← HR.out.2.1]; unfold hvB
            exact Bool.or_eq_true_iff.2 (Or.inr (List.any_eq_true.2 ⟨ls[k], List.getElem_mem hkl, decide_eq_true (by rw [hl]; exact h3)⟩))
          have hcon : ∀ W', Calls Tryd.prog 28 #[.agg #[.bool n, .slice o l cc], .int .i64 3] W' fun e w' => e = .returned (.bool true) ∧ Below W'.heap.size W' w' := fun W' => (long_any n o l cc 3 W').mono fun e w' h => by rw [decide_eq_true (by omega)] at h; exact h
          clear h3 hl
          go_wp2_with (go_at_call 28; refine (hcon _).mono ?_; rintro e w1 ⟨rfl, hb1⟩)
          go_ret
          exact ⟨rfl, bnextM (B := 0) HZ.out.1 hb1⟩
        · have hcon : ∀ W', Calls Tryd.prog 28 #[.agg #[.bool n, .slice o l cc], .int .i64 3] W' fun e w' => e = .returned (.bool false) ∧ Below W'.heap.size W' w' := fun W' => (long_any n o l cc 3 W').mono fun e w' h => by rw [decide_eq_false (by omega)] at h; exact h
          have H3 : Hid (¬ 3 < l) := h3
          clear h3 hl
          go_wp2_with (go_at_call 28; refine (hcon _).mono ?_; rintro e w1 ⟨rfl, hb1⟩)
          go_roundw
          case rel => exact ⟨k + 1, by omega, by go_num, bnextM (B := 0) HZ.out.1 hb1, fun t ht htk => by
            by_cases e : t = k
            · subst e; have := HL.out.1; have := H3.out; omega
            · exact HZ.out.2 t ht (by omega)⟩
          case measure => simp [intOf]; omega
      · have z1 : ¬ (k : Int) < (pl : Int) := by omega
        obtain rfl : c = false := by
          rw [← HR.out.2.1]; unfold hvB
          rw [Bool.or_eq_false_iff]
          refine ⟨decide_eq_false HR.out.2.2, ?_⟩
          rw [List.any_eq_false]
          intro r hr
          obtain ⟨t, ht, rfl⟩ := List.getElem_of_mem hr
          have := HZ.out.2 t ht (by have := HR.out.1.1; omega)
          simp; omega
        go_wp2
        go_ret
        exact ⟨rfl, HZ.out.1⟩
/-- an item's cells -/
def itemV (ao bo co : Option Addr) (la ca lb cb lc cc : Nat) (N P : Int) (po : Option Addr) (pl pc : Nat) : List Value :=
  [.slice ao la ca, .slice bo lb cb, .slice co lc cc, .int .u64 N, .int .u64 P, .slice po pl pc]
/-- is an item too heavy? -/
def hvI (la lb lc pl : Nat) (ls : List Nat) : Bool := decide (12 < la) || (decide (12 < lb) || (decide (12 < lc) || hvB pl ls))
set_option maxRecDepth 100000 in
set_option maxHeartbeats 1000000 in
theorem mheavy_any (c : Bool) (ao bo co : Option Addr) (la ca lb cb lc cc : Nat) (N P : Int) (po : Option Addr) (pl pc : Nat) (ls : List Nat) (w : World) (hr : PolyL w po pl ls) (hc : hvI la lb lc pl ls = c) :
    Calls Tryd.prog 6 #[.agg #[.slice ao la ca, .slice bo lb cb, .slice co lc cc, .int .u64 N, .int .u64 P, .slice po pl pc]] w fun e w' => e = .returned (.bool c) ∧ Below w.heap.size w w' := by
  have HB : Hid (Below w.heap.size w (w.alloc (.cells #[.slice ao la ca, .slice bo lb cb, .slice co lc cc, .int .u64 N, .int .u64 P, .slice po pl pc] 29))) := (Below.refl _ _).alloc (Nat.le_refl _) _
  by_cases h1 : 12 < la
  · obtain rfl : c = true := by rw [← hc]; simp [hvI, h1]
    have h1' : (12 : Int) < (la : Int) := by omega
    clear hc h1 hr
    go_enter Tryd.func6, Tryd.ntmps6
    go_wp2
    go_ret
    exact ⟨rfl, HB.out⟩
  · have h1' : ¬ (12 : Int) < (la : Int) := by omega
    by_cases h2 : 12 < lb
    · obtain rfl : c = true := by rw [← hc]; simp [hvI, h2]
      have h2' : (12 : Int) < (lb : Int) := by omega
      clear hc h1 h2 hr
      go_enter Tryd.func6, Tryd.ntmps6
      go_wp2
      go_ret
      exact ⟨rfl, HB.out⟩
    · have h2' : ¬ (12 : Int) < (lb : Int) := by omega
      by_cases h3 : 12 < lc
      · obtain rfl : c = true := by rw [← hc]; simp [hvI, h3]
        have h3' : (12 : Int) < (lc : Int) := by omega
        clear hc h1 h2 h3 hr
        go_enter Tryd.func6, Tryd.ntmps6
        go_wp2
        go_ret
        exact ⟨rfl, HB.out⟩
      · have h3' : ¬ (12 : Int) < (lc : Int) := by omega
        have hc' : hvB pl ls = c := by rw [← hc]; simp [hvI, h1, h2, h3]
        have HC : Hid (∀ W, Below w.heap.size w W → Calls Tryd.prog 17 #[.slice po pl pc, .int .i64 12, .int .i64 3] W fun e w' => e = .returned (.bool c) ∧ Below W.heap.size W w') := fun W hb => mheavyPoly_any c po pl pc ls W (hr.later hb) hc'
        clear hc hc' h1 h2 h3 hr
        go_enter Tryd.func6, Tryd.ntmps6
        go_wp2_with (go_at_call 17; refine (HC.out _ HB.out).mono ?_; rintro e w1 ⟨rfl, hb1⟩)
        go_ret
        exact ⟨rfl, bnextM (B := 0) HB.out hb1⟩
/-- an item of the law lies in block b from o on -/
def Item11 (w : World) (b o : Nat) : Prop :=
  ∃ (ao bo co : Option Addr) (la ca lb cb lc cc : Nat) (N P : Int) (po : Option Addr) (pl pc : Nat) (x y z : List Int) (ls : List Nat),
    (∀ j v, (itemV ao bo co la ca lb cb lc cc N P po pl pc)[j]? = some v → w.cell? ⟨b, o + j, none⟩ = some v) ∧
    (RowAt w .u64 ao la ca x ∧ Wd 18446744073709551616 x ∧ la ≤ 9223372036854775807) ∧ (RowAt w .u64 bo lb cb y ∧ Wd 18446744073709551616 y ∧ lb ≤ 9223372036854775807) ∧ (RowAt w .u64 co lc cc z ∧ Wd 18446744073709551616 z ∧ lc ≤ 9223372036854775807) ∧
    (0 ≤ N ∧ N < 18446744073709551616) ∧ (0 ≤ P ∧ P < 18446744073709551616) ∧ PolyL w po pl ls
/-- a list of such -/
def Items11 (w : World) (lo : Option Addr) (n : Nat) : Prop := ∀ i, i < n → ∃ b off, lo = some ⟨b, off, none⟩ ∧ b < w.heap.size ∧ Item11 w b (off + i * 6)
theorem Item11.later {w w' : World} {b o : Nat} (h : Item11 w b o) (hb : Below w.heap.size w w') : Item11 w' b o := by
  obtain ⟨ao, bo, co, la, ca, lb, cb, lc, cc, N, P, po, pl, pc, x, y, z, ls, hc, hx, hy, hz, hN, hP, hl⟩ := h
  exact ⟨ao, bo, co, la, ca, lb, cb, lc, cc, N, P, po, pl, pc, x, y, z, ls, fun j v hj => (hb.cell (p := ⟨b, o + j, none⟩) (cell_lt (hc j v hj))).trans (hc j v hj), ⟨hx.1.later hb, hx.2⟩, ⟨hy.1.later hb, hy.2⟩, ⟨hz.1.later hb, hz.2⟩, hN, hP, hl.later hb⟩
theorem Items11.later {w w' : World} {lo : Option Addr} {n : Nat} (h : Items11 w lo n) (hb : Below w.heap.size w w') : Items11 w' lo n := fun i hi => by
  obtain ⟨b, off, e, hlt, hit⟩ := h i hi
  exact ⟨b, off, e, Nat.lt_of_lt_of_le hlt hb.size, hit.later hb⟩
theorem mcells_two : Tryd.prog.cellsOf 29 = 6 := by kernel_rfl
theorem mcells_int : Tryd.prog.cellsOf 63 = 2 := by kernel_rfl
theorem mcells_bool : Tryd.prog.cellsOf 4 = 1 := by kernel_rfl
theorem mcells_nat : Tryd.prog.cellsOf 61 = 1 := by kernel_rfl
theorem mcells_u64 : Tryd.prog.cellsOf 25 = 1 := by kernel_rfl
theorem mcells_f : Tryd.prog.cellsOf 24 = 1 := by kernel_rfl
theorem mcells_poly : Tryd.prog.cellsOf 27 = 1 := by kernel_rfl
theorem madd_off {b off j : Nat} : Addr.add ⟨b, off, none⟩ j = ⟨b, off + j, none⟩ := by
  by_cases h0 : j = 0
  · subst h0; simp [Addr.add]
  · simp [Addr.add, h0]
/-- words, off a reading -/
theorem mrow_of_trod {H : Type} {enc : TypeId × Value → H} {W : World} {fuel : Nat} {v : Value} {x : DataW H × List MemPlace} (h : DataW.trod enc Tryd.prog W 0 (fun _ => true) true fuel 24 [v] = some x) :
    ∃ ao len cap zs, v = .slice ao len cap ∧ RowAt W .u64 ao len cap zs ∧ Wd 18446744073709551616 zs ∧ cap ≤ 9223372036854775807 := by
  rcases open_ints Tryd.underlying24 Tryd.underlying25 mcells_u64 h with ⟨hcs, _⟩ | ⟨a, len, cap, zs, hcs, _, hl, hm, hz, _, hcell, hwz⟩
  · simp at hcs; subst hcs
    exact ⟨none, 0, 0, [], rfl, RowAt.nilRow W .u64, Wd.nil _, by decide⟩
  · simp at hcs; subst hcs
    simp only [if_true] at hz
    refine ⟨some a, len, cap, zs.take len, rfl, ⟨by simp; omega, hl, fun e => (by cases e), ?_⟩, ?_, hm⟩
    · by_cases h0 : len = 0
      · exact Or.inl h0
      · right
        obtain ⟨b, off, spot⟩ := a
        have hs : spot = none := by simpa [Addr.add] using World.cell?_spot (hcell 0 (by omega))
        subst hs
        refine ⟨b, off, rfl, ?_, fun t ht => ?_⟩
        · have := hcell 0 (by omega)
          rw [madd_off] at this; exact cell_lt this
        · have := hcell t (by omega)
          rw [madd_off] at this
          rw [dig_take ht]; exact this
    · intro z hz'
      have := bounds_u64 (hwz z (List.mem_of_mem_take hz'))
      omega
/-- a list of numbers, off a reading: how long they are -/
theorem mpoly_of_trod {H : Type} {enc : TypeId × Value → H} {W : World} {fuel : Nat} {v : Value} {x : DataW H × List MemPlace} (h : DataW.trod enc Tryd.prog W 0 (fun _ => true) true fuel 27 [v] = some x) :
    ∃ ao len cap ls, v = .slice ao len cap ∧ PolyL W ao len ls := by
  rcases Go.Deep.open_slice Tryd.underlying27 h with ⟨hcs, _⟩ | ⟨a, l, c, m, n, D, Pl, hcs, _, hl, hm, hmm, _, hx⟩
  · simp at hcs; subst hcs
    exact ⟨none, 0, 0, [], rfl, rfl, fun t ht => absurd ht (by simp)⟩
  · simp at hcs; subst hcs
    simp only [if_true] at hmm
    simp only [mcells_int] at hx
    by_cases h0 : l = 0
    · subst h0
      exact ⟨some a, 0, c, [], rfl, rfl, fun t ht => absurd ht (by simp)⟩
    · obtain ⟨b, off, spot⟩ := a
      have hs : spot = none := by
        obtain ⟨cs0, hcells0, _⟩ := hx 0 (by omega)
        obtain ⟨_, hlen0, hc0⟩ := World.cells?_some hcells0
        have h1 := hc0 0 (by omega)
        rw [List.getElem?_eq_getElem (by omega)] at h1
        simpa [Addr.add] using World.cell?_spot h1
      subst hs
      have hv : ∀ t, ∃ r : Nat, t < l → ∃ n o c, W.cell? ⟨b, off + t * 2, none⟩ = some (.bool n) ∧ W.cell? ⟨b, off + t * 2 + 1, none⟩ = some (.slice o r c) := by
        intro t
        by_cases ht : t < l
        · obtain ⟨cs, hcells, htr⟩ := hx t (by omega)
          obtain ⟨_, hlen, hc⟩ := World.cells?_some hcells
          match cs, hlen with
          | [v0, v1], _ =>
            obtain ⟨y0, y1, n, _, _, t0, t1⟩ := trod_struct2 Tryd.underlying63 htr
            simp only [mcells_bool, mcells_nat, List.drop_zero, List.take_succ_cons, List.take_zero, List.drop_succ_cons] at t0 t1
            obtain ⟨neg, hb, _⟩ := DataW.trod_bool Tryd.underlying4 t0
            simp at hb
            have g : ∀ j, j < 2 → W.cell? ⟨b, off + t * 2 + j, none⟩ = [v0, v1][j]? := by
              intro j hj
              have := hc j hj
              rw [madd_off, madd_off] at this; exact this
            rcases Go.Deep.open_slice Tryd.underlying61 t1 with ⟨hcs1, _⟩ | ⟨a1, l1, c1, _, _, _, _, hcs1, _⟩
            · simp at hcs1
              exact ⟨0, fun _ => ⟨neg, none, 0, by rw [← hb]; exact g 0 (by omega), by rw [← hcs1]; exact g 1 (by omega)⟩⟩
            · simp at hcs1
              exact ⟨l1, fun _ => ⟨neg, some a1, c1, by rw [← hb]; exact g 0 (by omega), by rw [← hcs1]; exact g 1 (by omega)⟩⟩
        · exact ⟨0, fun h => absurd h ht⟩
      refine ⟨some ⟨b, off, none⟩, l, c, (List.range l).map fun t => Classical.choose (hv t), rfl, by simp, fun t ht => ?_⟩
      have ht' : t < l := by simpa using ht
      have e : ((List.range l).map fun t => Classical.choose (hv t))[t] = Classical.choose (hv t) := by simp
      rw [e]
      obtain ⟨n, o, c', h1, h2⟩ := Classical.choose_spec (hv t) ht'
      exact ⟨b, off, n, o, c', rfl, h1, h2⟩
theorem mtrod_struct6 {H : Type} {enc : TypeId × Value → H} {P : Program} {w : World} {base : Nat} {spare : Nat → Bool} {held : Bool} {t : TypeId} {f0 f1 f2 f3 f4 f5 : Field} {fuel : Nat} {cs : List Value} {x : DataW H × List MemPlace} (ht : P.underlying t = some (.struct #[f0, f1, f2, f3, f4, f5])) (h : DataW.trod enc P w base spare held fuel t cs = some x) :
    ∃ y0 y1 y2 y3 y4 y5 n, DataW.trod enc P w base spare held n f0.type ((cs.drop f0.offset).take (P.cellsOf f0.type)) = some y0 ∧
      DataW.trod enc P w base spare held n f1.type ((cs.drop f1.offset).take (P.cellsOf f1.type)) = some y1 ∧ DataW.trod enc P w base spare held n f2.type ((cs.drop f2.offset).take (P.cellsOf f2.type)) = some y2 ∧
      DataW.trod enc P w base spare held n f3.type ((cs.drop f3.offset).take (P.cellsOf f3.type)) = some y3 ∧ DataW.trod enc P w base spare held n f4.type ((cs.drop f4.offset).take (P.cellsOf f4.type)) = some y4 ∧ DataW.trod enc P w base spare held n f5.type ((cs.drop f5.offset).take (P.cellsOf f5.type)) = some y5 := by
  obtain ⟨xs, n, _, rfl, hl, hlen, hf⟩ := DataW.trod_struct ht h
  match xs, hlen with
  | [y0, y1, y2, y3, y4, y5], _ => exact ⟨y0, y1, y2, y3, y4, y5, n, by simpa using hf 0 f0 rfl, by simpa using hf 1 f1 rfl, by simpa using hf 2 f2 rfl, by simpa using hf 3 f3 rfl, by simpa using hf 4 f4 rfl, by simpa using hf 5 f5 rfl⟩
set_option maxRecDepth 100000 in
set_option maxHeartbeats 4000000 in
/-- the list, off a reading -/
theorem items11_of_trod {H : Type} {enc : TypeId × Value → H} {W : World} {fuel : Nat} {lo : Option Addr} {len cap : Nat} {x : DataW H × List MemPlace} (h : DataW.trod enc Tryd.prog W 0 (fun _ => true) true fuel 22 [.slice lo len cap] = some x) : Items11 W lo len ∧ len ≤ 9223372036854775807 := by
  rcases Go.Deep.open_slice Tryd.underlying22 h with ⟨hcs, _⟩ | ⟨a, l, c, m, n, D, Pl, hcs, _, hl, hm, hmm, _, hx⟩
  · simp at hcs; obtain ⟨rfl, rfl, rfl⟩ := hcs
    exact ⟨fun i hi => absurd hi (by omega), by decide⟩
  · simp at hcs; obtain ⟨rfl, rfl, rfl⟩ := hcs
    refine ⟨fun i hi => ?_, Nat.le_trans hl hm⟩
    simp only [if_true] at hmm
    simp only [mcells_two] at hx
    obtain ⟨cs, hcells, htr⟩ := hx i (by omega)
    obtain ⟨_, hlen, hc⟩ := World.cells?_some hcells
    match cs, hlen with
    | [v0, v1, v2, v3, v4, v5], _ =>
      obtain ⟨b, off, spot⟩ := a
      have hs : spot = none := by
        obtain ⟨cs0, hcells0, _⟩ := hx 0 (by omega)
        obtain ⟨_, hlen0, hc0⟩ := World.cells?_some hcells0
        have h1 := hc0 0 (by omega)
        rw [List.getElem?_eq_getElem (by omega)] at h1
        simpa [Addr.add] using World.cell?_spot h1
      subst hs
      obtain ⟨y0, y1, y2, y3, y4, y5, n', t0, t1, t2, t3, t4, t5⟩ := mtrod_struct6 Tryd.underlying29 htr
      simp only [mcells_f, mcells_u64, mcells_poly, List.drop_zero, List.take_succ_cons, List.take_zero, List.drop_succ_cons] at t0 t1 t2 t3 t4 t5
      obtain ⟨ao, la, ca, x, rfl, hx1, hx2, hx3⟩ := mrow_of_trod t0
      obtain ⟨bo, lb, cb, y, rfl, hy1, hy2, hy3⟩ := mrow_of_trod t1
      obtain ⟨co, lc, cc, z, rfl, hz1, hz2, hz3⟩ := mrow_of_trod t2
      obtain ⟨N, e3, _, hN⟩ := DataW.trod_int Tryd.underlying25 t3
      obtain ⟨P, e4, _, hP⟩ := DataW.trod_int Tryd.underlying25 t4
      simp at e3 e4
      subst e3 e4
      obtain ⟨po, pl, pc, ls, rfl, hpl⟩ := mpoly_of_trod t5
      have g : ∀ j, j < 6 → W.cell? ⟨b, off + i * 6 + j, none⟩ = (itemV ao bo co la ca lb cb lc cc N P po pl pc)[j]? := by
        intro j hj
        have := hc j hj
        rw [madd_off, madd_off] at this; exact this
      refine ⟨b, off, rfl, cell_lt (g 0 (by omega)), ao, bo, co, la, ca, lb, cb, lc, cc, N, P, po, pl, pc, x, y, z, ls, fun j v hj => ?_, ⟨hx1, hx2, Nat.le_trans hx1.hcap hx3⟩, ⟨hy1, hy2, Nat.le_trans hy1.hcap hy3⟩, ⟨hz1, hz2, Nat.le_trans hz1.hcap hz3⟩, ?_, ?_, hpl⟩
      · by_cases h6 : j < 6
        · rw [g j h6]; exact hj
        · rw [List.getElem?_eq_none (by show 6 ≤ j; omega)] at hj; cases hj
      · have := bounds_u64 hN; omega
      · have := bounds_u64 hP; omega
end Go.Proofs.YtpannkjjggelhaaDoor
/-
  MN: ModPowers' walk.
-/
namespace Go.Proofs.YtpannkjjggelhaaDoor
open Go.RowKit Go.Shelf
set_option linter.unusedVariables false
set_option linter.unusedSimpArgs false
/-- the cells of the law's variable -/
theorem sixcells {w : World} {b : Nat} {v0 v1 v2 v3 v4 v5 : Value} (h : ∀ j v, [v0, v1, v2, v3, v4, v5][j]? = some v → w.cell? ⟨b, j, none⟩ = some v) :
    w.cell? ⟨b, 0, none⟩ = some v0 ∧ w.cell? ⟨b, 1, none⟩ = some v1 ∧ w.cell? ⟨b, 2, none⟩ = some v2 ∧ w.cell? ⟨b, 3, none⟩ = some v3 ∧ w.cell? ⟨b, 4, none⟩ = some v4 ∧ w.cell? ⟨b, 5, none⟩ = some v5 :=
  ⟨h 0 _ rfl, h 1 _ rfl, h 2 _ rfl, h 3 _ rfl, h 4 _ rfl, h 5 _ rfl⟩
theorem newcells (w : World) (b : Nat) (vs : List Value) (t : TypeId) (hb : b = w.heap.size) (w' : World) (h : Below (w.alloc (.cells vs.toArray t)).heap.size (w.alloc (.cells vs.toArray t)) w') : ∀ j v, vs[j]? = some v → w'.cell? ⟨b, j, none⟩ = some v := fun j v hj => by
  subst hb
  rw [h.cell (p := ⟨w.heap.size, j, none⟩) (by simp)]
  simpa [go_sem] using hj
/-- what is left of a power, as the law holds it -/
def PowA (p : Int) (g : List Int) (w : World) (o : Option Addr) (l c : Nat) (r : List Int) (A : Int → Int) : Prop := GoodF p w o l c r ∧ r.length < g.length ∧ Md p g (fun x => ev r x) A
theorem PowA.later {p : Int} {g : List Int} {w w' : World} {o : Option Addr} {l c : Nat} {r : List Int} {A : Int → Int} (h : PowA p g w o l c r A) (hb : Below w.heap.size w w') : PowA p g w' o l c r A := ⟨h.1.later hb, h.2⟩
theorem goodF_own {p : Int} {B : Nat} {w : World} {o : Option Addr} {l c : Nat} {r : List Int} (h : Own B w .u64 25 o l c r) (hp : Pm p r) (hc : c ≤ 4194304) (hl : r.length ≤ 1025) : GoodF p w o l c r :=
  ⟨⟨h.row, hp.wd, Nat.le_trans h.row.hcap hc⟩, hp, by rw [h.row.hlen]; exact hl⟩
theorem mPowA (p : Int) (n : Nat) (ao bo : Option Addr) (la ca lb cb : Nat) (f g : List Int) (w : World) (h : Good2 p w ao bo la ca lb cb f g) (hlb : 0 < lb) (hn : n < 18446744073709551616) :
    Calls Tryd.prog 13 #[.slice ao la ca, .int .u64 (n : Int), .slice bo lb cb, .int .u64 p] w fun e w' => (∃ o l c r, e = .returned (.tuple #[.slice o l c, .int .i64 0]) ∧ PowA p g w' o l c r (fun x => ev f x ^ n)) ∧ Below w.heap.size w w' :=
  (mPow_any p n ao bo la ca lb cb f g w h hlb hn).mono fun e w' hf => by
    obtain ⟨o, l, c, r, he, ho, ⟨hpm, hlt, hmd⟩, hc, hb⟩ := hf
    have h1 := h.2.2.2.2
    have h2 := h.2.2.1.row.hlen
    exact ⟨⟨o, l, c, r, he, goodF_own ho hpm hc (by omega), hlt, hmd⟩, hb⟩
theorem mDivA (p : Int) (ao bo : Option Addr) (la ca lb cb : Nat) (f g : List Int) (w : World) (A : Int → Int) (h : Good2 p w ao bo la ca lb cb f g) (hlb : 0 < lb) (hA : Md p g (fun x => ev f x) A) :
    Calls Tryd.prog 12 #[.slice ao la ca, .slice bo lb cb, .int .u64 p] w fun e w' => (∃ qo ql qc o l c r, e = .returned (.tuple #[.slice qo ql qc, .slice o l c, .int .i64 0]) ∧ PowA p g w' o l c r A) ∧ Below w.heap.size w w' :=
  (mDivMod_any p ao bo la ca lb cb f g w h hlb).mono fun e w' hf => by
    obtain ⟨qo, ql, qc, o, l, c, q, r, he, _, ho, _, _, hpm, hlt, heq, _, hc, hb⟩ := hf
    have h1 := h.2.2.2.2
    have h2 := h.2.2.1.row.hlen
    exact ⟨⟨qo, ql, qc, o, l, c, r, he, goodF_own ho hpm hc (by omega), hlt, (Md.ofDiv heq).trans hA⟩, hb⟩
theorem mMulA (p : Int) (ao bo : Option Addr) (la ca lb cb : Nat) (f g h : List Int) (w : World) (A C : Int → Int) (hp : PrimeT p w) (hf : PowA p h w ao la ca f A) (hg : PowA p h w bo lb cb g C) (hl : h.length ≤ 500) (hC : IsP C) :
    Calls Tryd.prog 9 #[.slice ao la ca, .slice bo lb cb, .int .u64 p] w fun e w' => (∃ o l c r, e = .returned (.tuple #[.slice o l c, .int .i64 0]) ∧ GoodF p w' o l c r ∧ Md p h (fun x => ev r x) (fun x => A x * C x)) ∧ Below w.heap.size w w' := by
  have h1 := hf.1.1.row.hlen
  have h2 := hg.1.1.row.hlen
  have h3 := hf.2.1
  have h4 := hg.2.1
  refine (mMul_any p ao bo la ca lb cb f g w ⟨hp, hf.1, hg.1⟩ (by omega)).mono fun e w' hm => ?_
  obtain ⟨o, l, c, r, he, ho, rfl, hc, hb⟩ := hm
  refine ⟨⟨o, l, c, _, he, goodF_own ho (prodL_pm hp.1 hf.1.2.1 hg.1.2.1) hc (by have := prodL_len p f g; omega), ?_⟩, hb⟩
  exact (Md.ofEqM h (prodL_eqm p f g)).trans (hf.2.2.mul hg.2.2 (IsP.ev f) hC)
theorem frow_of {p : Int} {w : World} {ao : Option Addr} {la ca : Nat} {x : List Int} (h : RowAt w .u64 ao la ca x) (hp : Pm p x) (hl : la ≤ 1025) : GoodF p w ao la ca x := ⟨⟨h, hp.wd, by omega⟩, hp, hl⟩
end Go.Proofs.YtpannkjjggelhaaDoor
