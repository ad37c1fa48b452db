/-
  NP: walks: mpoly's Var(2, 0), Var(2, 1). (gen/np.py)
-/
import Derived.Test.YtiemgadnnnhmkaaGreatPO08
import Derived.Test.YtiemgadnnnhmkaaGreatPO13
namespace Go.Proofs.YtiemgadnnnhmkaaGreat
open Go.RowKit
set_option linter.unusedVariables false
set_option linter.unusedSimpArgs false
theorem laid_boxed (a b : Int) (ao : Option Addr) (la ca : Nat) (w : World) (ha : 0 ≤ a ∧ a < 65536) (hb : 0 ≤ b ∧ b < 65536) (hr : RowAt w .u64 ao la ca [1]) :
    Calls Tryz.prog 30 #[.int .i64 2, .slice (some ⟨w.heap.size + 1, 0, none⟩) 1 1] ((w.alloc (.cells #[.int .u16 a, .int .u16 b, .int .u16 0, .int .u16 0, .int .u16 0, .int .u16 0, .int .u16 0, .int .u16 0, .bool false, .slice ao la ca] 69)).alloc (.cells #[.int .u16 a, .int .u16 b, .int .u16 0, .int .u16 0, .int .u16 0, .int .u16 0, .int .u16 0, .int .u16 0, .bool false, .slice ao la ca] 69)) (OneME a b w) := by
  obtain ⟨A, hA⟩ : ∃ A, A = w.alloc (.cells (entry2 a b ao la ca).toArray 69) := ⟨_, rfl⟩
  have hAb : Below w.heap.size w A := by rw [hA]; exact (Below.refl _ _).alloc (Nat.le_refl _) _
  have hAs : A.heap.size = w.heap.size + 1 := by rw [hA]; simp
  have hx := Bx.new A (entry2 a b ao la ca) 69
  have hbU : Below A.heap.size A (A.alloc (.cells (entry2 a b ao la ca).toArray 69)) := (Below.refl _ _).alloc (Nat.le_refl _) _
  rw [hAs] at hx
  have HL := laid_one a b (w.heap.size + 1) 0 1 ao la ca _ ha hb (fun j v hj => by rw [Nat.zero_add]; exact hx.1 j v hj) hx.lt ((hr.later hAb).later hbU)
  have hA' : w.alloc (.cells #[.int .u16 a, .int .u16 b, .int .u16 0, .int .u16 0, .int .u16 0, .int .u16 0, .int .u16 0, .int .u16 0, .bool false, .slice ao la ca] 69) = A := hA.symm
  rw [hA']
  refine (show Calls _ _ _ (A.alloc _) _ from HL).mono ?_
  rintro e w3 ⟨s, rfl, ht, hb3⟩
  have hb4 := bnext hAb hbU
  exact ⟨s, rfl, ht.mono (by have := hb4.size; exact this), bnext hb4 hb3⟩
set_option maxRecDepth 100000 in
set_option maxHeartbeats 1000000 in
theorem var0_any (w : World) : Calls Tryz.prog 16 #[.int .i64 2, .int .i64 0] w (OneME 1 0 w) := by
  obtain ⟨W0, hW0⟩ : ∃ W0, W0 = w.alloc (.cells #[.int .i64 0, .slice none 0 0] 25) := ⟨_, rfl⟩
  have HB0 : Hid (Below w.heap.size w W0 ∧ W0.heap.size = w.heap.size + 1 ∧ Bx W0 w.heap.size [.int .i64 0, .slice none 0 0]) := ⟨by rw [hW0]; exact (Below.refl _ _).alloc (Nat.le_refl _) _, by rw [hW0]; simp, by rw [hW0]; exact Bx.new _ _ _⟩
  have HW0 : Hid (W0 = w.alloc (.cells #[.int .i64 0, .slice none 0 0] 25)) := hW0
  clear hW0
  go_enter Tryz.func16, Tryz.ntmps16
  go_wp2_with (first
    | (go_at_call 28; rw [← HW0.out]; refine (isCount_good 2 W0 (by decide)).mono ?_; rintro e w1 ⟨rfl, hw1⟩; replace hw1 := hw1.symm; subst hw1)
    | (go_at_call 29; refine (from_any 1 _ (by decide) (by decide)).mono ?_; rintro e w2 ⟨neg, ao, la, ca, rfl, hs, ho, hb⟩; have HF : Hid (RowAt w2 .u64 ao la ca [1] ∧ Below W0.heap.size W0 w2) := ⟨by rw [← mag1]; exact ho.row, hb⟩; obtain rfl : neg = false := hs; clear ho hb)
    | (go_at_call 30; refine (laid_boxed 1 0 ao la ca w2 (by decide) (by decide) HF.out.1).mono ?_; rintro e w3 ⟨s, rfl, ht, hb3⟩; have HR : Hid (TermOne W0.heap.size w3 s 1 0 ∧ Below W0.heap.size W0 w3) := ⟨ht.mono HF.out.2.size, bnext HF.out.2 hb3⟩; have hbx := HB0.out.2.2.later HR.out.2 HB0.out.2.2.lt; have p0 := hbx.1 0 _ rfl; have p1 := hbx.1 1 _ rfl; have pf := hbx.2; clear hbx hb3 ht))
  have hsz := HB0.out.2.1
  have q1 : (w3.setCell ⟨w.heap.size, 0, none⟩ (.int .i64 2)).cell? ⟨w.heap.size, 1, none⟩ = some (.slice none 0 0) := by simp [go_sem, p0, p1]
  have hO : OneME 1 0 w (.returned (.tuple #[.agg #[.int .i64 2, .slice (some ⟨s, 0, none⟩) 1 1], .int .i64 0])) ((w3.setCell ⟨w.heap.size, 0, none⟩ (.int .i64 2)).setCell ⟨w.heap.size, 1, none⟩ (.slice (some ⟨s, 0, none⟩) 1 1)) :=
    ⟨s, rfl, ((HR.out.1.store (r := w.heap.size) (by omega) p0 (fun z e => by cases e)).store (r := w.heap.size) (by omega) q1 (fun z e => by cases e)).mono (by omega), below_store (bnext HB0.out.1 HR.out.2) (Nat.le_refl _) _ _⟩
  exact bodyPost_ret (v := .tuple #[.agg #[.int .i64 2, .slice (some ⟨s, 0, none⟩) 1 1], .int .i64 0]) (by simp [results, Tryz.results16, go_sem, p0, p1, pf]) rfl hO
set_option maxRecDepth 100000 in
set_option maxHeartbeats 1000000 in
theorem var1_any (w : World) : Calls Tryz.prog 16 #[.int .i64 2, .int .i64 1] w (OneME 0 1 w) := by
  obtain ⟨W0, hW0⟩ : ∃ W0, W0 = w.alloc (.cells #[.int .i64 0, .slice none 0 0] 25) := ⟨_, rfl⟩
  have HB0 : Hid (Below w.heap.size w W0 ∧ W0.heap.size = w.heap.size + 1 ∧ Bx W0 w.heap.size [.int .i64 0, .slice none 0 0]) := ⟨by rw [hW0]; exact (Below.refl _ _).alloc (Nat.le_refl _) _, by rw [hW0]; simp, by rw [hW0]; exact Bx.new _ _ _⟩
  have HW0 : Hid (W0 = w.alloc (.cells #[.int .i64 0, .slice none 0 0] 25)) := hW0
  clear hW0
  go_enter Tryz.func16, Tryz.ntmps16
  go_wp2_with (first
    | (go_at_call 28; rw [← HW0.out]; refine (isCount_good 2 W0 (by decide)).mono ?_; rintro e w1 ⟨rfl, hw1⟩; replace hw1 := hw1.symm; subst hw1)
    | (go_at_call 29; refine (from_any 1 _ (by decide) (by decide)).mono ?_; rintro e w2 ⟨neg, ao, la, ca, rfl, hs, ho, hb⟩; have HF : Hid (RowAt w2 .u64 ao la ca [1] ∧ Below W0.heap.size W0 w2) := ⟨by rw [← mag1]; exact ho.row, hb⟩; obtain rfl : neg = false := hs; clear ho hb)
    | (go_at_call 30; refine (laid_boxed 0 1 ao la ca w2 (by decide) (by decide) HF.out.1).mono ?_; rintro e w3 ⟨s, rfl, ht, hb3⟩; have HR : Hid (TermOne W0.heap.size w3 s 0 1 ∧ Below W0.heap.size W0 w3) := ⟨ht.mono HF.out.2.size, bnext HF.out.2 hb3⟩; have hbx := HB0.out.2.2.later HR.out.2 HB0.out.2.2.lt; have p0 := hbx.1 0 _ rfl; have p1 := hbx.1 1 _ rfl; have pf := hbx.2; clear hbx hb3 ht))
  have hsz := HB0.out.2.1
  have q1 : (w3.setCell ⟨w.heap.size, 0, none⟩ (.int .i64 2)).cell? ⟨w.heap.size, 1, none⟩ = some (.slice none 0 0) := by simp [go_sem, p0, p1]
  have hO : OneME 0 1 w (.returned (.tuple #[.agg #[.int .i64 2, .slice (some ⟨s, 0, none⟩) 1 1], .int .i64 0])) ((w3.setCell ⟨w.heap.size, 0, none⟩ (.int .i64 2)).setCell ⟨w.heap.size, 1, none⟩ (.slice (some ⟨s, 0, none⟩) 1 1)) :=
    ⟨s, rfl, ((HR.out.1.store (r := w.heap.size) (by omega) p0 (fun z e => by cases e)).store (r := w.heap.size) (by omega) q1 (fun z e => by cases e)).mono (by omega), below_store (bnext HB0.out.1 HR.out.2) (Nat.le_refl _) _ _⟩
  exact bodyPost_ret (v := .tuple #[.agg #[.int .i64 2, .slice (some ⟨s, 0, none⟩) 1 1], .int .i64 0]) (by simp [results, Tryz.results16, go_sem, p0, p1, pf]) rfl hO
end Go.Proofs.YtiemgadnnnhmkaaGreat
/-
  NQ: walks: mpoly's times, the sum of two exponents. (gen/nq.py)
-/
namespace Go.Proofs.YtiemgadnnnhmkaaGreat
open Go.RowKit
set_option linter.unusedVariables false
set_option linter.unusedSimpArgs false
set_option maxRecDepth 100000 in
set_option maxHeartbeats 2000000 in
theorem mptimes_any (na nb : Bool) (ao bo : Option Addr) (la ca lb cb : Nat) (a b : Int) (w : World) (hx : IntAt w na ao la ca a) (hy : IntAt w nb bo lb cb b) (hl : la ≤ 2147483648) (hl' : lb ≤ 2147483648) :
    Calls Tryz.prog 55 #[.agg #[.bool na, .slice ao la ca], .agg #[.bool nb, .slice bo lb cb]] w fun e w' => NewInt w w' e (a * b) := by
  obtain ⟨W, hT⟩ := Two3.mk' w na nb ao bo la ca lb cb
  have hsz := hT.size
  have hRx := hx.later hT.below
  have hRy := hy.later hT.below
  clear hx hy
  go_enter Tryz.func55, Tryz.ntmps55
  go_wp2_with (first
    | (go_at_call 69; rw [← hT.eq]; refine (bmul_any na nb ao bo la ca lb cb a b _ hRx hRy (by omega) (by omega)).mono ?_; rintro e w1 ⟨n1, ao1, l1, c1, rfl, hsg1, ho1, hb1⟩; have HS : Hid (n1 = sgB (a * b)) := hsg1; clear hsg1; have hs1 := hb1.size; have hbA : Below W.heap.size W (w1.alloc (.cells #[.bool n1, .slice ao1 l1 c1] 30)) := hb1.trans ((Below.refl _ _).alloc hs1 _); obtain ⟨g5, g3, g4⟩ := hT.r.later hbA (by omega)))
  exact bodyPost_ret (v := .agg #[.bool n1, .slice ao1 l1 c1]) (by simp [results, Tryz.results55, go_sem, g3, g4]) rfl
    ⟨_, _, _, _, rfl, HS.out, (((ho1.later ((Below.refl _ _).alloc (Nat.le_refl _) _)).store (by omega) _ _).mono (by omega)), below_store (bnext hT.below hbA) (by omega) _ _⟩
/-- eight exponents as cells -/
def exps8 (f : Nat → Int) : List Value := [.int .u16 (f 0), .int .u16 (f 1), .int .u16 (f 2), .int .u16 (f 3), .int .u16 (f 4), .int .u16 (f 5), .int .u16 (f 6), .int .u16 (f 7)]
theorem exps8_get {f : Nat → Int} {k : Nat} (h : k < 8) : (exps8 f)[k]? = some (.int .u16 (f k)) := by
  match k, h with
  | 0, _ => rfl
  | 1, _ => rfl
  | 2, _ => rfl
  | 3, _ => rfl
  | 4, _ => rfl
  | 5, _ => rfl
  | 6, _ => rfl
  | 7, _ => rfl
theorem exps8_set {f g : Nat → Int} {k : Nat} (h : k < 8) (hg : ∀ j, j < 8 → g j = if j = k then g k else f j) : (exps8 f).set k (.int .u16 (g k)) = exps8 g := by
  have h0 := hg 0 (by decide)
  have h1 := hg 1 (by decide)
  have h2 := hg 2 (by decide)
  have h3 := hg 3 (by decide)
  have h4 := hg 4 (by decide)
  have h5 := hg 5 (by decide)
  have h6 := hg 6 (by decide)
  have h7 := hg 7 (by decide)
  clear hg
  unfold exps8
  rcases (show k = 0 ∨ k = 1 ∨ k = 2 ∨ k = 3 ∨ k = 4 ∨ k = 5 ∨ k = 6 ∨ k = 7 by omega) with rfl | rfl | rfl | rfl | rfl | rfl | rfl | rfl <;> (simp at h0 h1 h2 h3 h4 h5 h6 h7; simp only [List.set_cons_zero, List.set_cons_succ, h0, h1, h2, h3, h4, h5, h6, h7])
set_option maxRecDepth 100000 in
set_option maxHeartbeats 1000000 in
theorem plusE_any (f g : Nat → Int) (w : World) (hf : ∀ j, 0 ≤ f j ∧ f j ≤ 4096) (hg : ∀ j, 0 ≤ g j ∧ g j ≤ 4096) :
    Calls Tryz.prog 52 #[.agg (exps8 f).toArray, .agg (exps8 g).toArray] w fun e w' => e = .returned (.agg (exps8 fun j => f j + g j).toArray) ∧ Below w.heap.size w w' := by
  obtain ⟨W, hW⟩ : ∃ W, W = ((w.alloc (.cells (exps8 f).toArray 67)).alloc (.cells (exps8 g).toArray 67)).alloc (.cells #[.int .u16 0, .int .u16 0, .int .u16 0, .int .u16 0, .int .u16 0, .int .u16 0, .int .u16 0, .int .u16 0] 67) := ⟨_, rfl⟩
  have HB : Hid (Below w.heap.size w W ∧ W.heap.size = w.heap.size + 3 ∧ Bx W w.heap.size (exps8 f) ∧ Bx W (w.heap.size + 1) (exps8 g) ∧ Bx W (w.heap.size + 1 + 1) (exps8 fun _ => 0)) := by
    obtain ⟨A, hA⟩ : ∃ A, A = w.alloc (.cells (exps8 f).toArray 67) := ⟨_, rfl⟩
    obtain ⟨B, hB⟩ : ∃ B, B = A.alloc (.cells (exps8 g).toArray 67) := ⟨_, rfl⟩
    replace hW : W = ((w.alloc (.cells (exps8 f).toArray 67)).alloc (.cells (exps8 g).toArray 67)).alloc (.cells (exps8 fun _ => 0).toArray 67) := hW
    rw [← hA, ← hB] at hW
    have hx := Bx.new w (exps8 f) 67
    have hy := Bx.new A (exps8 g) 67
    have hz := Bx.new B (exps8 fun _ => 0) 67
    rw [← hA] at hx
    rw [← hB] at hy
    rw [← hW] at hz
    have sA : A.heap.size = w.heap.size + 1 := by rw [hA]; simp
    have sB : B.heap.size = w.heap.size + 1 + 1 := by rw [hB]; simp [sA]
    have bA : Below w.heap.size w A := by rw [hA]; exact (Below.refl _ _).alloc (Nat.le_refl _) _
    have bB : Below A.heap.size A B := by rw [hB]; exact (Below.refl _ _).alloc (Nat.le_refl _) _
    have bW : Below B.heap.size B W := by rw [hW]; exact (Below.refl _ _).alloc (Nat.le_refl _) _
    rw [sA] at hy
    rw [sB] at hz
    exact ⟨bnext (bnext bA bB) bW, by rw [hW]; simp [sB], (hx.later bB hx.lt).later bW (by omega), hy.later bW hy.lt, hz⟩
  have HW : Hid (W = ((w.alloc (.cells (exps8 f).toArray 67)).alloc (.cells (exps8 g).toArray 67)).alloc (.cells #[.int .u16 0, .int .u16 0, .int .u16 0, .int .u16 0, .int .u16 0, .int .u16 0, .int .u16 0, .int .u16 0] 67)) := hW
  have HF : Hid ((∀ j, 0 ≤ f j ∧ f j ≤ 4096) ∧ ∀ j, 0 ≤ g j ∧ g j ≤ 4096) := ⟨hf, hg⟩
  clear hW hf hg
  go_enter Tryz.func52, Tryz.ntmps52
  go_wp2
  rw [← HW.out]
  go_loopw [6, 5] (fun i _ wr => ∃ k : Nat, k ≤ 8 ∧ i = .int .i64 (k : Int) ∧ Hid (Below w.heap.size w wr ∧ w.heap.size + 1 + 1 < wr.heap.size ∧ Bx wr w.heap.size (exps8 fun j => if j < k then f j + g j else f j) ∧ Bx wr (w.heap.size + 1) (exps8 g) ∧ Bx wr (w.heap.size + 1 + 1) (exps8 fun _ => 0))) (fun i _ _ => 8 - (intOf i).toNat)
  case atStart => exact ⟨0, by omega, rfl, HB.out.1, by have := HB.out.2.1; omega, by simpa using HB.out.2.2.1, HB.out.2.2.2⟩
  case round =>
    obtain ⟨k, hk, rfl, HS⟩ := hrel
    by_cases hlt : k < 8
    · have z1 : (k : Int) < 8 := by omega
      have z2 : (0 : Int) ≤ (k : Int) := by omega
      obtain ⟨x, hx⟩ : ∃ x, f k = x := ⟨_, rfl⟩
      obtain ⟨y, hy⟩ : ∃ y, g k = y := ⟨_, rfl⟩
      have a0 : wr.cell? ⟨w.heap.size, k, none⟩ = some (.int .u16 x) := by
        have h := HS.out.2.2.1.1 k _ (exps8_get hlt)
        simpa [hx] using h
      have b0 : wr.cell? ⟨w.heap.size + 1, k, none⟩ = some (.int .u16 y) := by
        have h := HS.out.2.2.2.1.1 k _ (exps8_get hlt)
        rw [hy] at h; exact h
      have fr := HS.out.2.2.1.2
      have z3 : IntKind.u16.wrap (x + y) = x + y := by
        have h1 := HF.out.1 k
        have h2 := HF.out.2 k
        rw [hx] at h1
        rw [hy] at h2
        rw [show IntKind.u16.wrap (x + y) = (x + y) % 65536 from rfl]
        omega
      have HX : Hid (f k = x ∧ g k = y) := ⟨hx, hy⟩
      have KS : Hid True := trivial
      clear hx hy
      go_wp2
      go_region
      go_wp2
      have HV : Hid (Below w.heap.size w (wr.setCell ⟨w.heap.size, k, none⟩ (.int .u16 (x + y))).drew ∧ w.heap.size + 1 + 1 < (wr.setCell ⟨w.heap.size, k, none⟩ (.int .u16 (x + y))).drew.heap.size ∧ Bx (wr.setCell ⟨w.heap.size, k, none⟩ (.int .u16 (x + y))).drew w.heap.size (exps8 fun j => if j < k + 1 then f j + g j else f j) ∧ Bx (wr.setCell ⟨w.heap.size, k, none⟩ (.int .u16 (x + y))).drew (w.heap.size + 1) (exps8 g) ∧ Bx (wr.setCell ⟨w.heap.size, k, none⟩ (.int .u16 (x + y))).drew (w.heap.size + 1 + 1) (exps8 fun _ => 0)) := by
        have h1 := HS.out.2.2.1.set1 (j := k) (v := .int .u16 (x + y)) (exps8_get hlt)
        have e9 : f k + g k = x + y := by rw [HX.out.1, HX.out.2]
        have h9 := exps8_set (f := fun j => if j < k then f j + g j else f j) (g := fun j => if j < k + 1 then f j + g j else f j) hlt (fun j hj => by
          by_cases e : j = k
          · rw [if_pos e, e]
          · rw [if_neg e]
            by_cases e3 : j < k
            · show (if j < k + 1 then _ else _) = (if j < k then _ else _); rw [if_pos (show j < k + 1 by omega), if_pos e3]
            · show (if j < k + 1 then _ else _) = (if j < k then _ else _); rw [if_neg (show ¬ j < k + 1 by omega), if_neg e3])
        have e8 : (if k < k + 1 then f k + g k else f k) = x + y := by rw [if_pos (by omega), e9]
        rw [e8] at h9
        rw [h9] at h1
        have h2 := HS.out.2.2.2.1.off (ws := [.int .u16 (x + y)]) (show w.heap.size + 1 ≠ w.heap.size by omega) k
        have h3 := HS.out.2.2.2.2.off (ws := [.int .u16 (x + y)]) (show w.heap.size + 1 + 1 ≠ w.heap.size by omega) k
        refine ⟨(below_set HS.out.1 (Nat.le_refl _)).drew, by have := HS.out.2.1; simpa using this, ?_, ?_, ?_⟩
        · exact h1
        · exact h2
        · exact h3
      go_roundw
      case rel => exact ⟨k + 1, by omega, by go_num, HV.out⟩
      case measure => simp [intOf]; omega
    · obtain rfl : k = 8 := by omega
      have HE : Hid (Bx wr w.heap.size (exps8 fun j => f j + g j) ∧ Bx wr (w.heap.size + 1 + 1) (exps8 fun _ => 0)) := ⟨by have h := HS.out.2.2.1; simpa [exps8] using h, HS.out.2.2.2.2⟩
      have e0 := HE.out.1.1 0 _ rfl
      have e1 := HE.out.1.1 1 _ rfl
      have e2 := HE.out.1.1 2 _ rfl
      have e3 := HE.out.1.1 3 _ rfl
      have e4 := HE.out.1.1 4 _ rfl
      have e5 := HE.out.1.1 5 _ rfl
      have e6 := HE.out.1.1 6 _ rfl
      have e7 := HE.out.1.1 7 _ rfl
      have q0 := HE.out.2.1 0 _ rfl
      have q1 := HE.out.2.1 1 _ rfl
      have q2 := HE.out.2.1 2 _ rfl
      have q3 := HE.out.2.1 3 _ rfl
      have q4 := HE.out.2.1 4 _ rfl
      have q5 := HE.out.2.1 5 _ rfl
      have q6 := HE.out.2.1 6 _ rfl
      have q7 := HE.out.2.1 7 _ rfl
      have qf := HE.out.2.2
      have HBW : Hid (Below w.heap.size w wr) := HS.out.1
      clear HS
      go_wp2
      exact bodyPost_ret (v := .agg (exps8 fun j => f j + g j).toArray) (by simp [results, Tryz.results52, go_sem, q0, q1, q2, q3, q4, q5, q6, q7, qf, exps8]) rfl
        ⟨rfl, have h8 : w.heap.size ≤ w.heap.size + 1 + 1 := by omega
          below_set (below_set (below_set (below_set (below_set (below_set (below_set (below_set HBW.out h8) h8) h8) h8) h8) h8) h8) h8⟩
end Go.Proofs.YtiemgadnnnhmkaaGreat
/-
  NR: walks: mpoly's entries of one term of two variables.
-/
namespace Go.Proofs.YtiemgadnnnhmkaaGreat
open Go.RowKit
set_option linter.unusedVariables false
set_option linter.unusedSimpArgs false
theorem infoEntry : (Tryz.prog.info? 69).map (fun i => (i.zero, i.size, i.bytes)) = some (some (.agg #[.int .u16 0, .int .u16 0, .int .u16 0, .int .u16 0, .int .u16 0, .int .u16 0, .int .u16 0, .int .u16 0, .bool false, .slice none 0 0]), 10, 48) := by kernel_rfl
theorem made_entry : (madeCells (Value.agg #[.int .u16 0, .int .u16 0, .int .u16 0, .int .u16 0, .int .u16 0, .int .u16 0, .int .u16 0, .int .u16 0, .bool false, .slice none 0 0]).cells (1 * 10)).toList = entry2 0 0 none 0 0 := by
  simp [madeCells, Value.cells, entry2]
  try rfl
/-- an entry in a block of its own, made by the call -/
def EnAt (w wr : World) (g : Nat) (t : List Value) : Prop := Bx wr g t ∧ Below w.heap.size w wr ∧ w.heap.size ≤ g
theorem EnAt.set {w wr : World} {g j : Nat} {t : List Value} {v x : Value} (h : EnAt w wr g t) (hj : t[j]? = some x) : EnAt w (wr.setCell ⟨g, j, none⟩ v) g (t.set j v) := ⟨h.1.set1 hj, below_set h.2.1 h.2.2, h.2.2⟩
/-- what entries tells -/
def OneEn (a b : Int) (w : World) (e : Ending) (w' : World) : Prop := ∃ g cp ao la ca, e = .returned (.slice (some ⟨g, 0, none⟩) 1 cp) ∧ EnAt w w' g (entry2 a b ao la ca) ∧ RowAt w' .u64 ao la ca [1]
set_option maxRecDepth 100000 in
set_option maxHeartbeats 1000000 in
theorem entries_one (a b : Int) (B s : Nat) (w : World) (h : TermOne B w s a b) (ha : 0 ≤ a ∧ a < 65536) (hb : 0 ≤ b ∧ b < 65536) :
    Calls Tryz.prog 34 #[.agg #[.int .i64 2, .slice (some ⟨s, 0, none⟩) 1 1]] w (OneEn a b w) := by
  obtain ⟨gx, ao, la, ca, _, _, c0, c1, s0, s1, s2, hr⟩ := h
  have KT : Hid (∀ w', Below w.heap.size w w' → w'.cell? ⟨gx, 0, none⟩ = some (.int .i64 a) ∧ w'.cell? ⟨gx, 1, none⟩ = some (.int .i64 b) ∧ w'.cell? ⟨s, 0, none⟩ = some (.slice (some ⟨gx, 0, none⟩) 2 2) ∧ w'.cell? ⟨s, 1, none⟩ = some (.bool false) ∧ w'.cell? ⟨s, 2, none⟩ = some (.slice ao la ca)) := fun w' hb => ⟨(hb.cell (p := ⟨gx, 0, none⟩) (cell_lt c0)).trans c0, (hb.cell (p := ⟨gx, 1, none⟩) (cell_lt c1)).trans c1, (hb.cell (p := ⟨s, 0, none⟩) (cell_lt s0)).trans s0, (hb.cell (p := ⟨s, 1, none⟩) (cell_lt s1)).trans s1, (hb.cell (p := ⟨s, 2, none⟩) (cell_lt s2)).trans s2⟩
  have HR : Hid (RowAt w .u64 ao la ca [1] ∧ (0 ≤ a ∧ a < 65536) ∧ (0 ≤ b ∧ b < 65536) ∧ gx < w.heap.size ∧ s < w.heap.size) := ⟨hr, ha, hb, cell_lt c0, cell_lt s0⟩
  clear hr ha hb c0 c1 s0 s1 s2
  obtain ⟨i0, hi, hz0, hz1, hz2⟩ := info_parts infoEntry
  obtain ⟨W0, hW0⟩ : ∃ W0, W0 = w.alloc (.cells #[.int .i64 2, .slice (some ⟨s, 0, none⟩) 1 1] 25) := ⟨_, rfl⟩
  have HB0 : Hid (Below w.heap.size w W0 ∧ W0.heap.size = w.heap.size + 1 ∧ Bx W0 w.heap.size [.int .i64 2, .slice (some ⟨s, 0, none⟩) 1 1]) := ⟨by rw [hW0]; exact (Below.refl _ _).alloc (Nat.le_refl _) _, by rw [hW0]; simp, by rw [hW0]; exact Bx.new _ _ _⟩
  have HW0 : Hid (W0 = w.alloc (.cells #[.int .i64 2, .slice (some ⟨s, 0, none⟩) 1 1] 25)) := hW0
  clear hW0
  have b1 : Hid (i0.bytes * 1 ≤ 281474976710656) := by show _ ≤ _; rw [hz2]; omega
  have b2 : Hid (1 ≤ maxLen) := by show _ ≤ _; unfold maxLen; omega
  go_enter Tryz.func34, Tryz.ntmps34
  go_wp2_with (first
    | (at_make; rw [← HW0.out]; refine wpList_make_full _ rfl (.tmp 10) (.tmp 10) 71 rfl 0 69 i0 _ 10 Tryz.underlying71 hi hz0 hz1 .i64 .i64 _ _ 1 rfl rfl (by decide) (by decide) b1.out b2.out (Nat.zero_le _) ?_; intro w1 hown1 hgrow1; rw [made_entry] at hown1; have HK : Hid (Bx w1 W0.heap.size (entry2 0 0 none 0 0) ∧ Below W0.heap.size W0 w1) := ⟨bx_of_made (by decide) hown1, grown_below hgrow1⟩; clear hown1 hgrow1 hi; have hbx := HB0.out.2.2.later HK.out.2 HB0.out.2.2.lt; have p1 := hbx.1 1 _ rfl; clear hbx))
  obtain ⟨g, hg⟩ : ∃ g, g = W0.heap.size := ⟨_, rfl⟩
  have HS0 : Hid (EnAt w w1 g (entry2 0 0 none 0 0)) := by rw [hg]; exact ⟨HK.out.1, bnext HB0.out.1 HK.out.2, HB0.out.1.size⟩
  simp only [← hg]
  clear hg p1 HK HB0 HW0
  go_loopw [15] (fun i wr => (i = .int .i64 0 ∧ Hid (EnAt w wr g (entry2 0 0 none 0 0))) ∨ (i = .int .i64 1 ∧ Hid (EnAt w wr g (entry2 a b ao la ca)))) (fun i _ => 1 - (intOf i).toNat)
  case atStart => exact Or.inl ⟨rfl, HS0.out⟩
  case round =>
    rcases hrel with ⟨rfl, HS⟩ | ⟨rfl, HS⟩
    · obtain ⟨c0, c1, s0, s1, s2⟩ := KT.out wr HS.out.2.1
      have g8 := HS.out.1.1 8 _ rfl
      have g9 := HS.out.1.1 9 _ rfl
      have gf := HS.out.1.2
      have hgl : g < wr.heap.size := HS.out.1.lt
      have hgn : g ≠ wr.heap.size := by omega
      have hgn' : wr.heap.size ≠ g := by omega
      have HY : Hid (EnAt w (((wr.setCell ⟨g, 8, none⟩ (.bool false)).setCell ⟨g, 9, none⟩ (.slice ao la ca)).alloc (.cells #[.slice (some ⟨gx, 0, none⟩) 2 2, .bool false, .slice ao la ca] 56)) g (entry2 0 0 ao la ca)) := by
        have h1 : EnAt w ((wr.setCell ⟨g, 8, none⟩ (.bool false)).setCell ⟨g, 9, none⟩ (.slice ao la ca)) g (entry2 0 0 ao la ca) := (HS.out.set (j := 8) (v := .bool false) rfl).set (j := 9) (v := .slice ao la ca) rfl
        exact ⟨h1.1.later ((Below.refl _ _).alloc (Nat.le_refl _) _) h1.1.lt, below_alloc h1.2.1 (Nat.le_refl _), h1.2.2⟩
      go_wp2
      obtain ⟨Y, hY⟩ : ∃ Y, Y = ((wr.setCell ⟨g, 8, none⟩ (.bool false)).setCell ⟨g, 9, none⟩ (.slice ao la ca)).alloc (.cells #[.slice (some ⟨gx, 0, none⟩) 2 2, .bool false, .slice ao la ca] 56) := ⟨_, rfl⟩
      rw [← hY]
      rw [← hY] at HY
      clear hY
      obtain ⟨r9, hr9⟩ : ∃ r9, r9 = wr.heap.size := ⟨_, rfl⟩
      simp only [← hr9]
      clear hr9 g8 g9 gf hgl hgn hgn' c0 c1 s0 s1 s2 HS
      obtain ⟨wo, hwo⟩ : ∃ x, x = wr := ⟨_, rfl⟩
      subst hwo
      have za : IntKind.u16.wrap a = a := by
        rw [show IntKind.u16.wrap a = a % 65536 from rfl]; have := HR.out.2.1; omega
      have zb : IntKind.u16.wrap b = b := by
        rw [show IntKind.u16.wrap b = b % 65536 from rfl]; have := HR.out.2.2.1; omega
      go_loopw [29] (fun i wv => ∃ k : Nat, k ≤ 2 ∧ i = .int .i64 (k : Int) ∧ Hid (EnAt w wv g (entry2 (if 0 < k then a else 0) (if 1 < k then b else 0) ao la ca))) (fun i _ => 2 - (intOf i).toNat)
      case atStart => exact ⟨0, by omega, rfl, HY.out⟩
      case round =>
        obtain ⟨k, hk, rfl, HI⟩ := hrel
        by_cases h0 : k = 0
        · subst h0
          obtain ⟨c0, c1, _⟩ := KT.out wr HI.out.2.1
          have y0 := HI.out.1.1 0 _ rfl
          have yf := HI.out.1.2
          go_wp2
          go_roundw
          case rel => exact ⟨1, by omega, by go_num, HI.out.set (j := 0) (v := .int .u16 a) rfl⟩
          case measure => simp [intOf]
        · by_cases h1 : k = 1
          · subst h1
            obtain ⟨c0, c1, _⟩ := KT.out wr HI.out.2.1
            have y0 := HI.out.1.1 1 _ rfl
            have yf := HI.out.1.2
            go_wp2
            go_roundw
            case rel => exact ⟨2, by omega, by go_num, HI.out.set (j := 1) (v := .int .u16 b) rfl⟩
            case measure => simp [intOf]
          · obtain rfl : k = 2 := by omega
            go_wp2
            go_roundw
            case rel => exact Or.inr ⟨by go_num, HI.out⟩
            case measure => simp [intOf]
    · go_wp2
      go_ret
      exact ⟨g, 1, ao, la, ca, rfl, HS.out, HR.out.1.later HS.out.2.1⟩
end Go.Proofs.YtiemgadnnnhmkaaGreat
/-
  NS: walks: mpoly's row of two entries, product of them. (gen/ns.py)
-/
namespace Go.Proofs.YtiemgadnnnhmkaaGreat
open Go.RowKit
set_option linter.unusedVariables false
set_option linter.unusedSimpArgs false
theorem grown_cell {w w' : World} {g k j : Nat} {v : Value} (h : w.grownBy w' (some g)) (hk : k ≠ g) (hc : w.cell? ⟨k, j, none⟩ = some v) : w'.cell? ⟨k, j, none⟩ = some v := by
  have hl : k < w.heap.size := cell_lt hc
  exact (World.cell?_of_block (a := ⟨k, j, none⟩) (h.block k hl (by simpa using hk))).trans hc
theorem owns_laterN {w w' : World} {B n s : Nat} {t : TypeId} {v : Value} {xs : List Value} (h : w.ownsRow B t s v n xs) (hb : Below w.heap.size w w') : w'.ownsRow B t s v n xs := by
  refine ⟨h.1, ?_⟩
  rcases h.2 with hv | ⟨g, cap, cur, hv, hg, hh, hrest⟩
  · exact Or.inl hv
  · exact Or.inr ⟨g, cap, cur, hv, hg, by rw [hb.block g (heap_lt hh)]; exact hh, hrest⟩
theorem grown_ownsN {w0 w w' : World} {B n s : Nat} {t : TypeId} {v : Value} {xs : List Value} (hb : Below B w0 w) (hB : B ≤ w.heap.size) (ho : w.ownsRow B t s v n xs) (hg : w.grownBy w' v.ownBlock) : Below B w0 w' := by
  refine hb.grown hg hB fun k hk => ?_
  rcases ho.2 with ⟨rfl, _⟩ | ⟨g, cap, cur, rfl, h1, _⟩
  · cases hk
  · simp only [Value.ownBlock, Option.some.injEq] at hk
    omega
theorem own_grownN {B B' n s : Nat} {w w' : World} {k : IntKind} {t t' : TypeId} {v : Value} {xs : List Value} {ao : Option Addr} {len cap : Nat} {zs : List Int} (h : Own B w k t ao len cap zs) (ho : w.ownsRow B' t' s v n xs) (hg : w.grownBy w' v.ownBlock) (hne : t ≠ t') : Own B w' k t ao len cap zs := by
  rcases h with h | ⟨g, off, cur, h1, h2, h3, h4⟩
  · exact Or.inl h
  · refine Or.inr ⟨g, off, cur, h1, h2, ?_, h4⟩
    rw [hg.block g (heap_lt h3) ?_]
    · exact h3
    · intro e
      rcases ho.2 with ⟨rfl, _⟩ | ⟨g', cap', cur', rfl, hg', hh, _⟩
      · cases e
      · simp only [Value.ownBlock, Option.some.injEq] at e
        subst e
        rw [h3] at hh
        simp only [Option.some.injEq, Obj.cells.injEq] at hh
        exact hne hh.2.1
/-- a row of entries being made, in a block of its own -/
def RowS (w wr : World) (g n : Nat) (xs : List Value) : Prop := wr.ownsRow w.heap.size 69 10 (.slice (some ⟨g, 0, none⟩) n 1) n xs ∧ Below w.heap.size w wr
/-- and made: one entry -/
def RowE (w wr : World) (v : Value) (a b : Int) : Prop := ∃ ao la ca, wr.ownsRow w.heap.size 69 10 v 1 (entry2 a b ao la ca) ∧ Below w.heap.size w wr ∧ RowAt wr .u64 ao la ca [1]
theorem RowS.later {w wr w' : World} {g n : Nat} {xs : List Value} (h : RowS w wr g n xs) (hb : Below wr.heap.size wr w') : RowS w w' g n xs := ⟨owns_laterN h.1 hb, bnext h.2 hb⟩
theorem RowS.lt {w wr : World} {g n : Nat} {xs : List Value} (h : RowS w wr g n xs) : g < wr.heap.size := by
  rcases h.1.2 with ⟨hv, _⟩ | ⟨g9, cap, cur, hv, hg, hh, _⟩
  · cases hv
  · cases hv; exact heap_lt hh
theorem RowE.done {w wr : World} {v : Value} {a b : Int} (h : RowE w wr v a b) : OneEn a b w (.returned v) wr := by
  obtain ⟨ao, la, ca, h1, hb, h2⟩ := h
  rcases h1.2 with ⟨hv, h0⟩ | ⟨g, cap, cur, hv, hg, hh, hc1, hc2, hs, ht⟩
  · cases hv; cases h0
  · subst hv
    have h4 : cur.toList.take 10 = entry2 a b ao la ca := by rw [← ht]
    refine ⟨g, cap, ao, la, ca, rfl, ⟨⟨fun j v hj => ?_, fun j => ?_⟩, hb, hg⟩, h2⟩
    · have h3 : cur[j]? = some v := by
        have hl : j < 10 := by have := (List.getElem?_eq_some_iff.1 hj).1; simpa [entry2] using this
        rw [← h4, List.getElem?_take_of_lt hl] at hj; simpa using hj
      simp [World.cell?, hh, h3]
    · simp [World.frozen?, hh]
theorem plusE2 (a b c d : Int) (w : World) (ha : 0 ≤ a ∧ a ≤ 500) (hb : 0 ≤ b ∧ b ≤ 500) (hc : 0 ≤ c ∧ c ≤ 500) (hd : 0 ≤ d ∧ d ≤ 500) :
    Calls Tryz.prog 52 #[.agg #[.int .u16 a, .int .u16 b, .int .u16 0, .int .u16 0, .int .u16 0, .int .u16 0, .int .u16 0, .int .u16 0], .agg #[.int .u16 c, .int .u16 d, .int .u16 0, .int .u16 0, .int .u16 0, .int .u16 0, .int .u16 0, .int .u16 0]] w fun e w' => e = .returned (.agg #[.int .u16 (a + c), .int .u16 (b + d), .int .u16 0, .int .u16 0, .int .u16 0, .int .u16 0, .int .u16 0, .int .u16 0]) ∧ Below w.heap.size w w' := by
  have h := plusE_any (fun j => dig [a, b] j) (fun j => dig [c, d] j) w
    (fun j => by match j with | 0 => exact ⟨ha.1, by show a ≤ _; omega⟩ | 1 => exact ⟨hb.1, by show b ≤ _; omega⟩ | j + 2 => simp [dig])
    (fun j => by match j with | 0 => exact ⟨hc.1, by show c ≤ _; omega⟩ | 1 => exact ⟨hd.1, by show d ≤ _; omega⟩ | j + 2 => simp [dig])
  exact h
set_option maxRecDepth 100000 in
set_option maxHeartbeats 1000000 in
theorem row_one (a b c d : Int) (g1 g2 k1 k2 : Nat) (ao bo : Option Addr) (la ca lb cb : Nat) (w : World) (h1 : Bx w g1 (entry2 a b ao la ca)) (h2 : Bx w g2 (entry2 c d bo lb cb)) (hr1 : RowAt w .u64 ao la ca [1]) (hr2 : RowAt w .u64 bo lb cb [1]) (ha : 0 ≤ a ∧ a ≤ 500) (hb : 0 ≤ b ∧ b ≤ 500) (hc : 0 ≤ c ∧ c ≤ 500) (hd : 0 ≤ d ∧ d ≤ 500) :
    Calls Tryz.prog 49 #[.slice (some ⟨g1, 0, none⟩) 1 k1, .slice (some ⟨g2, 0, none⟩) 1 k2] w (OneEn (a + c) (b + d) w) := by
  have K1 : Hid (∀ w', Below w.heap.size w w' → Bx w' g1 (entry2 a b ao la ca)) := fun w' hb => h1.later hb h1.lt
  have K2 : Hid (∀ w', Below w.heap.size w w' → Bx w' g2 (entry2 c d bo lb cb)) := fun w' hb => h2.later hb h2.lt
  have HA : Hid ((0 ≤ a ∧ a ≤ 500) ∧ (0 ≤ b ∧ b ≤ 500) ∧ (0 ≤ c ∧ c ≤ 500) ∧ (0 ≤ d ∧ d ≤ 500)) := ⟨ha, hb, hc, hd⟩
  have HI0 : Hid (IntAt w false ao la ca 1 ∧ IntAt w false bo lb cb 1) := ⟨⟨rfl, by rw [mag1]; exact hr1⟩, ⟨rfl, by rw [mag1]; exact hr2⟩⟩
  have HLN : Hid (la ≤ 2147483648 ∧ lb ≤ 2147483648) := ⟨by have := hr1.hlen; simp at this; omega, by have := hr2.hlen; simp at this; omega⟩
  have h63 : Hid (1 ≤ maxLen) := by show _ ≤ _; unfold maxLen; omega
  clear h1 h2 hr1 hr2 ha hb hc hd
  obtain ⟨i0, hi, hz0, hz1, hz2⟩ := info_parts infoEntry
  have b1 : Hid (i0.bytes * 1 ≤ 281474976710656) := by show _ ≤ _; rw [hz2]; omega
  have b2 : Hid (1 ≤ maxLen) := by show _ ≤ _; unfold maxLen; omega
  go_enter Tryz.func49, Tryz.ntmps49
  go_wp2_with (first
    | (at_make; refine wpList_make_own _ rfl _ _ 71 rfl w.heap.size 69 i0 _ 10 Tryz.underlying71 hi hz0 hz1 .i64 .i64 _ 1 rfl rfl (by decide) b1.out b2.out (Nat.le_refl _) ?_; intro w1 hown1 hgrow1; have HK : Hid (w1.ownsRow w.heap.size 69 10 (.slice (some ⟨w.heap.size, 0, none⟩) 0 1) 0 [] ∧ Below w.heap.size w w1) := ⟨hown1, grown_below hgrow1⟩; clear hown1 hgrow1))
  obtain ⟨g0, hg0⟩ : ∃ g0, g0 = w.heap.size := ⟨_, rfl⟩
  have HS0 : Hid (RowS w w1 g0 0 []) := by rw [hg0]; exact ⟨HK.out.1, HK.out.2⟩
  have HG : Hid (g0 = w.heap.size) := hg0
  simp only [← hg0]
  clear hg0 HK
  go_loopw [18, 5] (fun i o wr => (i = .int .i64 0 ∧ o = .slice (some ⟨g0, 0, none⟩) 0 1 ∧ Hid (RowS w wr g0 0 [])) ∨ (i = .int .i64 1 ∧ Hid (RowE w wr o (a + c) (b + d)))) (fun i _ _ => 1 - (intOf i).toNat)
  case atStart => exact Or.inl ⟨rfl, rfl, HS0.out⟩
  case round =>
    rcases hrel with ⟨rfl, rfl, HS⟩ | ⟨rfl, HS⟩
    · have hx := K1.out _ HS.out.2
      have x0 := hx.1 0 _ rfl
      have x1 := hx.1 1 _ rfl
      have x2 := hx.1 2 _ rfl
      have x3 := hx.1 3 _ rfl
      have x4 := hx.1 4 _ rfl
      have x5 := hx.1 5 _ rfl
      have x6 := hx.1 6 _ rfl
      have x7 := hx.1 7 _ rfl
      have x8 := hx.1 8 _ rfl
      have x9 := hx.1 9 _ rfl
      obtain ⟨U, hU⟩ : ∃ U, U = wr.alloc (.cells #[.int .u16 a, .int .u16 b, .int .u16 0, .int .u16 0, .int .u16 0, .int .u16 0, .int .u16 0, .int .u16 0, .bool false, .slice ao la ca] 69) := ⟨_, rfl⟩
      have hbU : Below wr.heap.size wr U := by rw [hU]; exact (Below.refl _ _).alloc (Nat.le_refl _) _
      have hxU : Bx U wr.heap.size (entry2 a b ao la ca) := by rw [hU]; exact Bx.new wr (entry2 a b ao la ca) _
      have HU : Hid (U = wr.alloc (.cells #[.int .u16 a, .int .u16 b, .int .u16 0, .int .u16 0, .int .u16 0, .int .u16 0, .int .u16 0, .int .u16 0, .bool false, .slice ao la ca] 69)) := hU
      obtain ⟨r7, hr7⟩ : ∃ r7, r7 = wr.heap.size := ⟨_, rfl⟩
      have HS1 : Hid (RowS w U g0 0 [] ∧ Bx U r7 (entry2 a b ao la ca) ∧ g0 < r7) := by rw [hr7]; exact ⟨HS.out.later hbU, hxU, HS.out.lt⟩
      have HR7 : Hid (r7 = wr.heap.size) := hr7
      clear hU hbU hxU hr7 hx
      go_wp2
      rw [← HU.out]
      clear x0 x1 x2 x3 x4 x5 x6 x7 x8 x9 HS
      simp only [← HR7.out]
      obtain ⟨wo, hwo⟩ : ∃ x, x = wr := ⟨_, rfl⟩
      subst hwo
      go_loopw [24, 5] (fun i o wv => (i = .int .i64 0 ∧ o = .slice (some ⟨g0, 0, none⟩) 0 1 ∧ Hid (RowS w wv g0 0 [] ∧ Bx wv r7 (entry2 a b ao la ca))) ∨ (i = .int .i64 1 ∧ Hid (RowE w wv o (a + c) (b + d)))) (fun i _ _ => 1 - (intOf i).toNat)
      case atStart => exact Or.inl ⟨rfl, rfl, HS1.out.1, HS1.out.2.1⟩
      case round =>
        rcases hrel with ⟨rfl, rfl, HT⟩ | ⟨rfl, HT⟩
        · have hx := K2.out _ HT.out.1.2
          have x0 := hx.1 0 _ rfl
          have x1 := hx.1 1 _ rfl
          have x2 := hx.1 2 _ rfl
          have x3 := hx.1 3 _ rfl
          have x4 := hx.1 4 _ rfl
          have x5 := hx.1 5 _ rfl
          have x6 := hx.1 6 _ rfl
          have x7 := hx.1 7 _ rfl
          have x8 := hx.1 8 _ rfl
          have x9 := hx.1 9 _ rfl
          obtain ⟨V, hV⟩ : ∃ V, V = wr.alloc (.cells #[.int .u16 c, .int .u16 d, .int .u16 0, .int .u16 0, .int .u16 0, .int .u16 0, .int .u16 0, .int .u16 0, .bool false, .slice bo lb cb] 69) := ⟨_, rfl⟩
          have hbV : Below wr.heap.size wr V := by rw [hV]; exact (Below.refl _ _).alloc (Nat.le_refl _) _
          have hxV : Bx V wr.heap.size (entry2 c d bo lb cb) := by rw [hV]; exact Bx.new wr (entry2 c d bo lb cb) _
          have HV : Hid (V = wr.alloc (.cells #[.int .u16 c, .int .u16 d, .int .u16 0, .int .u16 0, .int .u16 0, .int .u16 0, .int .u16 0, .int .u16 0, .bool false, .slice bo lb cb] 69)) := hV
          obtain ⟨r9, hr9⟩ : ∃ r9, r9 = wr.heap.size := ⟨_, rfl⟩
          have HS2 : Hid (RowS w V g0 0 [] ∧ Bx V r7 (entry2 a b ao la ca) ∧ Bx V r9 (entry2 c d bo lb cb) ∧ g0 < r7 ∧ g0 < r9) := by rw [hr9]; exact ⟨HT.out.1.later hbV, HT.out.2.later hbV HT.out.2.lt, hxV, HS1.out.2.2, HT.out.1.lt⟩
          have HR9 : Hid (r9 = wr.heap.size) := hr9
          have HI : Hid (IntAt V false ao la ca 1 ∧ IntAt V false bo lb cb 1) := by
            have hb := bnext HT.out.1.2 hbV
            exact ⟨HI0.out.1.later hb, HI0.out.2.later hb⟩
          have KS : Hid (∀ w', Below V.heap.size V w' → w'.cell? ⟨r7, 0, none⟩ = some (.int .u16 a) ∧ w'.cell? ⟨r7, 1, none⟩ = some (.int .u16 b) ∧ w'.cell? ⟨r7, 2, none⟩ = some (.int .u16 0) ∧ w'.cell? ⟨r7, 3, none⟩ = some (.int .u16 0) ∧ w'.cell? ⟨r7, 4, none⟩ = some (.int .u16 0) ∧ w'.cell? ⟨r7, 5, none⟩ = some (.int .u16 0) ∧ w'.cell? ⟨r7, 6, none⟩ = some (.int .u16 0) ∧ w'.cell? ⟨r7, 7, none⟩ = some (.int .u16 0) ∧ w'.cell? ⟨r7, 8, none⟩ = some (.bool false) ∧ w'.cell? ⟨r7, 9, none⟩ = some (.slice ao la ca) ∧ w'.cell? ⟨r9, 0, none⟩ = some (.int .u16 c) ∧ w'.cell? ⟨r9, 1, none⟩ = some (.int .u16 d) ∧ w'.cell? ⟨r9, 2, none⟩ = some (.int .u16 0) ∧ w'.cell? ⟨r9, 3, none⟩ = some (.int .u16 0) ∧ w'.cell? ⟨r9, 4, none⟩ = some (.int .u16 0) ∧ w'.cell? ⟨r9, 5, none⟩ = some (.int .u16 0) ∧ w'.cell? ⟨r9, 6, none⟩ = some (.int .u16 0) ∧ w'.cell? ⟨r9, 7, none⟩ = some (.int .u16 0) ∧ w'.cell? ⟨r9, 8, none⟩ = some (.bool false) ∧ w'.cell? ⟨r9, 9, none⟩ = some (.slice bo lb cb)) := fun w' hb => by
            have e7 := HS2.out.2.1.later hb HS2.out.2.1.lt
            have e9 := HS2.out.2.2.1.later hb HS2.out.2.2.1.lt
            exact ⟨e7.1 0 _ rfl, e7.1 1 _ rfl, e7.1 2 _ rfl, e7.1 3 _ rfl, e7.1 4 _ rfl, e7.1 5 _ rfl, e7.1 6 _ rfl, e7.1 7 _ rfl, e7.1 8 _ rfl, e7.1 9 _ rfl, e9.1 0 _ rfl, e9.1 1 _ rfl, e9.1 2 _ rfl, e9.1 3 _ rfl, e9.1 4 _ rfl, e9.1 5 _ rfl, e9.1 6 _ rfl, e9.1 7 _ rfl, e9.1 8 _ rfl, e9.1 9 _ rfl⟩
          clear hV hbV hxV hr9 hx
          go_wp2
          rw [← HV.out]
          clear x0 x1 x2 x3 x4 x5 x6 x7 x8 x9
          simp only [← HR9.out]
          refine wp_region_noPanic ?_
          refine wp_region_held_drew (S := fun w' => (w'.cell? ⟨r7, 0, none⟩ = some (.int .u16 a) ∧ w'.cell? ⟨r7, 1, none⟩ = some (.int .u16 b) ∧ w'.cell? ⟨r7, 2, none⟩ = some (.int .u16 0) ∧ w'.cell? ⟨r7, 3, none⟩ = some (.int .u16 0) ∧ w'.cell? ⟨r7, 4, none⟩ = some (.int .u16 0) ∧ w'.cell? ⟨r7, 5, none⟩ = some (.int .u16 0) ∧ w'.cell? ⟨r7, 6, none⟩ = some (.int .u16 0) ∧ w'.cell? ⟨r7, 7, none⟩ = some (.int .u16 0) ∧ w'.cell? ⟨r7, 8, none⟩ = some (.bool false) ∧ w'.cell? ⟨r7, 9, none⟩ = some (.slice ao la ca) ∧ w'.cell? ⟨r9, 0, none⟩ = some (.int .u16 c) ∧ w'.cell? ⟨r9, 1, none⟩ = some (.int .u16 d) ∧ w'.cell? ⟨r9, 2, none⟩ = some (.int .u16 0) ∧ w'.cell? ⟨r9, 3, none⟩ = some (.int .u16 0) ∧ w'.cell? ⟨r9, 4, none⟩ = some (.int .u16 0) ∧ w'.cell? ⟨r9, 5, none⟩ = some (.int .u16 0) ∧ w'.cell? ⟨r9, 6, none⟩ = some (.int .u16 0) ∧ w'.cell? ⟨r9, 7, none⟩ = some (.int .u16 0) ∧ w'.cell? ⟨r9, 8, none⟩ = some (.bool false) ∧ w'.cell? ⟨r9, 9, none⟩ = some (.slice bo lb cb))) (by kernel_rfl) (by (try dsimp only); exact KS.out _ (Below.refl _ _).drew) (fun hHeld => ?_)
          refine wpAnyH_take (i := 0) (oi := Oper.mk (some 28) _ _ _ _ _) (v := ?_) rfl (by decide +kernel) (by decide +kernel) (by decide +kernel) (fun _ _ _ h => h) (Or.inl ⟨by rfl, ?_⟩) (by assumption) ?_
          rotate_left
          · (intro w hSw; (try dsimp only at hSw); go_simp <;> (try with_reducible rfl))
          (try simp only [Act.put, List.setIfInBounds_toArray, List.set_cons_zero, List.set_cons_succ])
          refine wpAnyH_take (i := 1) (oi := Oper.mk (some 29) _ _ _ _ _) (v := ?_) rfl (by decide +kernel) (by decide +kernel) (by decide +kernel) (fun _ _ _ h => h) (Or.inl ⟨by rfl, ?_⟩) (by assumption) ?_
          rotate_left
          · (intro w hSw; (try dsimp only at hSw); go_simp <;> (try with_reducible rfl))
          (try simp only [Act.put, List.setIfInBounds_toArray, List.set_cons_zero, List.set_cons_succ])
          refine wpAnyH_take (i := 2) (oi := Oper.mk (some 30) _ _ _ _ _) (v := ?_) rfl (by decide +kernel) (by decide +kernel) (by decide +kernel) (fun _ _ _ h => h) (Or.inl ⟨by rfl, ?_⟩) (by assumption) ?_
          rotate_left
          · (intro w hSw; (try dsimp only at hSw); go_simp <;> (try with_reducible rfl))
          (try simp only [Act.put, List.setIfInBounds_toArray, List.set_cons_zero, List.set_cons_succ])
          refine wpAnyH_take (i := 3) (oi := Oper.mk (some 31) _ _ _ _ _) (v := ?_) rfl (by decide +kernel) (by decide +kernel) (by decide +kernel) (fun _ _ _ h => h) (Or.inl ⟨by rfl, ?_⟩) (by assumption) ?_
          rotate_left
          · (intro w hSw; (try dsimp only at hSw); go_simp <;> (try with_reducible rfl))
          (try simp only [Act.put, List.setIfInBounds_toArray, List.set_cons_zero, List.set_cons_succ])
          refine wpAnyH_take (i := 4) (oi := Oper.mk (some 32) _ _ _ _ _) (v := ?_) rfl (by decide +kernel) (by decide +kernel) (by decide +kernel) (fun _ _ _ h => h) (Or.inl ⟨by rfl, ?_⟩) (by assumption) ?_
          rotate_left
          · (intro w hSw; (try dsimp only at hSw); go_simp <;> (try with_reducible rfl))
          (try simp only [Act.put, List.setIfInBounds_toArray, List.set_cons_zero, List.set_cons_succ])
          refine wpAnyH_take (i := 6) (oi := Oper.mk (some 34) _ _ _ _ _) (v := ?_) rfl (by decide +kernel) (by decide +kernel) (by decide +kernel) (fun _ _ _ h => h) (Or.inl ⟨by rfl, ?_⟩) (by assumption) ?_
          rotate_left
          · (intro w hSw; (try dsimp only at hSw); go_simp <;> (try with_reducible rfl))
          (try simp only [Act.put, List.setIfInBounds_toArray, List.set_cons_zero, List.set_cons_succ])
          refine wpAnyH_take (i := 7) (oi := Oper.mk (some 35) _ _ _ _ _) (v := ?_) rfl (by decide +kernel) (by decide +kernel) (by decide +kernel) (fun _ _ _ h => h) (Or.inl ⟨by rfl, ?_⟩) (by assumption) ?_
          rotate_left
          · (intro w hSw; (try dsimp only at hSw); go_simp <;> (try with_reducible rfl))
          (try simp only [Act.put, List.setIfInBounds_toArray, List.set_cons_zero, List.set_cons_succ])
          refine wpAnyH_take (i := 8) (oi := Oper.mk (some 36) _ _ _ _ _) (v := ?_) rfl (by decide +kernel) (by decide +kernel) (by decide +kernel) (fun _ _ _ h => h) (Or.inl ⟨by rfl, ?_⟩) (by assumption) ?_
          rotate_left
          · (intro w hSw; (try dsimp only at hSw); go_simp <;> (try with_reducible rfl))
          (try simp only [Act.put, List.setIfInBounds_toArray, List.set_cons_zero, List.set_cons_succ])
          refine wpAnyH_take (i := 9) (oi := Oper.mk (some 37) _ _ _ _ _) (v := ?_) rfl (by decide +kernel) (by decide +kernel) (by decide +kernel) (fun _ _ _ h => h) (Or.inl ⟨by rfl, ?_⟩) (by assumption) ?_
          rotate_left
          · (intro w hSw; (try dsimp only at hSw); go_simp <;> (try with_reducible rfl))
          (try simp only [Act.put, List.setIfInBounds_toArray, List.set_cons_zero, List.set_cons_succ])
          refine wpAnyH_ready (rs := [5]) (by decide +kernel) (by simp) ?_
          refine AllReadyH.cons (o := Oper.mk (some 33) _ _ _ _ _) rfl (fun K hK => ?_) AllReadyH.nil
          go_simp
          (go_at_call 52; refine (plusE2 a b c d _ HA.out.1 HA.out.2.1 HA.out.2.2.1 HA.out.2.2.2).mono ?_; rintro e w4 ⟨rfl, hb'⟩; have hb4 : Below V.heap.size V w4 := bnext ((Below.refl _ _).drew) hb'; clear hb')
          (try go_wp2_with fail)
          clear hHeld
          refine hK.out _ _ (by (try dsimp only); exact KS.out _ hb4) (fun hHeld => ?_)
          clear hK K
          (try simp only [Act.put, List.setIfInBounds_toArray, List.set_cons_zero, List.set_cons_succ])
          refine wpAnyH_ready (rs := [10]) (by decide +kernel) (by simp) ?_
          refine AllReadyH.cons (o := Oper.mk (some 38) _ _ _ _ _) rfl (fun K hK => ?_) AllReadyH.nil
          go_simp
          (go_at_call 55; refine (mptimes_any false false ao bo la ca lb cb 1 1 _ (HI.out.1.later hb4) (HI.out.2.later hb4) HLN.out.1 HLN.out.2).mono ?_; rintro e w5 ⟨n5, o5, l5, c5, rfl, hs5, ho5, hb'⟩; have hb5 : Below V.heap.size V w5 := bnext hb4 hb'; have H5 : Hid (Own w4.heap.size w5 .u64 80 o5 l5 c5 [1]) := (by rw [← mag1]; exact ho5); obtain rfl : n5 = false := hs5; clear ho5 hb')
          (try go_wp2_with fail)
          clear hHeld
          refine hK.out _ _ (by (try dsimp only); exact KS.out _ hb5) (fun hHeld => ?_)
          clear hK K
          (try simp only [Act.put, List.setIfInBounds_toArray, List.set_cons_zero, List.set_cons_succ])
          refine wpAnyH_take (i := 11) (oi := Oper.mk (some 39) _ _ _ _ _) (v := ?_) rfl (by decide +kernel) (by decide +kernel) (by decide +kernel) (fun _ _ _ h => h) (Or.inl ⟨by rfl, ?_⟩) (by assumption) ?_
          rotate_left
          · (intro w hSw; (try dsimp only at hSw); go_simp <;> (try with_reducible rfl))
          (try simp only [Act.put, List.setIfInBounds_toArray, List.set_cons_zero, List.set_cons_succ])
          refine wpAnyH_ready (rs := [12]) (by decide +kernel) (by simp) ?_
          refine AllReadyH.cons (o := Oper.mk (some 40) _ _ _ _ _) rfl (fun K hK => ?_) AllReadyH.nil
          go_simp
          clear hHeld
          refine hK.out _ _ (by (try dsimp only); exact KS.out _ (bnext hb5 ((Below.refl _ _).alloc (Nat.le_refl _) _))) (fun hHeld => ?_)
          clear hK K
          (try simp only [Act.put, List.setIfInBounds_toArray, List.set_cons_zero, List.set_cons_succ])
          refine wpAnyH_ready (rs := [13]) (by decide +kernel) (by simp) ?_
          refine AllReadyH.cons (o := Oper.mk (some 41) _ _ _ _ _) rfl (fun K hK => ?_) AllReadyH.nil
          (have hA6 : Below w5.heap.size w5 (w5.alloc (.cells #[.int .u16 (a + c),.int .u16 (b + d),.int .u16 0,.int .u16 0,.int .u16 0,.int .u16 0,.int .u16 0,.int .u16 0,.bool false,.slice o5 l5 c5] 69)) := (Below.refl _ _).alloc (Nat.le_refl _) _; have hb6 := bnext hb5 hA6; have hO6 := HS2.out.1.later hb6; refine wp_append_own _ _ _ 71 rfl w.heap.size 69 i0 _ 10 48 Tryz.underlying71 hi hz0 hz1 hz2 rfl (by decide) _ _ _ rfl hO6.1 ⟨w5.heap.size, 0, none⟩ 1 1 [.int .u16 (a + c),.int .u16 (b + d),.int .u16 0,.int .u16 0,.int .u16 0,.int .u16 0,.int .u16 0,.int .u16 0,.bool false,.slice o5 l5 c5] rfl rfl (World.news_of_block (cs := #[.int .u16 (a + c),.int .u16 (b + d),.int .u16 0,.int .u16 0,.int .u16 0,.int .u16 0,.int .u16 0,.int .u16 0,.bool false,.slice o5 l5 c5]) (t := 69) (fr := (0, 0)) (heap_alloc_new w5 _)) (by simp [Value.oneCell']) h63.out (by decide) hO6.2.size ?_; intro v7 w7 hown7 hgrow hnil; have HE : Hid (RowE w w7 v7 (a + c) (b + d)) := ⟨o5, l5, c5, hown7, grown_ownsN hO6.2 hO6.2.size hO6.1 hgrow, (own_grownN (H5.out.later hA6) hO6.1 hgrow (by decide)).row⟩; have KS2 : Hid (w7.cell? ⟨r7, 0, none⟩ = some (.int .u16 a) ∧ w7.cell? ⟨r7, 1, none⟩ = some (.int .u16 b) ∧ w7.cell? ⟨r7, 2, none⟩ = some (.int .u16 0) ∧ w7.cell? ⟨r7, 3, none⟩ = some (.int .u16 0) ∧ w7.cell? ⟨r7, 4, none⟩ = some (.int .u16 0) ∧ w7.cell? ⟨r7, 5, none⟩ = some (.int .u16 0) ∧ w7.cell? ⟨r7, 6, none⟩ = some (.int .u16 0) ∧ w7.cell? ⟨r7, 7, none⟩ = some (.int .u16 0) ∧ w7.cell? ⟨r7, 8, none⟩ = some (.bool false) ∧ w7.cell? ⟨r7, 9, none⟩ = some (.slice ao la ca) ∧ w7.cell? ⟨r9, 0, none⟩ = some (.int .u16 c) ∧ w7.cell? ⟨r9, 1, none⟩ = some (.int .u16 d) ∧ w7.cell? ⟨r9, 2, none⟩ = some (.int .u16 0) ∧ w7.cell? ⟨r9, 3, none⟩ = some (.int .u16 0) ∧ w7.cell? ⟨r9, 4, none⟩ = some (.int .u16 0) ∧ w7.cell? ⟨r9, 5, none⟩ = some (.int .u16 0) ∧ w7.cell? ⟨r9, 6, none⟩ = some (.int .u16 0) ∧ w7.cell? ⟨r9, 7, none⟩ = some (.int .u16 0) ∧ w7.cell? ⟨r9, 8, none⟩ = some (.bool false) ∧ w7.cell? ⟨r9, 9, none⟩ = some (.slice bo lb cb)) := (by have h6 := KS.out _ hb6; exact ⟨grown_cell (g := g0) hgrow (by have := HS2.out.2.2.2; omega) (h6.1), grown_cell (g := g0) hgrow (by have := HS2.out.2.2.2; omega) (h6.2.1), grown_cell (g := g0) hgrow (by have := HS2.out.2.2.2; omega) (h6.2.2.1), grown_cell (g := g0) hgrow (by have := HS2.out.2.2.2; omega) (h6.2.2.2.1), grown_cell (g := g0) hgrow (by have := HS2.out.2.2.2; omega) (h6.2.2.2.2.1), grown_cell (g := g0) hgrow (by have := HS2.out.2.2.2; omega) (h6.2.2.2.2.2.1), grown_cell (g := g0) hgrow (by have := HS2.out.2.2.2; omega) (h6.2.2.2.2.2.2.1), grown_cell (g := g0) hgrow (by have := HS2.out.2.2.2; omega) (h6.2.2.2.2.2.2.2.1), grown_cell (g := g0) hgrow (by have := HS2.out.2.2.2; omega) (h6.2.2.2.2.2.2.2.2.1), grown_cell (g := g0) hgrow (by have := HS2.out.2.2.2; omega) (h6.2.2.2.2.2.2.2.2.2.1), grown_cell (g := g0) hgrow (by have := HS2.out.2.2.2; omega) (h6.2.2.2.2.2.2.2.2.2.2.1), grown_cell (g := g0) hgrow (by have := HS2.out.2.2.2; omega) (h6.2.2.2.2.2.2.2.2.2.2.2.1), grown_cell (g := g0) hgrow (by have := HS2.out.2.2.2; omega) (h6.2.2.2.2.2.2.2.2.2.2.2.2.1), grown_cell (g := g0) hgrow (by have := HS2.out.2.2.2; omega) (h6.2.2.2.2.2.2.2.2.2.2.2.2.2.1), grown_cell (g := g0) hgrow (by have := HS2.out.2.2.2; omega) (h6.2.2.2.2.2.2.2.2.2.2.2.2.2.2.1), grown_cell (g := g0) hgrow (by have := HS2.out.2.2.2; omega) (h6.2.2.2.2.2.2.2.2.2.2.2.2.2.2.2.1), grown_cell (g := g0) hgrow (by have := HS2.out.2.2.2; omega) (h6.2.2.2.2.2.2.2.2.2.2.2.2.2.2.2.2.1), grown_cell (g := g0) hgrow (by have := HS2.out.2.2.2; omega) (h6.2.2.2.2.2.2.2.2.2.2.2.2.2.2.2.2.2.1), grown_cell (g := g0) hgrow (by have := HS2.out.2.2.2; omega) (h6.2.2.2.2.2.2.2.2.2.2.2.2.2.2.2.2.2.2.1), grown_cell (g := g0) hgrow (by have := HS2.out.2.2.2; omega) (h6.2.2.2.2.2.2.2.2.2.2.2.2.2.2.2.2.2.2.2)⟩); clear hown7 hnil)
          clear hHeld
          refine hK.out _ _ (by (try dsimp only); exact KS2.out) (fun hHeld => ?_)
          clear hK K
          (try simp only [Act.put, List.setIfInBounds_toArray, List.set_cons_zero, List.set_cons_succ])
          refine wpAnyH_take (i := 14) (oi := Oper.mk (some 5) _ _ _ _ _) (v := ?_) rfl (by decide +kernel) (by decide +kernel) (by decide +kernel) (fun _ _ _ h => h) (Or.inl ⟨by rfl, ?_⟩) (by assumption) ?_
          rotate_left
          · (intro w hSw; (try dsimp only at hSw); go_simp <;> (try with_reducible rfl))
          (try simp only [Act.put, List.setIfInBounds_toArray, List.set_cons_zero, List.set_cons_succ])
          refine wpAnyH_done (by decide +kernel) ?_ _
          refine NoPanic.normal ?_
          clear hHeld
          go_wp2
          go_roundw
          case rel => exact Or.inr ⟨by go_num, HE.out⟩
          case measure => simp [intOf]
        · go_wp2
          go_roundw
          case rel => exact Or.inr ⟨by go_num, HT.out⟩
          case measure => simp [intOf]
    · go_wp2
      go_ret
      exact HS.out.done
set_option maxRecDepth 100000 in
set_option maxHeartbeats 1000000 in
theorem product_one (a b c d : Int) (g1 g2 k1 k2 : Nat) (ao bo : Option Addr) (la ca lb cb : Nat) (w : World) (h1 : Bx w g1 (entry2 a b ao la ca)) (h2 : Bx w g2 (entry2 c d bo lb cb)) (hr1 : RowAt w .u64 ao la ca [1]) (hr2 : RowAt w .u64 bo lb cb [1]) (ha : 0 ≤ a ∧ a ≤ 500) (hb : 0 ≤ b ∧ b ≤ 500) (hc : 0 ≤ c ∧ c ≤ 500) (hd : 0 ≤ d ∧ d ≤ 500) :
    Calls Tryz.prog 33 #[.slice (some ⟨g1, 0, none⟩) 1 k1, .slice (some ⟨g2, 0, none⟩) 1 k2] w (OneEn (a + c) (b + d) w) := by
  have H := row_one a b c d g1 g2 k1 k2 ao bo la ca lb cb w h1 h2 hr1 hr2 ha hb hc hd
  clear h1 h2 hr1 hr2 ha hb hc hd
  go_enter Tryz.func33, Tryz.ntmps33
  go_wp2_with (go_at_call 49; refine H.mono ?_; rintro e w1 ⟨g, cp, o5, l5, c5, rfl, h5, h6⟩)
  go_ret
  exact ⟨g, cp, o5, l5, c5, rfl, h5, h6⟩
end Go.Proofs.YtiemgadnnnhmkaaGreat
