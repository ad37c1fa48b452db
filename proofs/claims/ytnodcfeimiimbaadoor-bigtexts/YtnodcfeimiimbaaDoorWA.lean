/-
  Walks: numbers made of machine integers; Add; the law's own wake-up call.
-/
import Derived.Test.YtnodcfeimiimbaaDoorW9
namespace Go.Proofs.YtnodcfeimiimbaaDoor
open Go.RowKit
set_option linter.unusedVariables false
set_option linter.unusedSimpArgs false

/-- a call's result lies in a variable of its own, not written yet -/
def Fresh (W : World) (r : Nat) : Prop := (∀ j, W.frozen? ⟨r, j, none⟩ = false) ∧ W.cell? ⟨r, 0, none⟩ = some (.bool false) ∧ W.cell? ⟨r, 1, none⟩ = some (.slice none 0 0)
theorem Fresh.new (w : World) : Fresh (w.alloc (.cells #[.bool false, .slice none 0 0] 30)) w.heap.size := ⟨fun j => by simp [go_sem], by simp [go_sem], by simp [go_sem]⟩
theorem Fresh.later {W w2 : World} {r : Nat} (k : Fresh W r) (h : Below W.heap.size W w2) (hr : r < W.heap.size) : Fresh w2 r :=
  ⟨fun j => (h.frozen (p := ⟨r, j, none⟩) hr).trans (k.1 j), (h.cell (p := ⟨r, 0, none⟩) hr).trans k.2.1, (h.cell (p := ⟨r, 1, none⟩) hr).trans k.2.2⟩
/-- a number and no error -/
def NewIntErr (w w' : World) (e : Ending) (v : Int) : Prop :=
  ∃ neg ao len cap, e = .returned (.tuple #[.agg #[.bool neg, .slice ao len cap], .int .i64 0]) ∧ neg = sgB v ∧ Own w.heap.size w' .u64 54 ao len cap (mag v.natAbs) ∧ Below w.heap.size w w'
theorem Own.store {B : Nat} {w : World} {k : IntKind} {t : TypeId} {ao : Option Addr} {len cap : Nat} {zs : List Int} (h : Own B w k t ao len cap zs) {r : Nat} (hr : r < B) (x y : Value) : Own B ((w.setCell ⟨r, 0, none⟩ x).setCell ⟨r, 1, none⟩ y) k t ao len cap zs :=
  (h.setOther (a := ⟨r, 0, none⟩) hr x).setOther (a := ⟨r, 1, none⟩) hr y
theorem below_store {B r : Nat} {w w2 : World} (hb : Below B w w2) (hr : B ≤ r) (x y : Value) : Below B w ((w2.setCell ⟨r, 0, none⟩ x).setCell ⟨r, 1, none⟩ y) :=
  (hb.setCell (p := ⟨r, 0, none⟩) hr x).setCell (p := ⟨r, 1, none⟩) hr y
theorem wrapU (x : Int) : IntKind.u64.wrap x = x % 18446744073709551616 := by rw [IntKind.wrap_u64]
theorem sgn_natAbs (n : Int) : sgn (decide (n < 0)) n.natAbs = n := by
  unfold sgn; split
  · rename_i h; have := of_decide_eq_true h; omega
  · rename_i h; have : ¬ n < 0 := fun e => h (decide_eq_true e)
    omega

set_option maxRecDepth 100000 in
set_option maxHeartbeats 400000 in
theorem size_any (n : Int) (w : World) (h1 : -9223372036854775808 ≤ n) (h2 : n ≤ 9223372036854775807) :
    Calls Tryd.prog 41 #[.int .i64 n] w fun e w' => e = .returned (.int .u64 (n.natAbs : Int)) ∧ w' = w := by
  by_cases h : n < 0
  · go_enter Tryd.func41, Tryd.ntmps41
    go_wp2
    go_ret
    refine ⟨ret_int ?_, rfl⟩
    rw [wrapU, wrapU]; omega
  · go_enter Tryd.func41, Tryd.ntmps41
    go_wp2
    go_ret
    refine ⟨ret_int ?_, rfl⟩
    omega

theorem mag_len_one {n : Nat} (h : n < 18446744073709551616) : (mag n).length ≤ 1 := mag_len_le (by simp; omega)

set_option maxRecDepth 100000 in
set_option maxHeartbeats 1000000 in
theorem rfrom_any (n : Int) (w : World) (h1 : -9223372036854775808 ≤ n) (h2 : n ≤ 9223372036854775807) :
    Calls Tryd.prog 25 #[.int .i64 n] w fun e w' => NewInt w w' e n := by
  obtain ⟨W0, hW0⟩ : ∃ W0, W0 = w.alloc (.cells #[.bool false, .slice none 0 0] 30) := ⟨_, rfl⟩
  have hbW : Below w.heap.size w W0 := by subst hW0; exact (Below.refl _ _).alloc (Nat.le_refl _) _
  have hsz : W0.heap.size = w.heap.size + 1 := by subst hW0; simp
  have KF : Fresh W0 w.heap.size := by subst hW0; exact Fresh.new w
  have hcon := size_any n W0 h1 h2
  have HN : Hid (n.natAbs < 18446744073709551616) := by show _ < _; omega
  obtain ⟨N, hN⟩ : ∃ N, n.natAbs = N := ⟨_, rfl⟩
  rw [hN] at hcon HN
  have HE : Hid (sgn (decide (n < 0)) N = n) := by show _ = _; rw [← hN]; exact sgn_natAbs n
  clear hN
  rw [hW0] at hcon
  have HW : Hid (W0 = w.alloc (.cells #[.bool false, .slice none 0 0] 30)) := hW0
  clear hW0
  go_enter Tryd.func25, Tryd.ntmps25
  go_wp2_with (first
    | (go_at_call 41; refine hcon.mono ?_; rintro e w0 ⟨rfl, rfl⟩; rw [← HW.out])
    | (go_at_call 38; refine (nof_any N _ HN.out).mono ?_; rintro e w1 ⟨ao1, l1, c1, rfl, ho1, hb1⟩; have hlen1 : l1 ≤ 1 := by (rw [ho1.row.hlen]; exact mag_len_one HN.out))
    | (go_at_call 22; refine (made_any (decide (n < 0)) ao1 l1 c1 _ (by omega)).mono ?_; rintro e w2 ⟨rfl, hb2⟩; obtain ⟨g5, g3, g4⟩ := KF.later (bnext hb1 hb2) (by omega)))
  exact bodyPost_ret (v := .agg #[.bool (decide (n < 0) && decide (0 < l1)), .slice ao1 l1 c1]) (by simp [results, Tryd.results25, go_sem, g3, g4]) rfl
    (NewInt.ret ((ho1.later hb2).store (by omega) _ _) (by omega) HE.out.symm (below_store (bnext hbW (bnext hb1 hb2)) (Nat.le_refl _) _ _))

set_option maxRecDepth 100000 in
set_option maxHeartbeats 1000000 in
theorem from_any (n : Int) (w : World) (h1 : -9223372036854775808 ≤ n) (h2 : n ≤ 9223372036854775807) :
    Calls Tryd.prog 24 #[.int .i64 n] w fun e w' => NewInt w w' e n := by
  obtain ⟨W0, hW0⟩ : ∃ W0, W0 = w.alloc (.cells #[.bool false, .slice none 0 0] 30) := ⟨_, rfl⟩
  have hbW : Below w.heap.size w W0 := by subst hW0; exact (Below.refl _ _).alloc (Nat.le_refl _) _
  have hsz : W0.heap.size = w.heap.size + 1 := by subst hW0; simp
  have KF : Fresh W0 w.heap.size := by subst hW0; exact Fresh.new w
  have HW : Hid (W0 = w.alloc (.cells #[.bool false, .slice none 0 0] 30)) := hW0
  clear hW0
  by_cases h : n < 0
  · have e1 : IntKind.u64.wrap (-IntKind.u64.wrap n) = (n.natAbs : Int) := by rw [wrapU, wrapU]; omega
    obtain ⟨N, hN⟩ : ∃ N, n.natAbs = N := ⟨_, rfl⟩
    rw [hN] at e1
    have HN : Hid (N < 18446744073709551616 ∧ 0 < N ∧ n = sgn true N) := ⟨by omega, by omega, by unfold sgn; simp; omega⟩
    have hm : Hid (mag N = [(N : Int)]) := mag_of (Wd.one (by have := HN.out; omega)) (by have := HN.out; simp [Can]; omega) (by simp [val])
    have hb : Hid (Blk (W0.alloc (.cells #[.int .u64 (N : Int)] 54)) W0.heap.size .u64 54 [(N : Int)]) := Blk.new W0 .u64 54 [(N : Int)]
    clear hN
    go_enter Tryd.func24, Tryd.ntmps24
    go_wp2
    have hbl := Blk.new (w.alloc (.cells #[.bool true, .slice (some ⟨w.heap.size + 1, 0, none⟩) 1 1] 30)) .u64 54 [(N : Int)]
    have hsz1 : (w.alloc (.cells #[.bool true, .slice (some ⟨w.heap.size + 1, 0, none⟩) 1 1] 30)).heap.size = w.heap.size + 1 := by simp
    rw [hsz1] at hbl
    exact bodyPost_ret (v := .agg #[.bool true, .slice (some ⟨w.heap.size + 1, 0, none⟩) 1 1]) (by simp [results, Tryd.results24, go_sem]) rfl
      ⟨true, _, _, _, rfl, by rw [HN.out.2.2, sgB_sgn, hm.out]; rfl, by rw [HN.out.2.2, natAbs_sgn, hm.out]; exact Own.whole hbl (Nat.le_succ _) rfl, ((Below.refl _ _).alloc (Nat.le_refl _) _).alloc (by simp) _⟩
  · obtain ⟨N, rfl⟩ := Int.eq_ofNat_of_zero_le (show 0 ≤ n by omega)
    have HN : Hid (N < 18446744073709551616) := by show _ < _; omega
    have h0 : decide ((N : Int) < 0) = false := by simp
    go_enter Tryd.func24, Tryd.ntmps24
    go_wp2_with (first
      | (go_at_call 32; rw [← HW.out]; refine (ofLimb_any N _ HN.out).mono ?_; rintro e w1 ⟨ao1, l1, c1, rfl, ho1, hb1⟩; have hlen1 : l1 ≤ 1 := by (rw [ho1.row.hlen]; exact mag_len_one HN.out))
      | (go_at_call 18; refine (signed_any false ao1 l1 c1 _ (by omega)).mono ?_; rintro e w2 ⟨rfl, hb2⟩; obtain ⟨g5, g3, g4⟩ := KF.later (bnext hb1 hb2) (by omega)))
    exact bodyPost_ret (v := .agg #[.bool (false && decide (0 < l1)), .slice ao1 l1 c1]) (by simp [results, Tryd.results24, go_sem, g3, g4]) rfl
      (NewInt.ret ((ho1.later hb2).store (by omega) _ _) (by omega) rfl (below_store (bnext hbW (bnext hb1 hb2)) (Nat.le_refl _) _ _))
end Go.Proofs.YtnodcfeimiimbaaDoor
