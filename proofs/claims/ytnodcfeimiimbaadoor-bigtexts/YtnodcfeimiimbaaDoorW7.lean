/-
  Walks: signed, sum, Add, From, EqInt.
-/
import Derived.Test.YtnodcfeimiimbaaDoorW6
import Derived.Deep.RegionHeld3
namespace Go.Proofs.YtnodcfeimiimbaaDoor
open Go.RowKit
set_option linter.unusedVariables false
set_option linter.unusedSimpArgs false

set_option maxRecDepth 100000 in
set_option maxHeartbeats 400000 in
theorem signed_any (neg : Bool) (ao : Option Addr) (len cap : Nat) (w : World) (hl : len ≤ 4611686018427387904) :
    Calls Tryd.prog 18 #[.bool neg, .slice ao len cap] w fun e w' => e = .returned (.agg #[.bool (neg && decide (0 < len)), .slice ao len cap]) ∧ Below w.heap.size w w' := by
  cases neg
  · go_enter Tryd.func18, Tryd.ntmps18
    go_wp2
    exact bodyPost_ret (v := .agg #[.bool false, .slice ao len cap]) (by simp [results, Tryd.results18, go_sem]) rfl ⟨rfl, (Below.refl _ _).alloc (Nat.le_refl _) _⟩
  · by_cases h : 0 < len
    · rw [decide_eq_true h]
      go_enter Tryd.func18, Tryd.ntmps18
      go_wp2
      exact bodyPost_ret (v := .agg #[.bool true, .slice ao len cap]) (by simp [results, Tryd.results18, go_sem]) rfl ⟨rfl, (Below.refl _ _).alloc (Nat.le_refl _) _⟩
    · rw [decide_eq_false h]
      go_enter Tryd.func18, Tryd.ntmps18
      go_wp2
      exact bodyPost_ret (v := .agg #[.bool false, .slice ao len cap]) (by simp [results, Tryd.results18, go_sem]) rfl ⟨rfl, (Below.refl _ _).alloc (Nat.le_refl _) _⟩
theorem Own.setOther {B : Nat} {w : World} {k : IntKind} {t : TypeId} {ao : Option Addr} {len cap : Nat} {zs : List Int} (h : Own B w k t ao len cap zs) {a : Addr} (ha : a.block < B) (v : Value) : Own B (w.setCell a v) k t ao len cap zs := by
  rcases h with h | ⟨g, off, L, h1, h2, h3, h4⟩
  · exact Or.inl h
  · exact Or.inr ⟨g, off, L, h1, h2, by rw [Below.heap_setCell _ _ _ _ (by omega)]; exact h3, h4⟩
theorem NewInt.ret {w w' : World} {B : Nat} {neg : Bool} {n l c : Nat} {ao : Option Addr} {v : Int} (ho : Own B w' .u64 54 ao l c (mag n)) (hB : w.heap.size ≤ B) (hv : v = sgn neg n) (hb : Below w.heap.size w w') : NewInt w w' (.returned (.agg #[.bool (neg && decide (0 < l)), .slice ao l c])) v := by
  subst hv
  refine ⟨_, _, _, _, rfl, ?_, ?_, hb⟩
  · rw [sgB_sgn, ho.row.hlen]
  · rw [natAbs_sgn]; exact ho.mono hB
theorem sgn_add_same {neg : Bool} {a b : Int} (ha : neg = sgB a) (hb : neg = sgB b) : a + b = sgn neg (a.natAbs + b.natAbs) := by
  have h1 := sgn_of ha
  have h2 := sgn_of hb
  unfold sgn at h1 h2 ⊢
  cases neg <;> simp at h1 h2 ⊢ <;> omega
theorem sgn_add_diff {na nb : Bool} {a b : Int} (ha : na = sgB a) (hb : nb = sgB b) (hd : na ≠ nb) (hle : b.natAbs ≤ a.natAbs) : a + b = sgn na (a.natAbs - b.natAbs) := by
  have h1 := sgn_of ha
  have h2 := sgn_of hb
  unfold sgn at h1 h2 ⊢
  cases na <;> cases nb <;> simp at h1 h2 hd ⊢ <;> omega

theorem compare_at (ao bo : Option Addr) (la ca lb cb a b : Nat) (w : World) (hx : RowAt w .u64 ao la ca (mag a)) (hy : RowAt w .u64 bo lb cb (mag b)) (hl : la ≤ 4294967296) (hl' : lb ≤ 4294967296) (c : Int) (hc : cmpI a b = c) :
    Calls Tryd.prog 45 #[.slice ao la ca, .slice bo lb cb] w fun e w' => e = .returned (.int .i64 c) ∧ Below w.heap.size w w' := by
  refine (compare_any ao bo la ca lb cb (mag a) (mag b) w hx hy (mag_wd _) (mag_wd _) (mag_can _) (mag_can _) (by omega) (by omega)).mono fun e w' h => ?_
  rw [mag_val, mag_val, hc] at h; exact h
theorem cmpI_ge {a b : Int} (h : b ≤ a) : ∃ c, cmpI a b = c ∧ 0 ≤ c := by
  refine ⟨_, rfl, ?_⟩
  unfold cmpI; split
  · omega
  · split <;> omega

end Go.Proofs.YtnodcfeimiimbaaDoor
