/-
  A pack of walks and facts: LD0.
-/
import Derived.Test.YthjkdnlbdhhmbaaGreatDoorPV12
import Derived.Test.YthjkdnlbdhhmbaaGreatDoorPV13
import Derived.Deep.RegionHeld3
set_option maxRecDepth 100000
set_option maxHeartbeats 40000000
set_option linter.unusedVariables false
set_option linter.unusedSimpArgs false
namespace Go.Proofs.YthjkdnlbdhhmbaaGreatDoor
open Go.RowKit
open Go.RowKit Go.Shelf
theorem bmul_any (na nb : Bool) (ao bo : Option Addr) (la ca lb cb : Nat) (a b : Int) (w : World) (hx : IntAt w na ao la ca a) (hy : IntAt w nb bo lb cb b) (hl : la ≤ 2147483648) (hl' : lb ≤ 2147483648) :
  Calls Tryz.prog 87 #[.agg #[.bool na, .slice ao la ca], .agg #[.bool nb, .slice bo lb cb]] w fun e w' => NewIntErr w w' e (a * b) := by
 obtain ⟨W, hT⟩ := Two3.mk' w na nb ao bo la ca lb cb
 have hsz := hT.size
 have hc : (if mayB na (mag a.natAbs) && mayB nb (mag b.natAbs) then 0 else 10 : Int) = 0 := by rw [hx.sg, hy.sg, may_int, may_int]; rfl
 have HC : Hid _ := hc
 have HV : Hid (a * b = sgn (na != nb) (a.natAbs * b.natAbs)) := sgn_mul hx.sg hy.sg
 have hRx := hx.later hT.below
 have hRy := hy.later hT.below
 clear hc hx hy
 have KS : Hid (∀ w' : World, Below (w.heap.size + 2) W w' → (Below (w.heap.size + 2) W w' ∧ w'.cell? ⟨w.heap.size, 0, none⟩ = some (.bool na) ∧ w'.cell? ⟨w.heap.size, 1, none⟩ = some (.slice ao la ca) ∧ w'.cell? ⟨w.heap.size + 1, 0, none⟩ = some (.bool nb) ∧ w'.cell? ⟨w.heap.size + 1, 1, none⟩ = some (.slice bo lb cb))) := fun w' h => ⟨h, (h.cell (p := ⟨w.heap.size, 0, none⟩) (by show w.heap.size < _; omega)).trans hT.a.1, (h.cell (p := ⟨w.heap.size, 1, none⟩) (by show w.heap.size < _; omega)).trans hT.a.2, (h.cell (p := ⟨w.heap.size + 1, 0, none⟩) (by show w.heap.size + 1 < _; omega)).trans hT.b.1, (h.cell (p := ⟨w.heap.size + 1, 1, none⟩) (by show w.heap.size + 1 < _; omega)).trans hT.b.2⟩
 have K1 : Hid (∀ w1 w2 : World, (Below (w.heap.size + 2) W w1 ∧ w1.cell? ⟨w.heap.size, 0, none⟩ = some (.bool na) ∧ w1.cell? ⟨w.heap.size, 1, none⟩ = some (.slice ao la ca) ∧ w1.cell? ⟨w.heap.size + 1, 0, none⟩ = some (.bool nb) ∧ w1.cell? ⟨w.heap.size + 1, 1, none⟩ = some (.slice bo lb cb)) → Below w1.heap.size w1 w2 → (Below (w.heap.size + 2) W w2 ∧ w2.cell? ⟨w.heap.size, 0, none⟩ = some (.bool na) ∧ w2.cell? ⟨w.heap.size, 1, none⟩ = some (.slice ao la ca) ∧ w2.cell? ⟨w.heap.size + 1, 0, none⟩ = some (.bool nb) ∧ w2.cell? ⟨w.heap.size + 1, 1, none⟩ = some (.slice bo lb cb))) := fun w1 w2 h hb => KS.out _ (h.1.trans (hb.mono (by have := h.1.size; omega)))
 have K2 : Hid (∀ w1 w2 : World, (Below (w.heap.size + 2) W w1 ∧ w1.cell? ⟨w.heap.size, 0, none⟩ = some (.bool na) ∧ w1.cell? ⟨w.heap.size, 1, none⟩ = some (.slice ao la ca) ∧ w1.cell? ⟨w.heap.size + 1, 0, none⟩ = some (.bool nb) ∧ w1.cell? ⟨w.heap.size + 1, 1, none⟩ = some (.slice bo lb cb)) → Below (w.heap.size + 2) w1 w2 → (Below (w.heap.size + 2) W w2 ∧ w2.cell? ⟨w.heap.size, 0, none⟩ = some (.bool na) ∧ w2.cell? ⟨w.heap.size, 1, none⟩ = some (.slice ao la ca) ∧ w2.cell? ⟨w.heap.size + 1, 0, none⟩ = some (.bool nb) ∧ w2.cell? ⟨w.heap.size + 1, 1, none⟩ = some (.slice bo lb cb))) := fun w1 w2 h hb => KS.out _ (h.1.trans hb)
 go_enter Tryz.func87, Tryz.ntmps87
 go_wp2_with (go_at_call 102; rw [← hT.eq]; refine (checkBoth_any na nb ao bo la ca lb cb _ _ _ hRx.row hRy.row (by omega) (by omega) 0 HC.out).mono ?_; rintro e w1 ⟨rfl, hb1⟩; have hs1 := hb1.size)
 have hbX : Below (w.heap.size + 2) W w1 := hb1.mono (by omega)
 go_region_held3 (fun w' => Below (w.heap.size + 2) W w' ∧ w'.cell? ⟨w.heap.size, 0, none⟩ = some (.bool na) ∧ w'.cell? ⟨w.heap.size, 1, none⟩ = some (.slice ao la ca) ∧ w'.cell? ⟨w.heap.size + 1, 0, none⟩ = some (.bool nb) ∧ w'.cell? ⟨w.heap.size + 1, 1, none⟩ = some (.slice bo lb cb))
  (first
   | exact KS.out _ hbX.drew
   | exact K1.out _ _ (by assumption) (by assumption)
   | exact K2.out _ _ (by assumption) (below_store (Below.refl _ _) (by omega) _ _))
  (first
   | (go_at_call 104; refine (times_any ao bo la ca lb cb _ _ _ (hRx.row.later hb1.drew) (hRy.row.later hb1.drew) (by omega) (by omega)).mono ?_; rintro e w2 ⟨ao2, l2, c2, rfl, ho2, hb2⟩; have hlen2 : l2 ≤ 4294967296 := (by rw [ho2.row.hlen]; have q := mag_len_mul a.natAbs b.natAbs; rw [← hRx.row.hlen, ← hRy.row.hlen] at q; omega))
   | (go_at_call 84; refine (signed_any (na != nb) ao2 l2 c2 _ (by omega)).mono ?_; rintro e w3 ⟨rfl, hb3⟩; obtain ⟨g5, g3, g4⟩ := hT.r.later (bnext hb1.drew (bnext hb2 hb3)) (by omega)))
 go_wp2
 have hN := NewInt.ret (w := w) ((ho2.later hb3).store (r := w.heap.size + 1 + 1) (by show _ < w1.heap.size; omega) (.bool ((na != nb) && decide (0 < l2))) (.slice ao2 l2 c2)) (by show _ ≤ w1.heap.size; omega) HV.out (below_store (bnext hT.below (bnext hb1.drew (bnext hb2 hb3))) (by omega) _ _)
 obtain ⟨n9, ao9, l9, c9, he9, hrest9⟩ := hN
 simp only [Ending.returned.injEq, Value.agg.injEq] at he9
 exact bodyPost_ret (v := .tuple #[.agg #[.bool ((na != nb) && decide (0 < l2)), .slice ao2 l2 c2], .int .i64 0]) (by simp [results, Tryz.results87, go_sem, g3, g4]) rfl
  ⟨n9, ao9, l9, c9, by rw [he9], hrest9⟩
theorem add_len (a b : Int) : (mag (a + b).natAbs).length ≤ (mag a.natAbs).length + (mag b.natAbs).length + 1 :=
 Nat.le_trans (mag_len_mono (Int.natAbs_add_le a b)) (mag_len_add _ _)
theorem mul_len (a b : Int) : (mag (a * b).natAbs).length ≤ (mag a.natAbs).length + (mag b.natAbs).length := by rw [Int.natAbs_mul]; exact mag_len_mul _ _
theorem with_held {S : World → Prop} {P : Program} {f : FuncId} {args : Array Value} {W : World} {Q : Ending → World → Prop} (h : S W) (k : S W → Calls P f args W Q) : Calls P f args W Q := k h
theorem own_alloc {B : Nat} {X : World} {k : IntKind} {t : TypeId} {ao : Option Addr} {l c : Nat} {zs : List Int} {o : Obj} (h : Own B X k t ao l c zs) : Own B (X.alloc o) k t ao l c zs := h.later ((Below.refl _ _).alloc (Nat.le_refl _) _)
theorem below_alloc {B : Nat} {w X : World} {o : Obj} (h : Below B w X) (hB : B ≤ w.heap.size) : Below B w (X.alloc o) := h.alloc (Nat.le_trans hB h.size) o
theorem below_set {B r j : Nat} {w X : World} {v : Value} (h : Below B w X) (hr : B ≤ r) : Below B w (X.setCell ⟨r, j, none⟩ v) := h.setCell (p := ⟨r, j, none⟩) hr v
end Go.Proofs.YthjkdnlbdhhmbaaGreatDoor
