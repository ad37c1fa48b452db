/-
  Closed facts of the program's tables.
-/
import Derived.Test.YtnodcfeimiimbaaDoorRows
import Derived.Test.YtnodcfeimiimbaaDoorBlk
namespace Go.Proofs.YtnodcfeimiimbaaDoor
open Go.RowKit
set_option linter.unusedVariables false
set_option linter.unusedSimpArgs false
theorem info64 : (Tryd.prog.info? 54).map (fun i => (i.zero, i.size, i.bytes)) = some (some (.int .u64 0), 1, 8) := by kernel_rfl
theorem size64 : (Tryd.prog.info? 54).map (·.size) = some 1 := by kernel_rfl
theorem info32 : (Tryd.prog.info? 65).map (fun i => (i.zero, i.size, i.bytes)) = some (some (.int .u32 0), 1, 4) := by kernel_rfl
theorem size32 : (Tryd.prog.info? 65).map (·.size) = some 1 := by kernel_rfl

/-- what was made, as a block of zeros -/
theorem made_blk {w w' : World} {B n : Nat} {k : IntKind} {t : TypeId} (h : w'.ownsRow B t 1 (.slice (some ⟨w.heap.size, 0, none⟩) n n) n (madeCells (Value.int k 0).cells (n * 1)).toList) : Blk w' w.heap.size k t (List.replicate n 0) := by
  rw [made_map] at h
  exact (blk_of_owns (by simp) h).1
theorem grown_below {w w' : World} (h : w.grownBy w' none) : Below w.heap.size w w' := (Below.refl _ w).grown h (Nat.le_refl _) (fun k e => by cases e)

theorem RowAt.src {w : World} {k : IntKind} {ao : Option Addr} {len cap : Nat} {zs : List Int} (h : RowAt w k ao len cap zs) (hp : 0 < len) : ∃ ad, ao = some ad ∧ ∀ j v, (zs.map (Value.int k))[j]? = some v → w.cell? (ad.add j) = some v := by
  obtain ⟨b, off, rfl, _, hc⟩ := h.get hp
  refine ⟨_, rfl, fun j v hj => ?_⟩
  simp only [List.getElem?_map, Option.map_eq_some_iff] at hj
  obtain ⟨z, hz, rfl⟩ := hj
  obtain ⟨hjl, hz⟩ := List.getElem?_eq_some_iff.1 hz
  have := hc j (by rw [h.hlen]; exact hjl)
  have e : Addr.add ⟨b, off, none⟩ j = ⟨b, off + j, none⟩ := by
    by_cases h0 : j = 0
    · subst h0; simp [Addr.add]
    · simp [Addr.add, h0]
  rw [e, this]; simp [dig, hjl, hz]
theorem splice_map (k : IntKind) (L : List Int) (off : Nat) (cs : List Int) : splice (L.map (Value.int k)) off (cs.map (Value.int k)) = (splice L off cs).map (Value.int k) := by simp [splice]
theorem blk_splice {w : World} {g off : Nat} {k : IntKind} {t : TypeId} {L cs : List Int} (h : w.heap[g]? = some (.cells (splice (L.map (Value.int k)) off (cs.map (Value.int k))).toArray t (0, 0))) : Blk w g k t (splice L off cs) := by
  unfold Blk; rw [h, splice_map]
end Go.Proofs.YtnodcfeimiimbaaDoor
