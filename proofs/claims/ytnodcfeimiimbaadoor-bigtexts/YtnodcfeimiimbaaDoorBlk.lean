/-
  A whole block of numbers that a call made itself, and may write; a slice that lies in such a block.
-/
import Derived.Test.YtnodcfeimiimbaaDoorCore
import Derived.Laws.CopyOwn
namespace Go.Proofs.YtnodcfeimiimbaaDoor
open Go.RowKit
set_option linter.unusedVariables false
set_option linter.unusedSimpArgs false

/-- block g holds the numbers L, of kind k, and may be written -/
def Blk (w : World) (g : Nat) (k : IntKind) (t : TypeId) (L : List Int) : Prop := w.heap[g]? = some (.cells (L.map (Value.int k)).toArray t (0, 0))

theorem Blk.lt {w : World} {g : Nat} {k : IntKind} {t : TypeId} {L : List Int} (h : Blk w g k t L) : g < w.heap.size := by
  by_cases hlt : g < w.heap.size
  · exact hlt
  · exfalso
    have : w.heap[g]? = none := by simp; omega
    unfold Blk at h; rw [this] at h; cases h
theorem Blk.cell {w : World} {g : Nat} {k : IntKind} {t : TypeId} {L : List Int} (h : Blk w g k t L) {j : Nat} (hj : j < L.length) : w.cell? ⟨g, j, none⟩ = some (.int k (dig L j)) := by
  unfold Blk at h
  simp [World.cell?, h, dig, hj]
theorem Blk.frozen {w : World} {g : Nat} {k : IntKind} {t : TypeId} {L : List Int} (h : Blk w g k t L) (j : Nat) : w.frozen? ⟨g, j, none⟩ = false := by
  unfold Blk at h
  simp [World.frozen?, h]
theorem Blk.later {w w' : World} {g : Nat} {k : IntKind} {t : TypeId} {L : List Int} (h : Blk w g k t L) {B : Nat} (hb : Below B w w') (hg : g < B) : Blk w' g k t L := by
  unfold Blk at h ⊢; rw [hb.block g hg]; exact h
theorem Blk.all {w w' : World} {g : Nat} {k : IntKind} {t : TypeId} {L : List Int} (h : Blk w g k t L) (hb : Below w.heap.size w w') : Blk w' g k t L := h.later hb h.lt
theorem Blk.drew {w : World} {g : Nat} {k : IntKind} {t : TypeId} {L : List Int} (h : Blk w g k t L) : Blk w.drew g k t L := h
theorem Blk.drewN {w : World} {g : Nat} {k : IntKind} {t : TypeId} {L : List Int} (h : Blk w g k t L) (n : Nat) : Blk (w.drewN n) g k t L := h
theorem Blk.alloc {w : World} {g : Nat} {k : IntKind} {t : TypeId} {L : List Int} (h : Blk w g k t L) (o : Obj) : Blk (w.alloc o) g k t L := by
  have := h.lt
  unfold Blk at h ⊢; rw [Below.heap_alloc _ _ _ this]; exact h
theorem Blk.set {w : World} {g : Nat} {k : IntKind} {t : TypeId} {L : List Int} (h : Blk w g k t L) (j : Nat) (z : Int) : Blk (w.setCell ⟨g, j, none⟩ (.int k z)) g k t (L.set j z) := by
  have hlt := h.lt
  unfold Blk at h ⊢
  simp only [World.setCell, Array.getElem?_modify, if_true]
  rw [h]
  simp
theorem Blk.other {w : World} {g : Nat} {k : IntKind} {t : TypeId} {L : List Int} (h : Blk w g k t L) {a : Addr} (ha : g ≠ a.block) (v : Value) : Blk (w.setCell a v) g k t L := by
  unfold Blk at h ⊢; rw [Below.heap_setCell _ _ _ _ ha]; exact h
theorem Blk.new (w : World) (k : IntKind) (t : TypeId) (L : List Int) : Blk (w.alloc (.cells (L.map (Value.int k)).toArray t (0, 0))) w.heap.size k t L := by
  unfold Blk; exact heap_alloc_new w _
theorem made_map (k : IntKind) (n : Nat) : (madeCells (Value.int k 0).cells (n * 1)).toList = (List.replicate n (0 : Int)).map (Value.int k) := by
  simp [madeCells, Value.cells]
  apply List.ext_getElem
  · simp
  · intro i h1 h2
    simp [Nat.mod_one]
theorem blk_of_owns {w : World} {base g n : Nat} {k : IntKind} {t : TypeId} {L : List Int} (hl : L.length = n) (h : w.ownsRow base t 1 (.slice (some ⟨g, 0, none⟩) n n) n (L.map (Value.int k))) : Blk w g k t L ∧ base ≤ g := by
  obtain ⟨_, h2⟩ := h
  rcases h2 with ⟨h2, _⟩ | ⟨g', cap, cur, hv, hg, hh, hc1, _, hs, ht⟩
  · cases h2
  · simp only [Value.slice.injEq, Option.some.injEq, Addr.mk.injEq] at hv
    obtain ⟨⟨rfl, _⟩, _, rfl⟩ := hv
    refine ⟨?_, hg⟩
    unfold Blk; rw [hh]
    congr 2
    rw [← ht, List.take_of_length_le (by simp; omega)]

/-- a slice in a block of the call's own, from block B on -/
def Own (B : Nat) (w : World) (k : IntKind) (t : TypeId) (ao : Option Addr) (len cap : Nat) (zs : List Int) : Prop :=
  (ao = none ∧ len = 0 ∧ cap = 0 ∧ zs = []) ∨ ∃ g off cur, ao = some ⟨g, off, none⟩ ∧ B ≤ g ∧ w.heap[g]? = some (.cells cur t (0, 0)) ∧ off + cap ≤ cur.size ∧ len ≤ cap ∧ zs.length = len ∧ ∀ j, j < len → cur[off + j]? = some (.int k (dig zs j))

theorem heap_lt {w : World} {g : Nat} {o : Obj} (h : w.heap[g]? = some o) : g < w.heap.size := by
  by_cases e : g < w.heap.size
  · exact e
  · rw [Array.getElem?_eq_none (by omega)] at h; cases h
theorem dig_drop_take {L : List Int} {off len t : Nat} (h : t < len) : dig ((L.drop off).take len) t = dig L (off + t) := by
  simp [dig, h]
theorem Own.row {B : Nat} {w : World} {k : IntKind} {t : TypeId} {ao : Option Addr} {len cap : Nat} {zs : List Int} (h : Own B w k t ao len cap zs) : RowAt w k ao len cap zs := by
  rcases h with ⟨rfl, rfl, rfl, rfl⟩ | ⟨g, off, cur, rfl, hB, hb, hc, hl, hz, hcell⟩
  · exact RowAt.nilRow w k
  · refine ⟨hz.symm, hl, fun e => (by cases e), Or.inr ⟨g, off, rfl, heap_lt hb, fun t ht => ?_⟩⟩
    simp [World.cell?, hb, hcell t ht]
theorem Own.mono {B B' : Nat} {w : World} {k : IntKind} {t : TypeId} {ao : Option Addr} {len cap : Nat} {zs : List Int} (h : Own B w k t ao len cap zs) (hB : B' ≤ B) : Own B' w k t ao len cap zs := by
  rcases h with h | ⟨g, off, L, h1, h2, h3⟩
  · exact Or.inl h
  · exact Or.inr ⟨g, off, L, h1, Nat.le_trans hB h2, h3⟩
theorem Own.later {B : Nat} {w w' : World} {k : IntKind} {t : TypeId} {ao : Option Addr} {len cap : Nat} {zs : List Int} (h : Own B w k t ao len cap zs) (hb : Below w.heap.size w w') : Own B w' k t ao len cap zs := by
  rcases h with h | ⟨g, off, L, h1, h2, h3, h4⟩
  · exact Or.inl h
  · exact Or.inr ⟨g, off, L, h1, h2, by rw [hb.block g (heap_lt h3)]; exact h3, h4⟩
theorem Own.take {B : Nat} {w : World} {k : IntKind} {t : TypeId} {ao : Option Addr} {len cap : Nat} {zs : List Int} (h : Own B w k t ao len cap zs) {n : Nat} (hn : n ≤ len) : Own B w k t ao n cap (zs.take n) := by
  rcases h with ⟨h1, h2, h3, h4⟩ | ⟨g, off, L, h1, h2, h3, h4, h5, h6, h7⟩
  · exact Or.inl ⟨h1, by omega, h3, by subst h4; simp⟩
  · exact Or.inr ⟨g, off, L, h1, h2, h3, h4, by omega, by simp; omega, fun j hj => by rw [dig_take hj]; exact h7 j (by omega)⟩
theorem Own.none_ {B : Nat} {w : World} {k : IntKind} {t : TypeId} : Own B w k t none 0 0 [] := Or.inl ⟨rfl, rfl, rfl, rfl⟩
theorem Own.whole {B : Nat} {w : World} {k : IntKind} {t : TypeId} {g n : Nat} {L : List Int} (h : Blk w g k t L) (hB : B ≤ g) (hn : n = L.length) : Own B w k t (some ⟨g, 0, none⟩) n n L :=
  Or.inr ⟨g, 0, _, rfl, hB, h, by simp; omega, Nat.le_refl _, hn.symm, fun j hj => by simp [dig, show j < L.length by omega]⟩
theorem Own.ofRow {B : Nat} {w : World} {k : IntKind} {t : TypeId} {ao : Option Addr} {n cap : Nat} {L : List Int} (hl : L.length = n) (h : w.ownsRow B t 1 (.slice ao n cap) n (L.map (Value.int k))) : Own B w k t ao n cap L := by
  rcases h.2 with ⟨hv, h0⟩ | ⟨g, cap', cur, hv, hg, hh, hc1, _, hs, ht⟩
  · cases hv
    exact Or.inl ⟨rfl, rfl, rfl, List.eq_nil_of_length_eq_zero hl⟩
  · simp only [Value.slice.injEq] at hv
    obtain ⟨rfl, _, rfl⟩ := hv
    refine Or.inr ⟨g, 0, cur, rfl, hg, hh, by omega, hc1, hl, fun j hj => ?_⟩
    have e1 : cur.toList[j]? = some (.int k (dig L j)) := by
      have : (cur.toList.take (n * 1))[j]? = (L.map (Value.int k))[j]? := by rw [ht]
      rw [List.getElem?_take, if_pos (by omega)] at this
      rw [this]; simp [dig, show j < L.length by omega]
    rw [Nat.zero_add]; simpa using e1

/-- a number's words, in memory of the call's own: what a call hands back -/
def NewNat (w w' : World) (e : Ending) (n : Nat) : Prop :=
  ∃ ao len cap, e = .returned (.slice ao len cap) ∧ Own w.heap.size w' .u64 54 ao len cap (mag n) ∧ Below w.heap.size w w'

def sgB (v : Int) : Bool := decide (v < 0)
def sgn (neg : Bool) (n : Nat) : Int := if neg then -(n : Int) else n
theorem natAbs_sgn (neg : Bool) (n : Nat) : (sgn neg n).natAbs = n := by unfold sgn; split <;> omega
theorem sgB_sgn (neg : Bool) (n : Nat) : sgB (sgn neg n) = (neg && decide (0 < (mag n).length)) := by
  have h : 0 < (mag n).length ↔ 0 < n := by
    rw [List.length_pos_iff]
    constructor
    · intro h; by_cases e : n = 0
      · subst e; exact absurd rfl h
      · omega
    · intro h e
      have := (limbs_eq_nil (q := 18446744073709551616) (by decide)).1 e
      omega
  cases neg
  · have : ¬ (n : Int) < 0 := by omega
    simp [sgB, sgn]
  · simp only [sgB, sgn, if_true, Bool.true_and]
    by_cases e : 0 < n
    · rw [decide_eq_true (h.2 e), decide_eq_true (by omega)]
    · rw [decide_eq_false (fun x => e (h.1 x)), decide_eq_false (by omega)]

/-- a number in memory: its sign, its words -/
structure IntAt (w : World) (neg : Bool) (ao : Option Addr) (len cap : Nat) (v : Int) : Prop where
  sg : neg = sgB v
  row : RowAt w .u64 ao len cap (mag v.natAbs)
theorem IntAt.later {w w' : World} {neg : Bool} {ao : Option Addr} {len cap : Nat} {v : Int} (h : IntAt w neg ao len cap v) (hb : Below w.heap.size w w') : IntAt w' neg ao len cap v := ⟨h.sg, h.row.later hb⟩
/-- a number, in memory of the call's own: what a call hands back -/
def NewInt (w w' : World) (e : Ending) (v : Int) : Prop :=
  ∃ neg ao len cap, e = .returned (.agg #[.bool neg, .slice ao len cap]) ∧ neg = sgB v ∧ Own w.heap.size w' .u64 54 ao len cap (mag v.natAbs) ∧ Below w.heap.size w w'
theorem sgn_of {neg : Bool} {v : Int} (h : neg = sgB v) : sgn neg v.natAbs = v := by
  subst h; unfold sgn sgB; split
  · rename_i h; have := of_decide_eq_true h; omega
  · rename_i h; have : ¬ v < 0 := fun e => h (decide_eq_true e)
    omega

end Go.Proofs.YtnodcfeimiimbaaDoor
