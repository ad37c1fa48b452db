/-
  KA, KB, KC, KD.
-/
import Derived.Test.YtnniipekcbjloaaDoorPU16
import Derived.Laws.BitsAllLaws
import Derived.Deep.RegionHeld3
/- Parts of blocks that a call may write, told by their numbers; what else stays. -/
namespace Go.Proofs.YtnniipekcbjloaaDoor
open Go.RowKit
set_option linter.unusedVariables false
set_option linter.unusedSimpArgs false
/-- of what lay there only the cells F may have turned -/
structure Chg (F : Nat → Nat → Prop) (w w' : World) : Prop where
  os : w'.os = w.os
  tape : w'.tape = w.tape
  output : w'.output = w.output
  size : w.heap.size ≤ w'.heap.size
  other : ∀ g, g < w.heap.size → (∀ j, ¬ F g j) → w'.heap[g]? = w.heap[g]?
  cell : ∀ b j, b < w.heap.size → ¬ F b j → w'.cell? ⟨b, j, none⟩ = w.cell? ⟨b, j, none⟩
  blk : ∀ g L, Blk w g .u64 25 L → Wd 18446744073709551616 L → ∃ L', Blk w' g .u64 25 L' ∧ L'.length = L.length ∧ Wd 18446744073709551616 L'
/-- the n cells of block g from off on -/
def Fr (g off n : Nat) : Nat → Nat → Prop := fun b j => b = g ∧ off ≤ j ∧ j < off + n
theorem Chg.refl (F : Nat → Nat → Prop) (w : World) : Chg F w w := ⟨rfl, rfl, rfl, Nat.le_refl _, fun _ _ _ => rfl, fun _ _ _ _ => rfl, fun _ L h k => ⟨L, h, rfl, k⟩⟩
theorem Chg.trans {F : Nat → Nat → Prop} {a b c : World} (h : Chg F a b) (k : Chg F b c) : Chg F a c := by
  refine ⟨k.os.trans h.os, k.tape.trans h.tape, k.output.trans h.output, Nat.le_trans h.size k.size, fun g hg hF => ?_, fun x j hx hF => ?_, fun g L hb hw => ?_⟩
  · have := h.size
    exact (k.other g (by omega) hF).trans (h.other g hg hF)
  · have := h.size
    exact (k.cell x j (by omega) hF).trans (h.cell x j hx hF)
  · obtain ⟨L1, b1, l1, w1⟩ := h.blk g L hb hw
    obtain ⟨L2, b2, l2, w2⟩ := k.blk g L1 b1 w1
    exact ⟨L2, b2, l2.trans l1, w2⟩
theorem Chg.mono {F G : Nat → Nat → Prop} {a b : World} (h : Chg F a b) (hF : ∀ x j, F x j → G x j) : Chg G a b :=
  ⟨h.os, h.tape, h.output, h.size, fun g hg hG => h.other g hg fun j hj => hG j (hF g j hj), fun x j hx hG => h.cell x j hx fun hj => hG (hF x j hj), h.blk⟩
theorem Chg.drew {F : Nat → Nat → Prop} {a b : World} (h : Chg F a b) : Chg F a b.drew := ⟨h.os, h.tape, h.output, h.size, h.other, h.cell, h.blk⟩
theorem Chg.drewN {F : Nat → Nat → Prop} {a b : World} (h : Chg F a b) (n : Nat) : Chg F a (b.drewN n) := ⟨h.os, h.tape, h.output, h.size, h.other, h.cell, h.blk⟩
theorem Chg.below {F : Nat → Nat → Prop} {a b : World} (h : Below a.heap.size a b) : Chg F a b :=
  ⟨h.os, h.tape, h.output, h.size, fun g hg _ => h.block g hg, fun x j hx _ => h.cell (p := ⟨x, j, none⟩) hx, fun g L hb hw => ⟨L, hb.all h, rfl, hw⟩⟩
theorem Blk.inj {w : World} {g : Nat} {k : IntKind} {t : TypeId} {L M : List Int} (h : Blk w g k t L) (h' : Blk w g k t M) : L = M := by
  unfold Blk at h h'
  rw [h] at h'
  simp only [Option.some.injEq, Obj.cells.injEq] at h'
  have := congrArg Array.toList h'.1
  simp only at this
  exact List.map_inj_right (by intro x y e; simpa using e) |>.1 this
theorem Blk.none {w : World} {g : Nat} {k : IntKind} {t : TypeId} {L : List Int} (h : Blk w g k t L) {j : Nat} (hj : L.length ≤ j) : w.cell? ⟨g, j, none⟩ = none := by
  unfold Blk at h
  simp [World.cell?, h, List.getElem?_eq_none hj]
/-- a row of words that makes the number v -/
def RowV (w : World) (ao : Option Addr) (len cap : Nat) (v : Int) : Prop := ∃ zs, RowAt w .u64 ao len cap zs ∧ Wd 18446744073709551616 zs ∧ val 18446744073709551616 zs = v
/-- n cells of a block, from off on, that may be written -/
def Room (w : World) (g off n : Nat) : Prop := ∃ L, Blk w g .u64 25 L ∧ Wd 18446744073709551616 L ∧ off + n ≤ L.length
theorem RowV.lt {w : World} {ao : Option Addr} {len cap : Nat} {v : Int} (h : RowV w ao len cap v) : v < 18446744073709551616 ^ len := by
  obtain ⟨zs, h1, h2, rfl⟩ := h; rw [h1.hlen]; exact val_lt (by decide) h2
theorem RowV.cells {w : World} {b o len cap : Nat} {zs : List Int} (h : RowAt w .u64 (some ⟨b, o, none⟩) len cap zs) (hp : 0 < len) : b < w.heap.size ∧ ∀ t, t < len → w.cell? ⟨b, o + t, none⟩ = some (.int .u64 (dig zs t)) := by
  obtain ⟨b', o', e, h1, h2⟩ := h.get hp
  cases e
  exact ⟨h1, h2⟩
theorem RowV.later {F : Nat → Nat → Prop} {w w' : World} {b o len cap : Nat} {v : Int} (h : RowV w (some ⟨b, o, none⟩) len cap v) (hc : Chg F w w') (hF : ∀ t, t < len → ¬ F b (o + t)) : RowV w' (some ⟨b, o, none⟩) len cap v := by
  obtain ⟨zs, h1, h2⟩ := h
  refine ⟨zs, ⟨h1.hlen, h1.hcap, h1.hnil, ?_⟩, h2⟩
  by_cases hp : 0 < len
  · obtain ⟨k1, k2⟩ := RowV.cells h1 hp
    refine Or.inr ⟨b, o, rfl, Nat.lt_of_lt_of_le k1 hc.size, fun t ht => ?_⟩
    rw [hc.cell b (o + t) k1 (hF t ht)]; exact k2 t ht
  · exact Or.inl (by omega)
theorem Room.later {F : Nat → Nat → Prop} {w w' : World} {g off n : Nat} (h : Room w g off n) (hc : Chg F w w') : Room w' g off n := by
  obtain ⟨L, h1, h2, h3⟩ := h
  obtain ⟨L', k1, k2, k3⟩ := hc.blk g L h1 h2
  exact ⟨L', k1, k3, by omega⟩
theorem Room.part {w : World} {g off n off' n' : Nat} (h : Room w g off n) (h1 : off' + n' ≤ off + n) : Room w g off' n' := by
  obtain ⟨L, a, b, c⟩ := h; exact ⟨L, a, b, by omega⟩
theorem Room.lt {w : World} {g off n : Nat} (h : Room w g off n) : g < w.heap.size := by
  obtain ⟨L, a, _⟩ := h; exact a.lt
theorem Room.row {w : World} {g off n cap : Nat} (h : Room w g off n) (hc : n ≤ cap) : ∃ v, RowV w (some ⟨g, off, none⟩) n cap v := by
  obtain ⟨L, hb, hW, hl⟩ := h
  refine ⟨_, (L.drop off).take n, ⟨by simp; omega, hc, fun e => (by cases e), ?_⟩, (hW.drop off).take n, rfl⟩
  refine Or.inr ⟨g, off, rfl, hb.lt, fun t ht => ?_⟩
  rw [hb.cell (by omega), dig_drop_take ht]
theorem RowV.split {w : World} {b o len cap : Nat} {v : Int} (h : RowV w (some ⟨b, o, none⟩) len cap v) {k : Nat} (hk : k ≤ len) :
    ∃ v0 v1, RowV w (some ⟨b, o, none⟩) k cap v0 ∧ RowV w (some ⟨b, o + k, none⟩) (len - k) (cap - k) v1 ∧ v = v0 + 18446744073709551616 ^ k * v1 := by
  obtain ⟨zs, h1, h2, rfl⟩ := h
  have hl := h1.hlen
  have hcap := h1.hcap
  refine ⟨_, _, ⟨zs.take k, h1.take hk, h2.take k, rfl⟩, ⟨zs.drop k, ⟨by simp; omega, by omega, fun e => (by cases e), ?_⟩, h2.drop k, rfl⟩, val_take_drop _ _ _ (by omega)⟩
  by_cases hp : 0 < len - k
  · obtain ⟨k1, k2⟩ := RowV.cells h1 (by omega)
    refine Or.inr ⟨b, o + k, rfl, k1, fun t ht => ?_⟩
    rw [dig_drop, Nat.add_assoc]; exact k2 _ (by omega)
  · exact Or.inl (by omega)
theorem RowV.join {w : World} {b o k m cap cap' c : Nat} {v0 v1 : Int} (h : RowV w (some ⟨b, o, none⟩) k cap v0) (h' : RowV w (some ⟨b, o + k, none⟩) m cap' v1) (hc : k + m ≤ c) : RowV w (some ⟨b, o, none⟩) (k + m) c (v0 + 18446744073709551616 ^ k * v1) := by
  obtain ⟨zs, h1, h2, rfl⟩ := h
  obtain ⟨ys, h3, h4, rfl⟩ := h'
  have e1 := h1.hlen
  have e2 := h3.hlen
  refine ⟨zs ++ ys, ⟨by simp; omega, hc, fun e => (by cases e), ?_⟩, h2.append h4, by rw [val_append, ← e1]⟩
  by_cases hp : 0 < k + m
  · refine Or.inr ⟨b, o, rfl, ?_, fun t ht => ?_⟩
    · by_cases h0 : 0 < k
      · exact (RowV.cells h1 h0).1
      · exact (RowV.cells h3 (by omega)).1
    · by_cases h0 : t < k
      · rw [(RowV.cells h1 (by omega)).2 t h0]
        simp [dig, List.getElem?_append, show t < zs.length by omega]
      · have := (RowV.cells h3 (by omega)).2 (t - k) (by omega)
        rw [show o + k + (t - k) = o + t by omega] at this
        rw [this]
        simp [dig, List.getElem?_append, show ¬ t < zs.length by omega, e1]
  · exact Or.inl (by omega)
end Go.Proofs.YtnniipekcbjloaaDoor
/- Walks: distance, halvesRoom. -/
namespace Go.Proofs.YtnniipekcbjloaaDoor
open Go.RowKit
set_option linter.unusedVariables false
set_option linter.unusedSimpArgs false
/-- the first k digits of L from off on were turned into their complement; c is carried -/
structure NegSt (q : Int) (L : List Int) (off k : Nat) (c : Int) (Lk : List Int) : Prop where
  len : Lk.length = L.length
  out : ∀ j, j < off ∨ off + k ≤ j → dig Lk j = dig L j
  wd : Wd q Lk
  c0 : 0 ≤ c
  c1 : c ≤ 1
  eq : V q Lk off k + c * q ^ k = q ^ k - V q L off k
theorem NegSt.start {q : Int} {L : List Int} (off : Nat) (h : Wd q L) : NegSt q L off 0 1 L :=
  ⟨rfl, fun _ _ => rfl, h, by decide, by decide, by simp [V_zero]⟩
theorem NegSt.step {q : Int} {L : List Int} {off k : Nat} {c : Int} {Lk : List Int} (h : NegSt q L off k c Lk) (hk : off + k < L.length) {d c' : Int} (hd : 0 ≤ d ∧ d < q) (hc : 0 ≤ c' ∧ c' ≤ 1)
    (he : d + c' * q = q - 1 - dig L (off + k) + c) : NegSt q L off (k + 1) c' (Lk.set (off + k) d) := by
  have hl : off + k < Lk.length := by rw [h.len]; exact hk
  refine ⟨by simp [h.len], fun j hj => ?_, h.wd.set _ hd, hc.1, hc.2, ?_⟩
  · rw [dig_set _ hl, if_neg (by omega)]; exact h.out j (by omega)
  · have e1 : V q (Lk.set (off + k) d) off k = V q Lk off k := V_congr fun j hj => by rw [dig_set _ hl, if_neg (by omega)]
    rw [V_succ, V_succ, e1, dig_set _ hl, if_pos rfl, Int.pow_succ]
    have h1 := h.eq
    have e2 : q ^ k * (d + c' * q) = q ^ k * (q - 1 - dig L (off + k) + c) := by rw [he]
    grind
end Go.Proofs.YtnniipekcbjloaaDoor
/- Walks: halvesRoom; the mathematics of products by halves. -/
namespace Go.Proofs.YtnniipekcbjloaaDoor
open Go.RowKit
set_option linter.unusedVariables false
set_option linter.unusedSimpArgs false
end Go.Proofs.YtnniipekcbjloaaDoor
/- The walk of timesHalves. -/
namespace Go.Proofs.YtnniipekcbjloaaDoor
open Go.RowKit
set_option linter.unusedVariables false
set_option linter.unusedSimpArgs false
theorem RowV.cap {w : World} {ao : Option Addr} {len cap : Nat} {v : Int} (h : RowV w ao len cap v) : len ≤ cap := by
  obtain ⟨zs, h1, _⟩ := h; exact h1.hcap
theorem Chg.pre {F : Nat → Nat → Prop} {a b : World} (h : Chg F a.drew b) : Chg F a b := ⟨h.os, h.tape, h.output, h.size, h.other, h.cell, h.blk⟩
theorem RowV.drew {w : World} {ao : Option Addr} {len cap : Nat} {v : Int} (h : RowV w ao len cap v) : RowV w.drew ao len cap v := by
  obtain ⟨zs, h1, h2⟩ := h; exact ⟨zs, ⟨h1.hlen, h1.hcap, h1.hnil, h1.hat⟩, h2⟩
end Go.Proofs.YtnniipekcbjloaaDoor
/-
  KE, KF.
-/
/- The walk of timesPieces. -/
namespace Go.Proofs.YtnniipekcbjloaaDoor
open Go.RowKit
set_option linter.unusedVariables false
set_option linter.unusedSimpArgs false
theorem Chg.new {F G : Nat → Nat → Prop} {a b c : World} (h : Chg F a b) (k : Chg G b c) (hG : ∀ x j, G x j → F x j ∨ a.heap.size ≤ x) : Chg F a c := by
  have hs := h.size
  refine ⟨k.os.trans h.os, k.tape.trans h.tape, k.output.trans h.output, Nat.le_trans h.size k.size, fun g hg hF => ?_, fun x j hx hF => ?_, fun g L hb hw => ?_⟩
  · exact (k.other g (by omega) fun j hj => (hG g j hj).elim (fun h1 => hF j h1) (fun h1 => by omega)).trans (h.other g hg hF)
  · exact (k.cell x j (by omega) fun hj => (hG x j hj).elim (fun h1 => hF h1) (fun h1 => by omega)).trans (h.cell x j hx hF)
  · obtain ⟨L1, b1, l1, w1⟩ := h.blk g L hb hw
    obtain ⟨L2, b2, l2, w2⟩ := k.blk g L1 b1 w1
    exact ⟨L2, b2, l2.trans l1, w2⟩
end Go.Proofs.YtnniipekcbjloaaDoor
/- The walk of times, of any length. -/
namespace Go.Proofs.YtnniipekcbjloaaDoor
open Go.RowKit
set_option linter.unusedVariables false
set_option linter.unusedSimpArgs false
theorem RowV.grown {w w' : World} {b o len cap : Nat} {v : Int} (h : RowV w (some ⟨b, o, none⟩) len cap v) (hb : Below w.heap.size w w') : RowV w' (some ⟨b, o, none⟩) len cap v :=
  h.later (F := Fr 0 0 0) (Chg.below hb) fun t ht hF => by have := hF.2; omega
end Go.Proofs.YtnniipekcbjloaaDoor
/-
  ER, ES.
-/
/- EP, EQ, ER. -/
namespace Go.Proofs.YtnniipekcbjloaaDoor
open Go.RowKit Go.Shelf
set_option linter.unusedVariables false
set_option linter.unusedSimpArgs false
end Go.Proofs.YtnniipekcbjloaaDoor
/- Walks: lowBitsSet. -/
namespace Go.Proofs.YtnniipekcbjloaaDoor
open Go.RowKit Go.Shelf
set_option linter.unusedVariables false
set_option linter.unusedSimpArgs false
end Go.Proofs.YtnniipekcbjloaaDoor
/- Walks: lowBitsSet. -/
namespace Go.Proofs.YtnniipekcbjloaaDoor
open Go.RowKit Go.Shelf
set_option linter.unusedVariables false
set_option linter.unusedSimpArgs false
end Go.Proofs.YtnniipekcbjloaaDoor
/- Walks: Divide. -/
namespace Go.Proofs.YtnniipekcbjloaaDoor
open Go.RowKit Go.Shelf
set_option linter.unusedVariables false
set_option linter.unusedSimpArgs false
/-- quotient, rounded down, and rest -/
def FloorOf (v u q r : Int) : Prop := v = u * q + r ∧ (0 < u ∧ 0 ≤ r ∧ r < u ∨ u < 0 ∧ u < r ∧ r ≤ 0)
theorem FloorOf.pos {v u q r : Int} (h : FloorOf v u q r) (hu : 0 < u) : q = v / u ∧ r = v % u := by
  obtain ⟨h1, h2 | h2⟩ := h
  · have h3 : q = v / u := by
      rw [h1, Int.mul_add_ediv_left _ _ (by omega), Int.ediv_eq_zero_of_lt h2.2.1 h2.2.2, Int.add_zero]
    refine ⟨h3, ?_⟩
    have := Int.mul_ediv_add_emod v u
    rw [← h3] at this; omega
  · omega
theorem floor_math {na nb : Bool} {v u : Int} (hv : na = sgB v) (hu : nb = sgB u) (h0 : u ≠ 0) :
    ((na != nb) = false ∨ v.natAbs % u.natAbs = 0 → FloorOf v u (sgn (na != nb) (v.natAbs / u.natAbs)) (sgn nb (v.natAbs % u.natAbs))) ∧
    ((na != nb) = true → v.natAbs % u.natAbs ≠ 0 → FloorOf v u (sgn (na != nb) (v.natAbs / u.natAbs + 1)) (sgn nb (u.natAbs - v.natAbs % u.natAbs))) := by
  have h1 := sgn_of hv
  have h2 := sgn_of hu
  obtain ⟨a, ha⟩ : ∃ a, v.natAbs = a := ⟨_, rfl⟩
  obtain ⟨b, hb⟩ : ∃ b, u.natAbs = b := ⟨_, rfl⟩
  have hb0 : 0 < b := by omega
  rw [ha] at h1 ⊢; rw [hb] at h2 ⊢
  have hd := Nat.div_add_mod a b
  have hm := Nat.mod_lt a hb0
  generalize a / b = q at *
  generalize a % b = r at *
  have hd' : (a : Int) = (b : Int) * (q : Int) + (r : Int) := by rw [← hd, Int.natCast_add, Int.natCast_mul]
  unfold FloorOf
  unfold sgn at h1 h2 ⊢
  cases na <;> cases nb <;> simp at h1 h2 ⊢ <;> subst h1 <;> subst h2
  · exact ⟨hd', Or.inl (by omega)⟩
  · refine ⟨fun hr => ?_, fun hr => ?_⟩
    · subst hr; refine ⟨by rw [hd']; grind, Or.inr (by omega)⟩
    · refine ⟨?_, Or.inr (by omega)⟩
      rw [hd', show ((b - r : Nat) : Int) = (b : Int) - (r : Int) by omega]; grind
  · refine ⟨fun hr => ?_, fun hr => ?_⟩
    · subst hr; refine ⟨by rw [hd']; grind, Or.inl (by omega)⟩
    · refine ⟨?_, Or.inl (by omega)⟩
      rw [hd', show ((b - r : Nat) : Int) = (b : Int) - (r : Int) by omega]; grind
  · exact ⟨by rw [hd']; grind, Or.inr (by omega)⟩
/-- two numbers and no error -/
def TwoIntErr (w w' : World) (e : Ending) (x y : Int) : Prop :=
  ∃ n1 ao1 l1 c1 n2 ao2 l2 c2, e = .returned (.tuple #[.agg #[.bool n1, .slice ao1 l1 c1], .agg #[.bool n2, .slice ao2 l2 c2], .int .i64 0]) ∧ n1 = sgB x ∧ Own w.heap.size w' .u64 25 ao1 l1 c1 (mag x.natAbs) ∧ n2 = sgB y ∧ Own w.heap.size w' .u64 25 ao2 l2 c2 (mag y.natAbs) ∧ Below w.heap.size w w'
/-- likewise, in blocks of their own -/
def TwoIntErrP (w w' : World) (e : Ending) (x y : Int) : Prop :=
  ∃ n1 ao1 l1 c1 n2 ao2 l2 c2, e = .returned (.tuple #[.agg #[.bool n1, .slice ao1 l1 c1], .agg #[.bool n2, .slice ao2 l2 c2], .int .i64 0]) ∧ n1 = sgB x ∧ Own w.heap.size w' .u64 25 ao1 l1 c1 (mag x.natAbs) ∧ n2 = sgB y ∧ Own w.heap.size w' .u64 25 ao2 l2 c2 (mag y.natAbs) ∧ Below w.heap.size w w' ∧ Parted ao1 ao2
theorem TwoIntErrP.less {w w' : World} {e : Ending} {x y : Int} (h : TwoIntErrP w w' e x y) : TwoIntErr w w' e x y := by
  obtain ⟨n1, ao1, l1, c1, n2, ao2, l2, c2, h1, h2, h3, h4, h5, h6, _⟩ := h
  exact ⟨n1, ao1, l1, c1, n2, ao2, l2, c2, h1, h2, h3, h4, h5, h6⟩
/-- two numbers handed in, two results to come -/
structure Two4 (w W : World) (na nb : Bool) (ao bo : Option Addr) (la ca lb cb : Nat) : Prop where
  eq : W = (((w.alloc (.cells #[.bool na, .slice ao la ca] 65)).alloc (.cells #[.bool nb, .slice bo lb cb] 65)).alloc (.cells #[.bool false, .slice none 0 0] 65)).alloc (.cells #[.bool false, .slice none 0 0] 65)
  below : Below w.heap.size w W
  size : W.heap.size = w.heap.size + 4
  a : Boxed W w.heap.size na ao la ca
  b : Boxed W (w.heap.size + 1) nb bo lb cb
  r : Fresh W (w.heap.size + 1 + 1)
  r2 : Fresh W (w.heap.size + 1 + 1 + 1)
theorem Two4.mk' (w : World) (na nb : Bool) (ao bo : Option Addr) (la ca lb cb : Nat) : ∃ W, Two4 w W na nb ao bo la ca lb cb := by
  obtain ⟨X, hX⟩ := Two3.mk' w na nb ao bo la ca lb cb
  have hs := hX.size
  have h1 : Below X.heap.size X (X.alloc (.cells #[.bool false, .slice none 0 0] 65)) := (Below.refl _ _).alloc (Nat.le_refl _) _
  have h2 := Fresh.new X
  rw [hs] at h2
  exact ⟨X.alloc (.cells #[.bool false, .slice none 0 0] 65), by rw [hX.eq], bnext hX.below h1, by simp [hs], hX.a.later h1 (by omega), hX.b.later h1 (by omega), hX.r.later h1 (by omega), h2⟩
theorem TwoIntErrP.of {w w' : World} {m1 m2 : Bool} {a1 a2 : Option Addr} {l1 c1 l2 c2 : Nat} {q r : Int} (h : NewInt w w' (.returned (.agg #[.bool m1, .slice a1 l1 c1])) q) (k : NewInt w w' (.returned (.agg #[.bool m2, .slice a2 l2 c2])) r) (hp : Parted a1 a2) : TwoIntErrP w w' (.returned (.tuple #[.agg #[.bool m1, .slice a1 l1 c1], .agg #[.bool m2, .slice a2 l2 c2], .int .i64 0])) q r := by
  obtain ⟨n1, a1, l1, c1, he1, hs1, ho1, hb1⟩ := h
  obtain ⟨n2, a2, l2, c2, he2, hs2, ho2, hb2⟩ := k
  cases he1; cases he2
  exact ⟨_, _, _, _, _, _, _, _, rfl, hs1, ho1, hs2, ho2, hb1, hp⟩
end Go.Proofs.YtnniipekcbjloaaDoor
/-
  LB0, LD0.
-/
/- Numbers that lie in variables; lengths of powers. -/
namespace Go.Proofs.YtnniipekcbjloaaDoor
open Go.RowKit
set_option linter.unusedVariables false
set_option linter.unusedSimpArgs false
/-- a number in a variable of its own -/
structure InVar (W : World) (r : Nat) (neg : Bool) (ao : Option Addr) (l c : Nat) (v : Int) : Prop where
  box : Boxed W r neg ao l c
  int : IntAt W neg ao l c v
  lt : r < W.heap.size
theorem InVar.later {W w' : World} {r : Nat} {neg : Bool} {ao : Option Addr} {l c : Nat} {v : Int} (h : InVar W r neg ao l c v) (hb : Below W.heap.size W w') : InVar w' r neg ao l c v :=
  ⟨h.box.later hb h.lt, h.int.later hb, Nat.lt_of_lt_of_le h.lt hb.size⟩
theorem InVar.new {W X y : World} {neg : Bool} {ao : Option Addr} {l c : Nat} {v : Int} (hX : Below W.heap.size W X) (hs : neg = sgB v) (ho : Own X.heap.size y .u64 25 ao l c (mag v.natAbs)) (hb : Below X.heap.size X y) :
    Hid (InVar (y.alloc (.cells #[.bool neg, .slice ao l c] 65)) y.heap.size neg ao l c v ∧ Below W.heap.size W (y.alloc (.cells #[.bool neg, .slice ao l c] 65)) ∧ Below X.heap.size X (y.alloc (.cells #[.bool neg, .slice ao l c] 65))) := by
  have h1 : Below y.heap.size y (y.alloc (.cells #[.bool neg, .slice ao l c] 65)) := (Below.refl _ _).alloc (Nat.le_refl _) _
  have h2 : Below X.heap.size X (y.alloc (.cells #[.bool neg, .slice ao l c] 65)) := hb.trans (below_less h1 hb.size)
  exact ⟨⟨⟨by simp [go_sem], by simp [go_sem]⟩, (ho.int hs).later h1, by simp⟩, bnext hX h2, h2⟩
end Go.Proofs.YtnniipekcbjloaaDoor
/- KG, KH, LD0. -/
namespace Go.Proofs.YtnniipekcbjloaaDoor
open Go.RowKit
set_option linter.unusedVariables false
set_option linter.unusedSimpArgs false
set_option maxRecDepth 100000 in
set_option maxHeartbeats 1000000 in
theorem copyWords_any (ao : Option Addr) (len cap : Nat) (zs : List Int) (w : World) (hr : RowAt w .u64 ao len cap zs) (hl : len ≤ 4294967296) :
    Calls Tryd.prog 35 #[.slice ao len cap] w fun e w' => ∃ v, e = .returned v ∧ w'.ownsRow w.heap.size 25 1 v len (zs.map (Value.int .u64)) ∧ Below w.heap.size w w' := by
  obtain ⟨i0, hi, hz0, hz1, hz2⟩ := info_parts info64
  have HL : Hid (len = zs.length) := hr.hlen
  go_enter Tryd.func35, Tryd.ntmps35
  go_wp2
  go_loopw [3, 4] (fun v i wr => ∃ k : Nat, k ≤ len ∧ i = .int .i64 (k : Nat) ∧ wr.ownsRow w.heap.size 25 1 v k ((zs.take k).map (Value.int .u64)) ∧ Below w.heap.size w wr) (fun _ i _ => len - (intOf i).toNat)
  case atStart => exact ⟨0, Nat.zero_le _, rfl, World.ownsRow_nil _ _ _ _, Below.refl _ _⟩
  case round =>
    obtain ⟨k, hk, rfl, hown, hbel⟩ := hrel
    by_cases hlt : k < len
    · obtain ⟨b, off, rfl, hb, hc⟩ := hr.get (by omega)
      have hcell : wr.cell? ⟨b, off + k, none⟩ = some (.int .u64 (dig zs k)) := (hbel.cell (p := ⟨b, off + k, none⟩) hb).trans (hc k hlt)
      obtain ⟨x, hx⟩ : ∃ x, dig zs k = x := ⟨_, rfl⟩
      rw [hx] at hcell
      have hbs : b < wr.heap.size := by have := hbel.size; omega
      have h63 : Hid (k + 1 ≤ maxLen) := by show _ ≤ _; unfold maxLen; omega
      have hby : Hid ((k + 1) * 8 ≤ 140737488355328) := by show _ ≤ _; omega
      have hbz : Hid (w.heap.size ≤ wr.heap.size + 1) := by show _ ≤ _; have := hbel.size; omega
      have HX : Hid ((zs.take (k + 1)).map (Value.int .u64) = (zs.take k).map (Value.int .u64) ++ [.int .u64 x]) := by
        show _ = _
        have a1 : zs.getD k 0 = x := hx
        rw [take_getD (by have := HL.out; omega), List.map_append, a1]; rfl
      clear hc hx
      go_wp2_with (at_builtin; refine wpList_append_lies _ rfl _ _ 23 rfl w.heap.size 25 i0 (.int .u64 0) 1 8 Tryd.underlying23 hi hz0 hz1 hz2 rfl (by decide) _ k _ rfl (hown.alloc _) ⟨wr.heap.size, 0, none⟩ 1 1 [.int .u64 x] rfl rfl (World.news_of_block (cs := #[.int .u64 x]) (t := 25) (fr := (0, 0)) (heap_alloc_new wr _)) (by simp [Value.oneCell']) (by decide) h63.out hby.out (by simpa using hbz.out) (wr.heap.size + 1) (by simp) ?_; intro g cp w1 hown1 hgrow hat hltg)
      have hB1 : Below w.heap.size w w1 := (hbel.alloc hbel.size _).grown hgrow (by simpa using hbz.out) (own_from hown)
      go_roundw
      case rel => exact ⟨k + 1, by omega, by go_num, by rw [HX.out]; exact hown1, hB1⟩
      case measure => simp [intOf]; omega
    · obtain rfl : k = len := by omega
      have hkl : Hid (zs.take k = zs) := List.take_of_length_le (by have := HL.out; omega)
      rw [hkl.out] at hown
      go_wp2
      go_ret
      exact ⟨_, rfl, hown, hbel⟩
end Go.Proofs.YtnniipekcbjloaaDoor
/- Walks: Mul of any length; the laws' mul. -/
namespace Go.Proofs.YtnniipekcbjloaaDoor
open Go.RowKit Go.Shelf
set_option linter.unusedVariables false
set_option linter.unusedSimpArgs false
end Go.Proofs.YtnniipekcbjloaaDoor
/- Lengths of sums, products, quotients; quotients of products. -/
namespace Go.Proofs.YtnniipekcbjloaaDoor
open Go.RowKit
set_option linter.unusedVariables false
set_option linter.unusedSimpArgs false
theorem add_len (a b : Int) : (mag (a + b).natAbs).length ≤ (mag a.natAbs).length + (mag b.natAbs).length + 1 :=
  Nat.le_trans (mag_len_mono (Int.natAbs_add_le a b)) (mag_len_add _ _)
theorem mul_len (a b : Int) : (mag (a * b).natAbs).length ≤ (mag a.natAbs).length + (mag b.natAbs).length := by rw [Int.natAbs_mul]; exact mag_len_mul _ _
/-- a number of at most B limbs -/
def Num (w : World) (neg : Bool) (ao : Option Addr) (l c : Nat) (v : Int) (B : Nat) : Prop := IntAt w neg ao l c v ∧ l ≤ B
theorem Num.later {w w' : World} {neg : Bool} {ao : Option Addr} {l c B : Nat} {v : Int} (h : Num w neg ao l c v B) (hb : Below w.heap.size w w') : Num w' neg ao l c v B := ⟨h.1.later hb, h.2⟩
theorem Fresh.next {W w2 : World} {r : Nat} (k : Fresh W r) (h : Below W.heap.size W w2) : Fresh w2 r := k.later h (cell_lt k.2.1)
theorem below_alloc {B : Nat} {w X : World} {o : Obj} (h : Below B w X) (hB : B ≤ w.heap.size) : Below B w (X.alloc o) := h.alloc (Nat.le_trans hB h.size) o
end Go.Proofs.YtnniipekcbjloaaDoor
