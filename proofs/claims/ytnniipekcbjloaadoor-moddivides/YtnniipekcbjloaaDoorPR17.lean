/-
  KA, KB, KC, KD.
-/
import Derived.Test.YtnniipekcbjloaaDoorPR14
import Derived.Test.YtnniipekcbjloaaDoorPR16
import Derived.Laws.BitsAllLaws
import Derived.Deep.RegionHeld3
import Derived.Lib.RabinKarpLaws
import Derived.ArgAppend
/- Parts of blocks that a call may write, told by their numbers; what else stays. -/
namespace Go.Proofs.YtnniipekcbjloaaDoor
open Go.RowKit
set_option linter.unusedVariables false
set_option linter.unusedSimpArgs false
/-- of what lay there only the cells F may have turned -/
structure Chg (F : Nat → Nat → Prop) (w w' : World) : Prop where
  os : w'.os = w.os
  tape : w'.tape = w.tape
  output : w'.output = w.output
  size : w.heap.size ≤ w'.heap.size
  other : ∀ g, g < w.heap.size → (∀ j, ¬ F g j) → w'.heap[g]? = w.heap[g]?
  cell : ∀ b j, b < w.heap.size → ¬ F b j → w'.cell? ⟨b, j, none⟩ = w.cell? ⟨b, j, none⟩
  blk : ∀ g L, Blk w g .u64 25 L → Wd 18446744073709551616 L → ∃ L', Blk w' g .u64 25 L' ∧ L'.length = L.length ∧ Wd 18446744073709551616 L'
/-- the n cells of block g from off on -/
def Fr (g off n : Nat) : Nat → Nat → Prop := fun b j => b = g ∧ off ≤ j ∧ j < off + n
theorem Chg.refl (F : Nat → Nat → Prop) (w : World) : Chg F w w := ⟨rfl, rfl, rfl, Nat.le_refl _, fun _ _ _ => rfl, fun _ _ _ _ => rfl, fun _ L h k => ⟨L, h, rfl, k⟩⟩
theorem Chg.trans {F : Nat → Nat → Prop} {a b c : World} (h : Chg F a b) (k : Chg F b c) : Chg F a c := by
  refine ⟨k.os.trans h.os, k.tape.trans h.tape, k.output.trans h.output, Nat.le_trans h.size k.size, fun g hg hF => ?_, fun x j hx hF => ?_, fun g L hb hw => ?_⟩
  · have := h.size
    exact (k.other g (by omega) hF).trans (h.other g hg hF)
  · have := h.size
    exact (k.cell x j (by omega) hF).trans (h.cell x j hx hF)
  · obtain ⟨L1, b1, l1, w1⟩ := h.blk g L hb hw
    obtain ⟨L2, b2, l2, w2⟩ := k.blk g L1 b1 w1
    exact ⟨L2, b2, l2.trans l1, w2⟩
theorem Chg.mono {F G : Nat → Nat → Prop} {a b : World} (h : Chg F a b) (hF : ∀ x j, F x j → G x j) : Chg G a b :=
  ⟨h.os, h.tape, h.output, h.size, fun g hg hG => h.other g hg fun j hj => hG j (hF g j hj), fun x j hx hG => h.cell x j hx fun hj => hG (hF x j hj), h.blk⟩
theorem Chg.drew {F : Nat → Nat → Prop} {a b : World} (h : Chg F a b) : Chg F a b.drew := ⟨h.os, h.tape, h.output, h.size, h.other, h.cell, h.blk⟩
theorem Chg.drewN {F : Nat → Nat → Prop} {a b : World} (h : Chg F a b) (n : Nat) : Chg F a (b.drewN n) := ⟨h.os, h.tape, h.output, h.size, h.other, h.cell, h.blk⟩
theorem Chg.below {F : Nat → Nat → Prop} {a b : World} (h : Below a.heap.size a b) : Chg F a b :=
  ⟨h.os, h.tape, h.output, h.size, fun g hg _ => h.block g hg, fun x j hx _ => h.cell (p := ⟨x, j, none⟩) hx, fun g L hb hw => ⟨L, hb.all h, rfl, hw⟩⟩
theorem Blk.inj {w : World} {g : Nat} {k : IntKind} {t : TypeId} {L M : List Int} (h : Blk w g k t L) (h' : Blk w g k t M) : L = M := by
  unfold Blk at h h'
  rw [h] at h'
  simp only [Option.some.injEq, Obj.cells.injEq] at h'
  have := congrArg Array.toList h'.1
  simp only at this
  exact List.map_inj_right (by intro x y e; simpa using e) |>.1 this
theorem Blk.none {w : World} {g : Nat} {k : IntKind} {t : TypeId} {L : List Int} (h : Blk w g k t L) {j : Nat} (hj : L.length ≤ j) : w.cell? ⟨g, j, none⟩ = none := by
  unfold Blk at h
  simp [World.cell?, h, List.getElem?_eq_none hj]
/-- a row of words that makes the number v -/
def RowV (w : World) (ao : Option Addr) (len cap : Nat) (v : Int) : Prop := ∃ zs, RowAt w .u64 ao len cap zs ∧ Wd 18446744073709551616 zs ∧ val 18446744073709551616 zs = v
/-- n cells of a block, from off on, that may be written -/
def Room (w : World) (g off n : Nat) : Prop := ∃ L, Blk w g .u64 25 L ∧ Wd 18446744073709551616 L ∧ off + n ≤ L.length
theorem RowV.lt {w : World} {ao : Option Addr} {len cap : Nat} {v : Int} (h : RowV w ao len cap v) : v < 18446744073709551616 ^ len := by
  obtain ⟨zs, h1, h2, rfl⟩ := h; rw [h1.hlen]; exact val_lt (by decide) h2
theorem RowV.cells {w : World} {b o len cap : Nat} {zs : List Int} (h : RowAt w .u64 (some ⟨b, o, none⟩) len cap zs) (hp : 0 < len) : b < w.heap.size ∧ ∀ t, t < len → w.cell? ⟨b, o + t, none⟩ = some (.int .u64 (dig zs t)) := by
  obtain ⟨b', o', e, h1, h2⟩ := h.get hp
  cases e
  exact ⟨h1, h2⟩
theorem RowV.later {F : Nat → Nat → Prop} {w w' : World} {b o len cap : Nat} {v : Int} (h : RowV w (some ⟨b, o, none⟩) len cap v) (hc : Chg F w w') (hF : ∀ t, t < len → ¬ F b (o + t)) : RowV w' (some ⟨b, o, none⟩) len cap v := by
  obtain ⟨zs, h1, h2⟩ := h
  refine ⟨zs, ⟨h1.hlen, h1.hcap, h1.hnil, ?_⟩, h2⟩
  by_cases hp : 0 < len
  · obtain ⟨k1, k2⟩ := RowV.cells h1 hp
    refine Or.inr ⟨b, o, rfl, Nat.lt_of_lt_of_le k1 hc.size, fun t ht => ?_⟩
    rw [hc.cell b (o + t) k1 (hF t ht)]; exact k2 t ht
  · exact Or.inl (by omega)
theorem Room.later {F : Nat → Nat → Prop} {w w' : World} {g off n : Nat} (h : Room w g off n) (hc : Chg F w w') : Room w' g off n := by
  obtain ⟨L, h1, h2, h3⟩ := h
  obtain ⟨L', k1, k2, k3⟩ := hc.blk g L h1 h2
  exact ⟨L', k1, k3, by omega⟩
theorem Room.part {w : World} {g off n off' n' : Nat} (h : Room w g off n) (h1 : off' + n' ≤ off + n) : Room w g off' n' := by
  obtain ⟨L, a, b, c⟩ := h; exact ⟨L, a, b, by omega⟩
theorem Room.lt {w : World} {g off n : Nat} (h : Room w g off n) : g < w.heap.size := by
  obtain ⟨L, a, _⟩ := h; exact a.lt
theorem Room.row {w : World} {g off n cap : Nat} (h : Room w g off n) (hc : n ≤ cap) : ∃ v, RowV w (some ⟨g, off, none⟩) n cap v := by
  obtain ⟨L, hb, hW, hl⟩ := h
  refine ⟨_, (L.drop off).take n, ⟨by simp; omega, hc, fun e => (by cases e), ?_⟩, (hW.drop off).take n, rfl⟩
  refine Or.inr ⟨g, off, rfl, hb.lt, fun t ht => ?_⟩
  rw [hb.cell (by omega), dig_drop_take ht]
theorem RowV.split {w : World} {b o len cap : Nat} {v : Int} (h : RowV w (some ⟨b, o, none⟩) len cap v) {k : Nat} (hk : k ≤ len) :
    ∃ v0 v1, RowV w (some ⟨b, o, none⟩) k cap v0 ∧ RowV w (some ⟨b, o + k, none⟩) (len - k) (cap - k) v1 ∧ v = v0 + 18446744073709551616 ^ k * v1 := by
  obtain ⟨zs, h1, h2, rfl⟩ := h
  have hl := h1.hlen
  have hcap := h1.hcap
  refine ⟨_, _, ⟨zs.take k, h1.take hk, h2.take k, rfl⟩, ⟨zs.drop k, ⟨by simp; omega, by omega, fun e => (by cases e), ?_⟩, h2.drop k, rfl⟩, val_take_drop _ _ _ (by omega)⟩
  by_cases hp : 0 < len - k
  · obtain ⟨k1, k2⟩ := RowV.cells h1 (by omega)
    refine Or.inr ⟨b, o + k, rfl, k1, fun t ht => ?_⟩
    rw [dig_drop, Nat.add_assoc]; exact k2 _ (by omega)
  · exact Or.inl (by omega)
end Go.Proofs.YtnniipekcbjloaaDoor
/- Walks: distance, halvesRoom. -/
namespace Go.Proofs.YtnniipekcbjloaaDoor
open Go.RowKit
set_option linter.unusedVariables false
set_option linter.unusedSimpArgs false
/-- the first k digits of L from off on were turned into their complement; c is carried -/
structure NegSt (q : Int) (L : List Int) (off k : Nat) (c : Int) (Lk : List Int) : Prop where
  len : Lk.length = L.length
  out : ∀ j, j < off ∨ off + k ≤ j → dig Lk j = dig L j
  wd : Wd q Lk
  c0 : 0 ≤ c
  c1 : c ≤ 1
  eq : V q Lk off k + c * q ^ k = q ^ k - V q L off k
theorem NegSt.start {q : Int} {L : List Int} (off : Nat) (h : Wd q L) : NegSt q L off 0 1 L :=
  ⟨rfl, fun _ _ => rfl, h, by decide, by decide, by simp [V_zero]⟩
theorem NegSt.step {q : Int} {L : List Int} {off k : Nat} {c : Int} {Lk : List Int} (h : NegSt q L off k c Lk) (hk : off + k < L.length) {d c' : Int} (hd : 0 ≤ d ∧ d < q) (hc : 0 ≤ c' ∧ c' ≤ 1)
    (he : d + c' * q = q - 1 - dig L (off + k) + c) : NegSt q L off (k + 1) c' (Lk.set (off + k) d) := by
  have hl : off + k < Lk.length := by rw [h.len]; exact hk
  refine ⟨by simp [h.len], fun j hj => ?_, h.wd.set _ hd, hc.1, hc.2, ?_⟩
  · rw [dig_set _ hl, if_neg (by omega)]; exact h.out j (by omega)
  · have e1 : V q (Lk.set (off + k) d) off k = V q Lk off k := V_congr fun j hj => by rw [dig_set _ hl, if_neg (by omega)]
    rw [V_succ, V_succ, e1, dig_set _ hl, if_pos rfl, Int.pow_succ]
    have h1 := h.eq
    have e2 : q ^ k * (d + c' * q) = q ^ k * (q - 1 - dig L (off + k) + c) := by rw [he]
    grind
end Go.Proofs.YtnniipekcbjloaaDoor
/- Walks: halvesRoom; the mathematics of products by halves. -/
namespace Go.Proofs.YtnniipekcbjloaaDoor
open Go.RowKit
set_option linter.unusedVariables false
set_option linter.unusedSimpArgs false
end Go.Proofs.YtnniipekcbjloaaDoor
/- The walk of timesHalves. -/
namespace Go.Proofs.YtnniipekcbjloaaDoor
open Go.RowKit
set_option linter.unusedVariables false
set_option linter.unusedSimpArgs false
theorem RowV.cap {w : World} {ao : Option Addr} {len cap : Nat} {v : Int} (h : RowV w ao len cap v) : len ≤ cap := by
  obtain ⟨zs, h1, _⟩ := h; exact h1.hcap
theorem Chg.pre {F : Nat → Nat → Prop} {a b : World} (h : Chg F a.drew b) : Chg F a b := ⟨h.os, h.tape, h.output, h.size, h.other, h.cell, h.blk⟩
theorem RowV.drew {w : World} {ao : Option Addr} {len cap : Nat} {v : Int} (h : RowV w ao len cap v) : RowV w.drew ao len cap v := by
  obtain ⟨zs, h1, h2⟩ := h; exact ⟨zs, ⟨h1.hlen, h1.hcap, h1.hnil, h1.hat⟩, h2⟩
end Go.Proofs.YtnniipekcbjloaaDoor
/-
  KE, KF.
-/
/- The walk of timesPieces. -/
namespace Go.Proofs.YtnniipekcbjloaaDoor
open Go.RowKit
set_option linter.unusedVariables false
set_option linter.unusedSimpArgs false
theorem Chg.new {F G : Nat → Nat → Prop} {a b c : World} (h : Chg F a b) (k : Chg G b c) (hG : ∀ x j, G x j → F x j ∨ a.heap.size ≤ x) : Chg F a c := by
  have hs := h.size
  refine ⟨k.os.trans h.os, k.tape.trans h.tape, k.output.trans h.output, Nat.le_trans h.size k.size, fun g hg hF => ?_, fun x j hx hF => ?_, fun g L hb hw => ?_⟩
  · exact (k.other g (by omega) fun j hj => (hG g j hj).elim (fun h1 => hF j h1) (fun h1 => by omega)).trans (h.other g hg hF)
  · exact (k.cell x j (by omega) fun hj => (hG x j hj).elim (fun h1 => hF h1) (fun h1 => by omega)).trans (h.cell x j hx hF)
  · obtain ⟨L1, b1, l1, w1⟩ := h.blk g L hb hw
    obtain ⟨L2, b2, l2, w2⟩ := k.blk g L1 b1 w1
    exact ⟨L2, b2, l2.trans l1, w2⟩
end Go.Proofs.YtnniipekcbjloaaDoor
/- The walk of times, of any length. -/
namespace Go.Proofs.YtnniipekcbjloaaDoor
open Go.RowKit
set_option linter.unusedVariables false
set_option linter.unusedSimpArgs false
theorem RowV.grown {w w' : World} {b o len cap : Nat} {v : Int} (h : RowV w (some ⟨b, o, none⟩) len cap v) (hb : Below w.heap.size w w') : RowV w' (some ⟨b, o, none⟩) len cap v :=
  h.later (F := Fr 0 0 0) (Chg.below hb) fun t ht hF => by have := hF.2; omega
end Go.Proofs.YtnniipekcbjloaaDoor
/-
  ER, ES.
-/
/- EP, EQ, ER. -/
namespace Go.Proofs.YtnniipekcbjloaaDoor
open Go.RowKit Go.Shelf
set_option linter.unusedVariables false
set_option linter.unusedSimpArgs false
end Go.Proofs.YtnniipekcbjloaaDoor
/- Walks: lowBitsSet. -/
namespace Go.Proofs.YtnniipekcbjloaaDoor
open Go.RowKit Go.Shelf
set_option linter.unusedVariables false
set_option linter.unusedSimpArgs false
end Go.Proofs.YtnniipekcbjloaaDoor
/- Walks: lowBitsSet. -/
namespace Go.Proofs.YtnniipekcbjloaaDoor
open Go.RowKit Go.Shelf
set_option linter.unusedVariables false
set_option linter.unusedSimpArgs false
end Go.Proofs.YtnniipekcbjloaaDoor
/- Walks: Divide. -/
namespace Go.Proofs.YtnniipekcbjloaaDoor
open Go.RowKit Go.Shelf
set_option linter.unusedVariables false
set_option linter.unusedSimpArgs false
/-- two numbers and no error -/
def TwoIntErr (w w' : World) (e : Ending) (x y : Int) : Prop :=
  ∃ n1 ao1 l1 c1 n2 ao2 l2 c2, e = .returned (.tuple #[.agg #[.bool n1, .slice ao1 l1 c1], .agg #[.bool n2, .slice ao2 l2 c2], .int .i64 0]) ∧ n1 = sgB x ∧ Own w.heap.size w' .u64 25 ao1 l1 c1 (mag x.natAbs) ∧ n2 = sgB y ∧ Own w.heap.size w' .u64 25 ao2 l2 c2 (mag y.natAbs) ∧ Below w.heap.size w w'
/-- likewise, in blocks of their own -/
def TwoIntErrP (w w' : World) (e : Ending) (x y : Int) : Prop :=
  ∃ n1 ao1 l1 c1 n2 ao2 l2 c2, e = .returned (.tuple #[.agg #[.bool n1, .slice ao1 l1 c1], .agg #[.bool n2, .slice ao2 l2 c2], .int .i64 0]) ∧ n1 = sgB x ∧ Own w.heap.size w' .u64 25 ao1 l1 c1 (mag x.natAbs) ∧ n2 = sgB y ∧ Own w.heap.size w' .u64 25 ao2 l2 c2 (mag y.natAbs) ∧ Below w.heap.size w w' ∧ Parted ao1 ao2
theorem TwoIntErrP.less {w w' : World} {e : Ending} {x y : Int} (h : TwoIntErrP w w' e x y) : TwoIntErr w w' e x y := by
  obtain ⟨n1, ao1, l1, c1, n2, ao2, l2, c2, h1, h2, h3, h4, h5, h6, _⟩ := h
  exact ⟨n1, ao1, l1, c1, n2, ao2, l2, c2, h1, h2, h3, h4, h5, h6⟩
theorem TwoIntErrP.of {w w' : World} {m1 m2 : Bool} {a1 a2 : Option Addr} {l1 c1 l2 c2 : Nat} {q r : Int} (h : NewInt w w' (.returned (.agg #[.bool m1, .slice a1 l1 c1])) q) (k : NewInt w w' (.returned (.agg #[.bool m2, .slice a2 l2 c2])) r) (hp : Parted a1 a2) : TwoIntErrP w w' (.returned (.tuple #[.agg #[.bool m1, .slice a1 l1 c1], .agg #[.bool m2, .slice a2 l2 c2], .int .i64 0])) q r := by
  obtain ⟨n1, a1, l1, c1, he1, hs1, ho1, hb1⟩ := h
  obtain ⟨n2, a2, l2, c2, he2, hs2, ho2, hb2⟩ := k
  cases he1; cases he2
  exact ⟨_, _, _, _, _, _, _, _, rfl, hs1, ho1, hs2, ho2, hb1, hp⟩
end Go.Proofs.YtnniipekcbjloaaDoor
/-
  LB0, LD0.
-/
/- Numbers that lie in variables; lengths of powers. -/
namespace Go.Proofs.YtnniipekcbjloaaDoor
open Go.RowKit
set_option linter.unusedVariables false
set_option linter.unusedSimpArgs false
/-- a number in a variable of its own -/
structure InVar (W : World) (r : Nat) (neg : Bool) (ao : Option Addr) (l c : Nat) (v : Int) : Prop where
  box : Boxed W r neg ao l c
  int : IntAt W neg ao l c v
  lt : r < W.heap.size
theorem InVar.later {W w' : World} {r : Nat} {neg : Bool} {ao : Option Addr} {l c : Nat} {v : Int} (h : InVar W r neg ao l c v) (hb : Below W.heap.size W w') : InVar w' r neg ao l c v :=
  ⟨h.box.later hb h.lt, h.int.later hb, Nat.lt_of_lt_of_le h.lt hb.size⟩
theorem InVar.new {W X y : World} {neg : Bool} {ao : Option Addr} {l c : Nat} {v : Int} (hX : Below W.heap.size W X) (hs : neg = sgB v) (ho : Own X.heap.size y .u64 25 ao l c (mag v.natAbs)) (hb : Below X.heap.size X y) :
    Hid (InVar (y.alloc (.cells #[.bool neg, .slice ao l c] 65)) y.heap.size neg ao l c v ∧ Below W.heap.size W (y.alloc (.cells #[.bool neg, .slice ao l c] 65)) ∧ Below X.heap.size X (y.alloc (.cells #[.bool neg, .slice ao l c] 65))) := by
  have h1 : Below y.heap.size y (y.alloc (.cells #[.bool neg, .slice ao l c] 65)) := (Below.refl _ _).alloc (Nat.le_refl _) _
  have h2 : Below X.heap.size X (y.alloc (.cells #[.bool neg, .slice ao l c] 65)) := hb.trans (below_less h1 hb.size)
  exact ⟨⟨⟨by simp [go_sem], by simp [go_sem]⟩, (ho.int hs).later h1, by simp⟩, bnext hX h2, h2⟩
end Go.Proofs.YtnniipekcbjloaaDoor
/- KG, KH, LD0. -/
namespace Go.Proofs.YtnniipekcbjloaaDoor
open Go.RowKit
set_option linter.unusedVariables false
set_option linter.unusedSimpArgs false
end Go.Proofs.YtnniipekcbjloaaDoor
/- Walks: Mul of any length; the laws' mul. -/
namespace Go.Proofs.YtnniipekcbjloaaDoor
open Go.RowKit Go.Shelf
set_option linter.unusedVariables false
set_option linter.unusedSimpArgs false
end Go.Proofs.YtnniipekcbjloaaDoor
/- Lengths of sums, products, quotients; quotients of products. -/
namespace Go.Proofs.YtnniipekcbjloaaDoor
open Go.RowKit
set_option linter.unusedVariables false
set_option linter.unusedSimpArgs false
/-- a number of at most B limbs -/
def Num (w : World) (neg : Bool) (ao : Option Addr) (l c : Nat) (v : Int) (B : Nat) : Prop := IntAt w neg ao l c v ∧ l ≤ B
theorem Num.later {w w' : World} {neg : Bool} {ao : Option Addr} {l c B : Nat} {v : Int} (h : Num w neg ao l c v B) (hb : Below w.heap.size w w') : Num w' neg ao l c v B := ⟨h.1.later hb, h.2⟩
theorem Fresh.next {W w2 : World} {r : Nat} (k : Fresh W r) (h : Below W.heap.size W w2) : Fresh w2 r := k.later h (cell_lt k.2.1)
end Go.Proofs.YtnniipekcbjloaaDoor
/-
  HA, HB, HC, HD, HE.
-/
/- Walks: the page's NTimes. -/
namespace Go.Proofs.YtnniipekcbjloaaDoor
open Go.RowKit
set_option linter.unusedVariables false
set_option linter.unusedSimpArgs false
end Go.Proofs.YtnniipekcbjloaaDoor
/- Walks: the page's short (a row of halves divided by one). -/
namespace Go.Proofs.YtnniipekcbjloaaDoor
open Go.RowKit
set_option linter.unusedVariables false
set_option linter.unusedSimpArgs false
theorem V_low (q : Int) (L : List Int) (off n : Nat) : V q L off (n + 1) = dig L off + q * V q L (off + 1) n := by
  rw [Nat.add_comm n 1, V_split, V_succ, V_zero, Int.pow_succ]; simp
/-- the digits of xs from k on were divided by d; r is left -/
structure ShortSt (q : Int) (xs : List Int) (d : Int) (k n : Nat) (r : Int) (L : List Int) : Prop where
  len : L.length = xs.length
  wd : Wd q L
  r0 : 0 ≤ r
  r1 : r < d
  eq : V q L k n * d + r = V q xs k n
theorem ShortSt.step {q : Int} {xs : List Int} {d : Int} {k n : Nat} {r : Int} {L : List Int} (h : ShortSt q xs d (k + 1) n r L) (hk : k < xs.length) {u r' : Int} (hu : 0 ≤ u ∧ u < q) (hr : 0 ≤ r' ∧ r' < d) (he : u * d + r' = r * q + dig xs k) : ShortSt q xs d k (n + 1) r' (L.set k u) := by
  have hl : k < L.length := by rw [h.len]; exact hk
  refine ⟨by simp [h.len], h.wd.set _ hu, hr.1, hr.2, ?_⟩
  have e1 : V q (L.set k u) (k + 1) n = V q L (k + 1) n := V_congr fun j hj => by rw [dig_set _ hl, if_neg (by omega)]
  rw [V_low, V_low, e1, dig_set _ hl, if_pos rfl]
  have h1 := h.eq
  grind
end Go.Proofs.YtnniipekcbjloaaDoor
/- Walks: the page's Up2. -/
namespace Go.Proofs.YtnniipekcbjloaaDoor
open Go.RowKit
set_option linter.unusedVariables false
set_option linter.unusedSimpArgs false
/-- j noughts, then the first k digits of zs, times P; c is carried -/
structure Up2St (zs : List Int) (j k : Nat) (P c : Int) (L : List Int) : Prop where
  len : L.length = j + k
  wd : Wd 18446744073709551616 L
  c0 : 0 ≤ c
  c1 : c < P
  eq : val 18446744073709551616 L + c * 18446744073709551616 ^ (j + k) = 18446744073709551616 ^ j * (val 18446744073709551616 (zs.take k) * P)
theorem Up2St.step {zs : List Int} {j k : Nat} {P c : Int} {L : List Int} (h : Up2St zs j k P c L) {d c' : Int} (hd : 0 ≤ d ∧ d < 18446744073709551616) (hc : 0 ≤ c' ∧ c' < P) (he : d + c' * 18446744073709551616 = dig zs k * P + c) : Up2St zs j (k + 1) P c' (L ++ [d]) := by
  refine ⟨by simp [h.len]; omega, h.wd.append (Wd.one hd), hc.1, hc.2, ?_⟩
  have h1 := h.eq
  rw [val_snoc, h.len, val_take_dig, show j + (k + 1) = j + k + 1 by omega, Int.pow_succ]
  have e2 : 18446744073709551616 ^ (j + k) * (d + c' * 18446744073709551616) = 18446744073709551616 ^ (j + k) * (dig zs k * P + c) := by rw [he]
  rw [Int.pow_add] at h1 e2 ⊢
  grind
end Go.Proofs.YtnniipekcbjloaaDoor
/- Walks: the page's Down2. -/
namespace Go.Proofs.YtnniipekcbjloaaDoor
open Go.RowKit
set_option linter.unusedVariables false
set_option linter.unusedSimpArgs false
/-- the digits of zs from j on, k of them, over P -/
structure Down2St (zs : List Int) (j k : Nat) (P : Int) (L : List Int) : Prop where
  len : L.length = k
  wd : Wd 18446744073709551616 L
  eq : val 18446744073709551616 L * P + dig zs j % P = V 18446744073709551616 zs j k + dig zs (j + k) % P * 18446744073709551616 ^ k
theorem Down2St.step {zs : List Int} {j k : Nat} {P : Int} {L : List Int} (h : Down2St zs j k P L) {d : Int} (hd : 0 ≤ d ∧ d < 18446744073709551616) (he : d * P + dig zs (j + k) % P = dig zs (j + k) + dig zs (j + k + 1) % P * 18446744073709551616) : Down2St zs j (k + 1) P (L ++ [d]) := by
  refine ⟨by simp [h.len], h.wd.append (Wd.one hd), ?_⟩
  have h1 := h.eq
  rw [val_snoc, h.len, V_succ, Int.pow_succ, show j + (k + 1) = j + k + 1 by omega]
  have e2 : 18446744073709551616 ^ k * (d * P + dig zs (j + k) % P) = 18446744073709551616 ^ k * (dig zs (j + k) + dig zs (j + k + 1) % P * 18446744073709551616) := by rw [he]
  grind
end Go.Proofs.YtnniipekcbjloaaDoor
/- Walks: the page's Times, Zero. -/
namespace Go.Proofs.YtnniipekcbjloaaDoor
open Go.RowKit
set_option linter.unusedVariables false
set_option linter.unusedSimpArgs false
end Go.Proofs.YtnniipekcbjloaaDoor
/-
  Walks: an answer is written over (Words).
-/
namespace Go.Proofs.YtnniipekcbjloaaDoor
open Go.RowKit
set_option linter.unusedVariables false
set_option linter.unusedSimpArgs false
/-- a row that may be written, with its spare room -/
structure Spoil (w : World) (g off len cap : Nat) : Prop where
  cell : ∀ j, j < len → ∃ z, w.cell? ⟨g, off + j, none⟩ = some (.int .u64 z)
  room : ∀ j, j < cap → (w.cell? ⟨g, off + j, none⟩).isSome = true
  soft : ∀ j, w.frozen? ⟨g, j, none⟩ = false
  lt : g < w.heap.size
theorem Spoil.ofOwn {B : Nat} {w : World} {t : TypeId} {g off len cap : Nat} {zs : List Int} (h : Own B w .u64 t (some ⟨g, off, none⟩) len cap zs) : Spoil w g off len cap ∧ B ≤ g ∧ len ≤ cap := by
  rcases h with ⟨h, _⟩ | ⟨g', off', cur, he, hB, hh, hc, hl, _, hz⟩
  · cases h
  · cases he
    have hlt := heap_lt hh
    refine ⟨⟨fun j hj => ⟨dig zs j, ?_⟩, fun j hj => ?_, fun j => ?_, hlt⟩, hB, hl⟩
    · simp only [World.cell?, hh]; exact hz j hj
    · simp only [World.cell?, hh]; simp; omega
    · simp [World.frozen?, hh]
theorem Spoil.later {w w' : World} {g off len cap : Nat} (h : Spoil w g off len cap) (hb : Below w.heap.size w w') : Spoil w' g off len cap :=
  ⟨fun j hj => by obtain ⟨z, hz⟩ := h.cell j hj; exact ⟨z, (hb.cell (p := ⟨g, off + j, none⟩) h.lt).trans hz⟩,
   fun j hj => by rw [hb.cell (p := ⟨g, off + j, none⟩) h.lt]; exact h.room j hj,
   fun j => by rw [hb.frozen (p := ⟨g, j, none⟩) h.lt]; exact h.soft j, Nat.lt_of_lt_of_le h.lt hb.size⟩
theorem Spoil.set {w : World} {g off len cap k : Nat} (h : Spoil w g off len cap) (hk : k < len) (z : Int) : Spoil (w.setCell ⟨g, off + k, none⟩ (.int .u64 z)) g off len cap := by
  have hs : (w.cell? ⟨g, off + k, none⟩).isSome = true := by obtain ⟨y, hy⟩ := h.cell k hk; rw [hy]; rfl
  refine ⟨fun j hj => ?_, fun j hj => ?_, fun j => ?_, by simpa using h.lt⟩
  · by_cases e : j = k
    · subst e; obtain ⟨y, hy⟩ := h.cell j hj; exact ⟨z, by simp [go_sem, hy]⟩
    · obtain ⟨y, hy⟩ := h.cell j hj; obtain ⟨y', hy'⟩ := h.cell k hk; exact ⟨y, by simp [go_sem, hy, hy', e]⟩
  · by_cases e : j = k
    · subst e; obtain ⟨y, hy⟩ := h.cell j hk; simp [go_sem, hy]
    · have := h.room j hj; obtain ⟨y', hy'⟩ := h.cell k hk; simpa [go_sem, hy', e] using this
  · have := h.soft j; simpa [go_sem] using this
/-- of what was there all stays, but for the slice's own block -/
structure Stay (ao : Option Addr) (w w' : World) : Prop where
  size : w.heap.size ≤ w'.heap.size
  block : ∀ k, k < w.heap.size → (∀ p : Addr, ao = some p → p.block ≠ k) → w'.heap[k]? = w.heap[k]?
theorem Stay.refl (ao : Option Addr) (w : World) : Stay ao w w := ⟨Nat.le_refl _, fun _ _ _ => rfl⟩
theorem Stay.set {g off : Nat} {w w' : World} (h : Stay (some ⟨g, off, none⟩) w w') (j : Nat) (v : Value) : Stay (some ⟨g, off, none⟩) w (w'.setCell ⟨g, j, none⟩ v) :=
  ⟨by simpa [World.setCell] using h.size, fun k hk hp => by rw [Below.heap_setCell w' ⟨g, j, none⟩ v k (fun e => hp _ rfl e.symm)]; exact h.block k hk hp⟩
theorem Stay.next {ao : Option Addr} {w w' w2 : World} (h : Stay ao w w') (hb : Below w'.heap.size w' w2) : Stay ao w w2 :=
  ⟨Nat.le_trans h.size hb.size, fun k hk hp => (hb.block k (Nat.lt_of_lt_of_le hk h.size)).trans (h.block k hk hp)⟩
theorem Stay.after {ao : Option Addr} {w w' w2 : World} (hb : Below w.heap.size w w') (h : Stay ao w' w2) : Stay ao w w2 :=
  ⟨Nat.le_trans hb.size h.size, fun k hk hp => (h.block k (Nat.lt_of_lt_of_le hk hb.size) hp).trans (hb.block k hk)⟩
theorem Stay.cell {ao : Option Addr} {w w' : World} (h : Stay ao w w') {r j : Nat} (hr : r < w.heap.size) (hp : ∀ p : Addr, ao = some p → p.block ≠ r) : w'.cell? ⟨r, j, none⟩ = w.cell? ⟨r, j, none⟩ := by
  simp only [World.cell?, h.block r hr hp]
theorem Stay.frozen {ao : Option Addr} {w w' : World} (h : Stay ao w w') {r j : Nat} (hr : r < w.heap.size) (hp : ∀ p : Addr, ao = some p → p.block ≠ r) : w'.frozen? ⟨r, j, none⟩ = w.frozen? ⟨r, j, none⟩ := by
  simp only [World.frozen?, h.block r hr hp]
theorem below_cells {B g o : Nat} {w w' : World} {v : Value} (h : Below B w w') (hg : B ≤ g) : Below B w (w'.setCells g o [v]) := h.setCell (p := ⟨g, o, none⟩) hg v
theorem Spoil.olds {w : World} {g off len cap : Nat} (h : Spoil w g off len cap) : ∃ olds : List Value, olds.length = len * 1 ∧ ∀ j u, olds[j]? = some u → w.cell? ⟨g, off + j, none⟩ = some u := by
  refine ⟨(List.range len).map fun j => (w.cell? ⟨g, off + j, none⟩).getD undef, by simp, fun j u hj => ?_⟩
  rw [List.getElem?_map] at hj
  by_cases hl : j < len
  · rw [List.getElem?_range hl] at hj
    obtain ⟨z, hz⟩ := h.cell j hl
    simp only [Option.map_some, hz, Option.getD_some, Option.some.injEq] at hj
    rw [hz, hj]
  · rw [List.getElem?_eq_none (by simpa using hl)] at hj
    cases hj
set_option maxRecDepth 100000 in
set_option maxHeartbeats 2000000 in
theorem words_any (B : Nat) (ao : Option Addr) (len cap : Nat) (zs : List Int) (w : World) (ho : Own B w .u64 25 ao len cap zs) (hB : B ≤ w.heap.size) (hl : len ≤ 8589934592) :
    Calls Tryd.prog 51 #[.slice ao len cap] w fun e w' => e = .returned (.tuple #[]) ∧ Below B w w' ∧ Stay ao w w' := by
  obtain ⟨i0, hi, hz0, hz1, hz2⟩ := info_parts info64
  have h63 : Hid (len + 1 ≤ maxLen) := by show _ ≤ _; unfold maxLen; omega
  have hby : Hid ((len + 1) * 8 ≤ 140737488355328) := by show _ ≤ _; omega
  have HO : Hid (Own B w .u64 25 ao len cap zs) := ho
  by_cases hao : ao = none
  · subst hao
    obtain ⟨rfl, rfl⟩ : len = 0 ∧ cap = 0 := by
      rcases ho with ⟨_, h1, h2, _⟩ | ⟨g', off', cur, he, _⟩
      · exact ⟨h1, h2⟩
      · cases he
    have hbA : Below B w (w.alloc (.cells #[.int .u64 7] 25)) := (Below.refl B w).alloc hB _
    clear ho
    go_enter Tryd.func51, Tryd.ntmps51
    go_wp2
    go_loopw [2] (fun i wr => i = .int .i64 0 ∧ wr = w) (fun i _ => 0)
    case atStart => exact ⟨rfl, rfl⟩
    case round =>
      obtain ⟨rfl, rfl⟩ := hrel
      go_wp2_with (at_builtin; refine wpList_append_grows _ rfl _ _ 23 rfl 25 i0 (.int .u64 0) 1 8 Tryd.underlying23 hi hz0 hz1 hz2 rfl (by decide) none 0 0 [] rfl (fun _ => ⟨rfl, rfl⟩) rfl (fun b h => by cases h) ⟨wr.heap.size, 0, none⟩ 1 1 [.int .u64 7] rfl rfl (World.news_of_block (cs := #[.int .u64 7]) (t := 25) (fr := (0, 0)) (heap_alloc_new wr _)) (by simp [Value.oneCell']) (by decide) h63.out hby.out ?_; intro v' w' hown hgrow)
      go_end0
      exact ⟨rfl, hbA.trans ((grown_below hgrow).mono (Nat.le_trans hB hbA.size)), ((Stay.refl _ _).next ((Below.refl _ _).alloc (Nat.le_refl _) _)).next (grown_below hgrow)⟩
  · obtain ⟨⟨g, off, sp⟩, rfl⟩ : ∃ x, ao = some x := Option.ne_none_iff_exists'.1 hao
    obtain rfl : sp = none := by
      rcases ho with ⟨h, _⟩ | ⟨g', off', cur, he, _⟩
      · cases h
      · cases he; rfl
    obtain ⟨hsp, hBg, hlc⟩ := Spoil.ofOwn ho
    have HSP : Hid (Spoil w g off len cap) := hsp
    clear ho hsp hao
    go_enter Tryd.func51, Tryd.ntmps51
    go_wp2
    go_loopw [2] (fun i wr => ∃ k : Nat, k ≤ len ∧ i = .int .i64 k ∧ Spoil wr g off len cap ∧ Below B w wr ∧ Stay (some ⟨g, off, none⟩) w wr) (fun i _ => len - (intOf i).toNat)
    case atStart => exact ⟨0, Nat.zero_le _, rfl, HSP.out, Below.refl _ _, Stay.refl _ _⟩
    case round =>
      obtain ⟨k, hk, rfl, hsp, hbel, hsy⟩ := hrel
      have HSY : Hid (Stay (some ⟨g, off, none⟩) w wr) := hsy
      clear hsy
      have HS : Hid (Spoil wr g off len cap) := hsp
      have hgl := hsp.lt
      by_cases hlt : k < len
      · obtain ⟨z, hz⟩ := hsp.cell k hlt
        have hfz := hsp.soft (off + k)
        clear hsp
        go_wp2
        go_roundw
        case rel => exact ⟨k + 1, by omega, by go_num, HS.out.set hlt _, hbel.setCell (p := ⟨g, off + k, none⟩) hBg _, HSY.out.set _ _⟩
        case measure => simp [intOf]; omega
      · obtain rfl : k = len := by omega
        have hA := HS.out.later ((Below.refl wr.heap.size wr).alloc (Nat.le_refl _) (.cells #[.int .u64 7] 25))
        have hbA : Below B w (wr.alloc (.cells #[.int .u64 7] 25)) := hbel.alloc (Nat.le_trans hB hbel.size) _
        obtain ⟨olds, hol⟩ := hA.olds
        have HL : Hid (olds.length = k * 1 ∧ ∀ j u, olds[j]? = some u → (wr.alloc (.cells #[.int .u64 7] 25)).cell? ⟨g, off + j, none⟩ = some u) := hol
        have HP : Hid (k + 1 ≤ cap → ∀ j, j < [Value.int .u64 7].length → ((wr.alloc (.cells #[.int .u64 7] 25)).cell? ⟨g, off + k * 1 + j, none⟩).isSome = true ∧ (wr.alloc (.cells #[.int .u64 7] 25)).frozen? ⟨g, off + k * 1 + j, none⟩ = false) := fun h j hj => by
          obtain rfl : j = 0 := by simpa using hj
          exact ⟨by simpa using hA.room k (by omega), hA.soft _⟩
        clear hsp hol hA
        by_cases hr : k + 1 ≤ cap
        · go_wp2_with (at_builtin; refine wpList_append_arg _ rfl _ _ 23 rfl 25 i0 (.int .u64 0) 1 8 Tryd.underlying23 hi hz0 hz1 hz2 rfl (by decide) g off k cap olds rfl HL.out.1 HL.out.2 ⟨wr.heap.size, 0, none⟩ 1 1 [.int .u64 7] rfl rfl (World.news_of_block (cs := #[.int .u64 7]) (t := 25) (fr := (0, 0)) (heap_alloc_new wr _)) (by simp [Value.oneCell']) HP.out h63.out hby.out (fun _ => ?_) (fun h => absurd h (by omega)))
          go_end0
          exact ⟨rfl, below_cells hbA hBg, (HSY.out.next ((Below.refl _ _).alloc (Nat.le_refl _) _)).set _ _⟩
        · go_wp2_with (at_builtin; refine wpList_append_arg _ rfl _ _ 23 rfl 25 i0 (.int .u64 0) 1 8 Tryd.underlying23 hi hz0 hz1 hz2 rfl (by decide) g off k cap olds rfl HL.out.1 HL.out.2 ⟨wr.heap.size, 0, none⟩ 1 1 [.int .u64 7] rfl rfl (World.news_of_block (cs := #[.int .u64 7]) (t := 25) (fr := (0, 0)) (heap_alloc_new wr _)) (by simp [Value.oneCell']) HP.out h63.out hby.out (fun h => absurd h hr) (fun _ => ?_); intro v' w' hown hgrow)
          go_end0
          exact ⟨rfl, hbA.trans ((grown_below hgrow).mono (Nat.le_trans hB hbA.size)), (HSY.out.next ((Below.refl _ _).alloc (Nat.le_refl _) _)).next (grown_below hgrow)⟩
end Go.Proofs.YtnniipekcbjloaaDoor
/-
  PH: walks: the law's own comparing ("is"); what modp's DivMod, Gcd and Pow tell, beside the page's.
-/
namespace Go.Proofs.YtnniipekcbjloaaDoor
open Go.RowKit Go.Shelf
set_option linter.unusedVariables false
set_option linter.unusedSimpArgs false
theorem Own.stayM {B : Nat} {w w' : World} {k : IntKind} {t : TypeId} {ao bo : Option Addr} {len cap : Nat} {zs : List Int} (h : Own B w k t bo len cap zs) (hs : Stay ao w w') (hp : ∀ a b : Addr, ao = some a → bo = some b → a.block ≠ b.block) : Own B w' k t bo len cap zs := by
  rcases h with h | ⟨g, off, L, h1, h2, h3, h4⟩
  · exact Or.inl h
  · exact Or.inr ⟨g, off, L, h1, h2, by rw [hs.block g (heap_lt h3) fun a ha => by subst h1; exact hp a _ ha rfl]; exact h3, h4⟩
set_option maxRecDepth 100000 in
set_option maxHeartbeats 1000000 in
theorem mis_ok (B : Nat) (xo yo : Option Addr) (xl xc yl yc : Nat) (zs : List Int) (w : World) (ho : Own B w .u64 25 xo xl xc zs) (hB : B ≤ w.heap.size) (hl : xl ≤ 4194304) (hy : RowAt w .u64 yo yl yc zs) :
    Calls Tryd.prog 20 #[.slice xo xl xc, .int .i64 0, .int .i64 0, .slice yo yl yc] w fun e w' => e = .returned (.bool true) ∧ Below B w w' ∧ Stay xo w w' := by
  have HE : Hid (Calls Tryd.prog 26 #[.slice xo xl xc, .slice yo yl yc] w fun e w' => e = .returned (.bool true) ∧ Below w.heap.size w w') := meqF_any true xo yo xl xc yl yc zs zs w ho.row hy (by omega) (by simp)
  have HW : Hid (∀ W, Below w.heap.size w W → Calls Tryd.prog 51 #[.slice xo xl xc] W fun e w' => e = .returned (.tuple #[]) ∧ Below B W w' ∧ Stay xo W w') := fun W hb => words_any B xo xl xc zs W (ho.later hb) (Nat.le_trans hB hb.size) (by omega)
  have HB : Hid (B ≤ w.heap.size) := hB
  clear ho hy hB hl
  go_enter Tryd.func20, Tryd.ntmps20
  go_wp2_with (first
    | (go_at_call 17; refine (mnum_any 0 _).mono ?_; rintro e w1 ⟨rfl, hw1⟩; replace hw1 := hw1.symm; subst hw1)
    | (go_at_call 26; refine HE.out.mono ?_; rintro e w2 ⟨rfl, hb2⟩)
    | (go_at_call 51; refine (HW.out _ hb2).mono ?_; rintro e w3 ⟨rfl, hb3, hs3⟩))
  go_ret
  exact ⟨rfl, (hb2.mono HB.out).trans hb3, Stay.after hb2 hs3⟩
set_option maxHeartbeats 1000000 in
theorem mis_bad (c : Int) (yo : Option Addr) (yl yc : Nat) (w : World) (hc : c = 90 ∨ c = 91) :
    Calls Tryd.prog 20 #[.slice none 0 0, .int .i64 c, .int .i64 c, .slice yo yl yc] w fun e w' => e = .returned (.bool true) ∧ w' = w := by
  rcases hc with rfl | rfl
  · go_enter Tryd.func20, Tryd.ntmps20
    go_wp2_with (go_at_call 17; refine (mnum_any 90 _).mono ?_; rintro e w1 ⟨rfl, hw1⟩; replace hw1 := hw1.symm; subst hw1)
    go_ret
    exact ⟨rfl, rfl⟩
  · go_enter Tryd.func20, Tryd.ntmps20
    go_wp2_with (go_at_call 17; refine (mnum_any 91 _).mono ?_; rintro e w1 ⟨rfl, hw1⟩; replace hw1 := hw1.symm; subst hw1)
    go_ret
    exact ⟨rfl, rfl⟩
/-- a face's answer, of its own, with no error -/
def OwnF (w w' : World) (e : Ending) (z : List Int) : Prop := (∃ o l c, e = .returned (.tuple #[.slice o l c, .int .i64 0]) ∧ Own w.heap.size w' .u64 25 o l c z ∧ l ≤ 4194304) ∧ Below w.heap.size w w'
theorem FaceF.own {w w' : World} {e : Ending} {P : List Int → Prop} {z : List Int} (h : FaceF w w' e P) (hz : ∀ y, P y → y = z) : OwnF w w' e z := by
  obtain ⟨o, l, c, y, he, ho, hp, hc, hb⟩ := h
  obtain rfl := hz y hp
  exact ⟨⟨o, l, c, he, ho, Nat.le_trans ho.row.hcap hc⟩, hb⟩
/-- what a greatest divisor is -/
def IsGcd (p : Int) (f g z : List Int) : Prop := ∃ d m, GcdTo p m f g d ∧ Pm p d ∧ z = monL p d
theorem lawGcd (p : Int) (ao bo : Option Addr) (la ca lb cb : Nat) (f g z : List Int) (w : World) (h : Good2 p w ao bo la ca lb cb f g) (hz : IsGcd p f g z) :
    Calls Tryd.prog 32 #[.slice ao la ca, .slice bo lb cb, .int .u64 p] w fun e w' => OwnF w w' e z :=
  (mGcd_any p ao bo la ca lb cb f g w h).mono fun e w' hf => hf.own fun y hy => by
    obtain ⟨d, m, h1, _, rfl⟩ := hy
    obtain ⟨d', m', k1, _, rfl⟩ := hz
    rw [GcdTo.uniq h.1.1 h.2.2.2.1 h1 k1]
/-- what a power modulo g is -/
def IsPowF (p : Int) (n : Nat) (f g z : List Int) : Prop := Pm p z ∧ z.length < g.length ∧ Md p g (fun x => ev z x) (fun x => ev f x ^ n)
theorem lawPow (p : Int) (n : Nat) (ao bo : Option Addr) (la ca lb cb : Nat) (f g z : List Int) (w : World) (h : Good2 p w ao bo la ca lb cb f g) (hlb : 0 < lb) (hn : n < 18446744073709551616) (hz : IsPowF p n f g z) :
    Calls Tryd.prog 33 #[.slice ao la ca, .int .u64 (n : Int), .slice bo lb cb, .int .u64 p] w fun e w' => OwnF w w' e z :=
  (mPow_any p n ao bo la ca lb cb f g w h hlb hn).mono fun e w' hf => hf.own fun y hy => Md.inj h.1.1 h.2.2.2.1 hy.1 hz.1 hy.2.1 hz.2.1 (hy.2.2.trans hz.2.2.symm)
/-- what a quotient and a rest are -/
def IsDiv (p : Int) (f g q r : List Int) : Prop := Pm p q ∧ Pm p r ∧ r.length < g.length ∧ EqM p (fun x => ev f x) (fun x => ev q x * ev g x + ev r x)
theorem IsDiv.uniq {p : Int} {f g q r q' r' : List Int} (hp : IsPr p) (hg : Pm p g) (h : IsDiv p f g q r) (k : IsDiv p f g q' r') : q = q' ∧ r = r' := by
  have hr : r = r' := Rm.uniq hp hg ⟨h.2.1, h.2.2.1, q, h.2.2.2⟩ ⟨k.2.1, k.2.2.1, q', k.2.2.2⟩
  subst hr
  exact ⟨quo_uniq hp hg (by have := h.2.2.1; omega) h.1 k.1 h.2.2.2 k.2.2.2, rfl⟩
/-- DivMod's answers, of its own, apart -/
def OwnD (w w' : World) (e : Ending) (q r : List Int) : Prop :=
  (∃ qo ql qc ro rl rc, e = .returned (.tuple #[.slice qo ql qc, .slice ro rl rc, .int .i64 0]) ∧ Own w.heap.size w' .u64 25 qo ql qc q ∧ Own w.heap.size w' .u64 25 ro rl rc r ∧ ql ≤ 4194304 ∧ rl ≤ 4194304 ∧ (∀ a b : Addr, qo = some a → ro = some b → a.block ≠ b.block)) ∧ Below w.heap.size w w'
set_option maxHeartbeats 400000 in
theorem lawDiv (p : Int) (ao bo : Option Addr) (la ca lb cb : Nat) (f g q r : List Int) (w : World) (h : Good2 p w ao bo la ca lb cb f g) (hlb : 0 < lb) (hz : IsDiv p f g q r) :
    Calls Tryd.prog 31 #[.slice ao la ca, .slice bo lb cb, .int .u64 p] w fun e w' => OwnD w w' e q r := by
  have H1 := mcheckDivisor_any p ao bo la ca lb cb f g w h hlb
  have H2 : Hid (∀ W, Below w.heap.size w W → Calls Tryd.prog 60 #[.int .u64 p, .slice ao la ca, .slice bo lb cb] W fun e w' => ∃ qo ql qc ro rl rc, e = .returned (.tuple #[.slice qo ql qc, .slice ro rl rc]) ∧ Own w.heap.size w' .u64 25 qo ql qc q ∧ Own w.heap.size w' .u64 25 ro rl rc r ∧ ql ≤ 4194304 ∧ rl ≤ 4194304 ∧ (∀ a b : Addr, qo = some a → ro = some b → a.block ≠ b.block) ∧ Below w.heap.size w w') := fun W hb => by
      refine (divide_two p ao bo la ca lb cb f g W h.1.1 (by have := h.1.2.1; omega) (h.2.1.later hb).1 (h.2.2.later hb).1 hlb h.2.2.2.1.can).mono fun e w' hd => ?_
      obtain ⟨qo, ql, qc, ro, rl, rc, q', r', he, hq, hr, hcan, hwq, hql, hpm, hlt, heq, hqc, hrc, hap, hbw⟩ := hd
      obtain ⟨rfl, rfl⟩ := hz.uniq h.1.1 h.2.2.2.1 ⟨⟨hwq, hcan h.2.1.2.1⟩, hpm, hlt, heq⟩
      exact ⟨qo, ql, qc, ro, rl, rc, he, hq.mono hb.size, hr.mono hb.size, Nat.le_trans hq.row.hcap hqc, Nat.le_trans hr.row.hcap hrc, hap, bnextM (B := 0) hb hbw⟩
  clear h hz
  go_enter Tryd.func31, Tryd.ntmps31
  go_wp2_with (first
    | (go_at_call 59; refine H1.mono ?_; rintro e w1 ⟨rfl, hb1⟩)
    | (go_at_call 60; refine (H2.out _ hb1).mono ?_; rintro e w2 ⟨qo, ql, qc, ro, rl, rc, rfl, h1, h2, h3, h4, h5, h6⟩))
  exact bodyPost_ret (v := .tuple #[.slice qo ql qc, .slice ro rl rc, .int .i64 0]) (by simp [results, Tryd.results31, go_sem]) rfl ⟨⟨qo, ql, qc, ro, rl, rc, rfl, h1, h2, h3, h4, h5⟩, h6⟩
end Go.Proofs.YtnniipekcbjloaaDoor
/-
  MN: ModPowers' walk.
-/
namespace Go.Proofs.YtnniipekcbjloaaDoor
open Go.RowKit Go.Shelf
set_option linter.unusedVariables false
set_option linter.unusedSimpArgs false
/-- the cells of the law's variable -/
theorem sixcells {w : World} {b : Nat} {v0 v1 v2 v3 v4 v5 : Value} (h : ∀ j v, [v0, v1, v2, v3, v4, v5][j]? = some v → w.cell? ⟨b, j, none⟩ = some v) :
    w.cell? ⟨b, 0, none⟩ = some v0 ∧ w.cell? ⟨b, 1, none⟩ = some v1 ∧ w.cell? ⟨b, 2, none⟩ = some v2 ∧ w.cell? ⟨b, 3, none⟩ = some v3 ∧ w.cell? ⟨b, 4, none⟩ = some v4 ∧ w.cell? ⟨b, 5, none⟩ = some v5 :=
  ⟨h 0 _ rfl, h 1 _ rfl, h 2 _ rfl, h 3 _ rfl, h 4 _ rfl, h 5 _ rfl⟩
theorem newcells (w : World) (b : Nat) (vs : List Value) (t : TypeId) (hb : b = w.heap.size) (w' : World) (h : Below (w.alloc (.cells vs.toArray t)).heap.size (w.alloc (.cells vs.toArray t)) w') : ∀ j v, vs[j]? = some v → w'.cell? ⟨b, j, none⟩ = some v := fun j v hj => by
  subst hb
  rw [h.cell (p := ⟨w.heap.size, j, none⟩) (by simp)]
  simpa [go_sem] using hj
theorem rows2 {w : World} {ao bo : Option Addr} {la ca lb cb : Nat} {x y : List Int} (hx : RowAt w .u64 ao la ca x ∧ Wd 18446744073709551616 x ∧ la ≤ 9223372036854775807) (hy : RowAt w .u64 bo lb cb y ∧ Wd 18446744073709551616 y ∧ lb ≤ 9223372036854775807) (t : TypeId) :
    RowsAt (w.alloc (.cells #[.slice ao la ca, .slice bo lb cb] t)) w.heap.size 2 (fun t => if t = 0 then ao else bo) (fun t => if t = 0 then la else lb) (fun t => if t = 0 then ca else cb) (fun t => if t = 0 then x else y) := by
  have hb : Below w.heap.size w (w.alloc (.cells #[.slice ao la ca, .slice bo lb cb] t)) := (Below.refl _ _).alloc (Nat.le_refl _) _
  constructor
  · intro t ht
    by_cases h : t = 0
    · subst h; simp [go_sem]
    · obtain rfl : t = 1 := by omega
      simp [go_sem]
  · intro t ht
    by_cases h : t = 0
    · subst h; exact hx.1.later hb
    · simp only [if_neg h]; exact hy.1.later hb
  · intro t ht
    by_cases h : t = 0
    · subst h; exact hx.2.1
    · simp only [if_neg h]; exact hy.2.1
  · intro t ht
    by_cases h : t = 0
    · subst h; exact hx.2.2
    · simp only [if_neg h]; exact hy.2.2
/-- what is left of a power, as the law holds it -/
def PowA (p : Int) (g : List Int) (w : World) (o : Option Addr) (l c : Nat) (r : List Int) (A : Int → Int) : Prop := GoodF p w o l c r ∧ r.length < g.length ∧ Md p g (fun x => ev r x) A
theorem PowA.later {p : Int} {g : List Int} {w w' : World} {o : Option Addr} {l c : Nat} {r : List Int} {A : Int → Int} (h : PowA p g w o l c r A) (hb : Below w.heap.size w w') : PowA p g w' o l c r A := ⟨h.1.later hb, h.2⟩
end Go.Proofs.YtnniipekcbjloaaDoor
