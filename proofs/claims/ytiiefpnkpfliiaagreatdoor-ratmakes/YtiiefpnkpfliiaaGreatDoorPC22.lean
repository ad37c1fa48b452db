/-
  A pack of walks and facts: SJ.
-/
import Derived.Test.YtiiefpnkpfliiaaGreatDoorPC06
import Derived.Test.YtiiefpnkpfliiaaGreatDoorPC21
import Derived.Deep.DeepCutAuto
import Derived.WalkMore
set_option maxRecDepth 100000
set_option maxHeartbeats 40000000
set_option linter.unusedVariables false
set_option linter.unusedSimpArgs false
namespace Go.Proofs.YtiiefpnkpfliiaaGreatDoor
open Go.RowKit
def put3 (W : World) (r : Nat) (v0 v1 v2 : Value) : World := ((W.setCell ⟨r, 0, none⟩ v0).setCell ⟨r, 1, none⟩ v1).setCell ⟨r, 2, none⟩ v2
theorem put3_off {w : World} {r b o : Nat} (h : b ≠ r) (v0 v1 v2 : Value) : (put3 w r v0 v1 v2).cell? ⟨b, o, none⟩ = w.cell? ⟨b, o, none⟩ := by
 unfold put3
 rw [cell_off h, cell_off h, cell_off h]
theorem put3_frozen {w : World} {r b o : Nat} (v0 v1 v2 : Value) : (put3 w r v0 v1 v2).frozen? ⟨b, o, none⟩ = w.frozen? ⟨b, o, none⟩ := by
 unfold put3
 rw [frozen_off, frozen_off, frozen_off]
theorem put3_sz {w : World} {r : Nat} (v0 v1 v2 : Value) : (put3 w r v0 v1 v2).heap.size = w.heap.size := by simp [put3, World.setCell]
theorem Boxed3.off {w : World} {r s : Nat} {n : Bool} {o p : Option Addr} {l c m d : Nat} (h : Boxed3 w r n o l c p m d) (hs : r ≠ s) (x y z : Value) : Boxed3 (put3 w s x y z) r n o l c p m d := ⟨(put3_off hs _ _ _).trans h.1, (put3_off hs _ _ _).trans h.2.1, (put3_off hs _ _ _).trans h.2.2⟩
theorem Boxed3.off8 {w : World} {r s : Nat} {n : Bool} {o p : Option Addr} {l c m d : Nat} (h : Boxed3 w r n o l c p m d) (hs : r ≠ s) (v0 v1 v2 v3 v4 v5 v6 v7 : Value) : Boxed3 (put8 w s v0 v1 v2 v3 v4 v5 v6 v7) r n o l c p m d := ⟨(put8_off hs _ _ _ _ _ _ _ _).trans h.1, (put8_off hs _ _ _ _ _ _ _ _).trans h.2.1, (put8_off hs _ _ _ _ _ _ _ _).trans h.2.2⟩
theorem Boxed.off8 {w : World} {r s : Nat} {n : Bool} {o : Option Addr} {l c : Nat} (h : Boxed w r n o l c) (hs : r ≠ s) (v0 v1 v2 v3 v4 v5 v6 v7 : Value) : Boxed (put8 w s v0 v1 v2 v3 v4 v5 v6 v7) r n o l c := ⟨(put8_off hs _ _ _ _ _ _ _ _).trans h.1, (put8_off hs _ _ _ _ _ _ _ _).trans h.2⟩
theorem Boxed8.off {w : World} {r s : Nat} {n0 n1 n2 n3 : Bool} {o0 o1 o2 o3 : Option Addr} {l0 c0 l1 c1 l2 c2 l3 c3 : Nat} (h : Boxed8 w r n0 n1 n2 n3 o0 o1 o2 o3 l0 c0 l1 c1 l2 c2 l3 c3) (hs : r ≠ s) (x y z : Value) : Boxed8 (put3 w s x y z) r n0 n1 n2 n3 o0 o1 o2 o3 l0 c0 l1 c1 l2 c2 l3 c3 := by
 obtain ⟨f0, f1, f2, f3, f4, f5, f6, f7⟩ := h
 exact ⟨(put3_off hs _ _ _).trans f0, (put3_off hs _ _ _).trans f1, (put3_off hs _ _ _).trans f2, (put3_off hs _ _ _).trans f3, (put3_off hs _ _ _).trans f4, (put3_off hs _ _ _).trans f5, (put3_off hs _ _ _).trans f6, (put3_off hs _ _ _).trans f7⟩
structure SFix (w wr : World) (rp : Nat) : Prop where
 fa : ∀ j, wr.frozen? ⟨w.heap.size, j, none⟩ = false
 fb : ∀ j, wr.frozen? ⟨(w.heap.size + 1), j, none⟩ = false
 fp : ∀ j, wr.frozen? ⟨rp, j, none⟩ = false
 fr : Fresh3 wr (w.heap.size + 1 + 1)
 hp : w.heap.size + 3 ≤ rp
 lt : rp < wr.heap.size
 bel : Below w.heap.size w wr
theorem SFix.later {w wr w' : World} {rp : Nat} (h : SFix w wr rp) (hb : Below wr.heap.size wr w') : SFix w w' rp :=
 have hp := h.hp; have lt := h.lt
 ⟨fun j => (hb.frozen (p := ⟨w.heap.size, j, none⟩) (by show w.heap.size < _; omega)).trans (h.fa j), fun j => (hb.frozen (p := ⟨(w.heap.size + 1), j, none⟩) (by show w.heap.size + 1 < _; omega)).trans (h.fb j), fun j => (hb.frozen (p := ⟨rp, j, none⟩) lt).trans (h.fp j), h.fr.later hb (by omega), hp, Nat.lt_of_lt_of_le lt hb.size, bnext h.bel hb⟩
theorem SFix.put8 {w wr : World} {rp : Nat} (h : SFix w wr rp) (v0 v1 v2 v3 v4 v5 v6 v7 : Value) : SFix w (put8 wr rp v0 v1 v2 v3 v4 v5 v6 v7) rp :=
 have hp := h.hp; have lt := h.lt
 ⟨fun j => (put8_frozen _ _ _ _ _ _ _ _).trans (h.fa j), fun j => (put8_frozen _ _ _ _ _ _ _ _).trans (h.fb j), fun j => (put8_frozen _ _ _ _ _ _ _ _).trans (h.fp j), ⟨fun j => (put8_frozen _ _ _ _ _ _ _ _).trans (h.fr.1 j), (put8_off (by omega) _ _ _ _ _ _ _ _).trans h.fr.2.1, (put8_off (by omega) _ _ _ _ _ _ _ _).trans h.fr.2.2.1, (put8_off (by omega) _ _ _ _ _ _ _ _).trans h.fr.2.2.2⟩, hp, by rw [put8_size]; exact lt, put8_below h.bel (by omega) _ _ _ _ _ _ _ _⟩
theorem SFix.put3 {w wr : World} {rp r : Nat} (h : SFix w wr rp) (hr : w.heap.size ≤ r) (hr' : r ≠ (w.heap.size + 1 + 1)) (v0 v1 v2 : Value) : SFix w (put3 wr r v0 v1 v2) rp :=
 have hp := h.hp; have lt := h.lt
 ⟨fun j => (put3_frozen _ _ _).trans (h.fa j), fun j => (put3_frozen _ _ _).trans (h.fb j), fun j => (put3_frozen _ _ _).trans (h.fp j), ⟨fun j => (put3_frozen _ _ _).trans (h.fr.1 j), (put3_off (Ne.symm hr') _ _ _).trans h.fr.2.1, (put3_off (Ne.symm hr') _ _ _).trans h.fr.2.2.1, (put3_off (Ne.symm hr') _ _ _).trans h.fr.2.2.2⟩, hp, by rw [put3_sz]; exact lt, below_store3 h.bel hr _ _ _⟩
def SimpSt (w wr : World) (rp M U V : Nat) : Prop :=
 ∃ (ao po bo qo : Option Addr) (la ca lp cp lb cb lq cq : Nat) (n0 n1 n2 n3 : Bool) (o0 o1 o2 o3 : Option Addr) (l0 c0 l1 c1 l2 c2 l3 c3 : Nat) (p q r s k u v A B C D : Nat),
  (Boxed3 wr w.heap.size false ao la ca po lp cp ∧ Boxed3 wr (w.heap.size + 1) false bo lb cb qo lq cq ∧ Boxed8 wr rp n0 n1 n2 n3 o0 o1 o2 o3 l0 c0 l1 c1 l2 c2 l3 c3) ∧
  ((RowAt wr .u64 ao la ca (mag p) ∧ RowAt wr .u64 po lp cp (mag q)) ∧ RowAt wr .u64 bo lb cb (mag r) ∧ RowAt wr .u64 qo lq cq (mag s)) ∧
  ((IntAt wr n0 o0 l0 c0 (A : Int) ∧ IntAt wr n1 o1 l1 c1 (B : Int)) ∧ IntAt wr n2 o2 l2 c2 (C : Int) ∧ IntAt wr n3 o3 l3 c3 (D : Int)) ∧
  (Simp k p q r s u v ∧ C * u + A * v = U ∧ D * u + B * v = V) ∧ (0 < p ∧ 0 < q ∧ 0 < s ∧ p * s ≤ r * q) ∧ (p ≤ M ∧ q ≤ M ∧ r ≤ M ∧ s ≤ M) ∧ SFix w wr rp
def NEnd (w wx : World) (rp U V : Nat) : Prop := ∃ n0 n1 n2 n3 o0 o1 o2 o3 l0 c0 l1 c1 l2 c2 l3 c3, Boxed8 wx rp n0 n1 n2 n3 o0 o1 o2 o3 l0 c0 l1 c1 l2 c2 l3 c3 ∧ (n2 = false ∧ Own (w.heap.size + 3) wx .u64 59 o2 l2 c2 (mag U)) ∧ Own (w.heap.size + 3) wx .u64 59 o3 l3 c3 (mag V) ∧ Parted o2 o3 ∧ SFix w wx rp
theorem Fresh8.new (w : World) : Fresh8 (w.alloc (.cells #[.bool false, .slice none 0 0, .bool false, .slice none 0 0, .bool false, .slice none 0 0, .bool false, .slice none 0 0] 108)) w.heap.size := ⟨fun j => by simp [go_sem], ⟨by simp [go_sem], by simp [go_sem], by simp [go_sem], by simp [go_sem], by simp [go_sem], by simp [go_sem], by simp [go_sem], by simp [go_sem]⟩⟩
theorem Fresh8.drew' {X : World} {r : Nat} (h : Fresh8 X r) : Fresh8 X.drew r := h
theorem Fresh8.next {W w2 : World} {r : Nat} (k : Fresh8 W r) (h : Below W.heap.size W w2) : Fresh8 w2 r := k.later h (cell_lt k.2.1)
theorem init_st {w W y : World} {M U V : Nat} {ao0 po0 bo0 qo0 : Option Addr} {la0 ca0 lp0 cp0 lb0 cb0 lq0 cq0 p0 q0 r0 s0 kk : Nat} {n0 n1 n2 n3 : Bool} {o0 o1 o2 o3 : Option Addr} {l0 c0 l1 c1 l2 c2 l3 c3 : Nat} {X : World} {rp : Nat} (HT : Hid (RTwo3 w W false false ao0 po0 bo0 qo0 la0 ca0 lp0 cp0 lb0 cb0 lq0 cq0)) (HX : Hid ((RowAt W .u64 ao0 la0 ca0 (mag p0) ∧ RowAt W .u64 po0 lp0 cp0 (mag q0)) ∧ RowAt W .u64 bo0 lb0 cb0 (mag r0) ∧ RowAt W .u64 qo0 lq0 cq0 (mag s0))) (HS0 : Hid (Simp kk p0 q0 r0 s0 U V ∧ (0 < p0 ∧ 0 < q0 ∧ 0 < s0 ∧ p0 * s0 ≤ r0 * q0) ∧ (p0 ≤ M ∧ q0 ≤ M ∧ r0 ≤ M ∧ s0 ≤ M))) (H4 : Hid (IntAt y n0 o0 l0 c0 ((0 : Nat) : Int) ∧ IntAt y n1 o1 l1 c1 ((1 : Nat) : Int) ∧ IntAt y n2 o2 l2 c2 ((1 : Nat) : Int) ∧ IntAt y n3 o3 l3 c3 ((0 : Nat) : Int))) (hb : Below W.heap.size W y) (hX : Below W.heap.size W X) (h8 : Boxed8 X rp n0 n1 n2 n3 o0 o1 o2 o3 l0 c0 l1 c1 l2 c2 l3 c3) (hf : ∀ j, X.frozen? ⟨rp, j, none⟩ = false) (hrp : W.heap.size ≤ rp) (hI : (IntAt X n0 o0 l0 c0 ((0 : Nat) : Int) ∧ IntAt X n1 o1 l1 c1 ((1 : Nat) : Int)) ∧ IntAt X n2 o2 l2 c2 ((1 : Nat) : Int) ∧ IntAt X n3 o3 l3 c3 ((0 : Nat) : Int)) : SimpSt w X rp M U V := by
 have hT := HT.out
 have hsz := hT.size
 have hsX := hX.size
 refine ⟨ao0, po0, bo0, qo0, la0, ca0, lp0, cp0, lb0, cb0, lq0, cq0, n0, n1, n2, n3, o0, o1, o2, o3, l0, c0, l1, c1, l2, c2, l3, c3, p0, q0, r0, s0, kk, U, V, 0, 1, 1, 0, ⟨hT.a.later hX (by omega), hT.b.later hX (by omega), h8⟩, ⟨⟨HX.out.1.1.later hX, HX.out.1.2.later hX⟩, HX.out.2.1.later hX, HX.out.2.2.later hX⟩, hI, ⟨HS0.out.1, by omega, by omega⟩, HS0.out.2.1, HS0.out.2.2, ?_⟩
 exact ⟨fun j => (hX.frozen (p := ⟨w.heap.size, j, none⟩) (by show w.heap.size < _; omega)).trans (by rw [hT.eq]; simp [go_sem]), fun j => (hX.frozen (p := ⟨(w.heap.size + 1), j, none⟩) (by show w.heap.size + 1 < _; omega)).trans (by rw [hT.eq]; simp [go_sem]), hf, hT.r.later hX (by omega), by omega, cell_lt h8.1, bnext hT.below hX⟩
theorem init_a {w W y : World} {M U V : Nat} {ao0 po0 bo0 qo0 : Option Addr} {la0 ca0 lp0 cp0 lb0 cb0 lq0 cq0 p0 q0 r0 s0 kk : Nat} {n0 n1 n2 n3 : Bool} {o0 o1 o2 o3 : Option Addr} {l0 c0 l1 c1 l2 c2 l3 c3 : Nat} (HT : Hid (RTwo3 w W false false ao0 po0 bo0 qo0 la0 ca0 lp0 cp0 lb0 cb0 lq0 cq0)) (HX : Hid ((RowAt W .u64 ao0 la0 ca0 (mag p0) ∧ RowAt W .u64 po0 lp0 cp0 (mag q0)) ∧ RowAt W .u64 bo0 lb0 cb0 (mag r0) ∧ RowAt W .u64 qo0 lq0 cq0 (mag s0))) (HS0 : Hid (Simp kk p0 q0 r0 s0 U V ∧ (0 < p0 ∧ 0 < q0 ∧ 0 < s0 ∧ p0 * s0 ≤ r0 * q0) ∧ (p0 ≤ M ∧ q0 ≤ M ∧ r0 ≤ M ∧ s0 ≤ M))) (H4 : Hid (IntAt y n0 o0 l0 c0 ((0 : Nat) : Int) ∧ IntAt y n1 o1 l1 c1 ((1 : Nat) : Int) ∧ IntAt y n2 o2 l2 c2 ((1 : Nat) : Int) ∧ IntAt y n3 o3 l3 c3 ((0 : Nat) : Int))) (hb : Below W.heap.size W y) : SimpSt w (y.alloc (.cells #[.bool n0, .slice o0 l0 c0, .bool n1, .slice o1 l1 c1, .bool n2, .slice o2 l2 c2, .bool n3, .slice o3 l3 c3] 108)) y.heap.size M U V := by
 have h5 : Below y.heap.size y (y.alloc (.cells #[.bool n0, .slice o0 l0 c0, .bool n1, .slice o1 l1 c1, .bool n2, .slice o2 l2 c2, .bool n3, .slice o3 l3 c3] 108)) := (Below.refl _ _).alloc (Nat.le_refl _) _
 exact init_st HT HX HS0 H4 hb (bnext hb h5) ⟨by simp [go_sem], by simp [go_sem], by simp [go_sem], by simp [go_sem], by simp [go_sem], by simp [go_sem], by simp [go_sem], by simp [go_sem]⟩ (fun j => by simp [go_sem]) hb.size ⟨⟨H4.out.1.later h5, H4.out.2.1.later h5⟩, H4.out.2.2.1.later h5, H4.out.2.2.2.later h5⟩
def TurnSt (w wx : World) (rp r7 r9 f g g' A B C D q s : Nat) (n2 n3 : Bool) (o2 o3 : Option Addr) (l2 c2 l3 c3 : Nat) (n7 n9 : Bool) (o7 o9 : Option Addr) (l7 c7 l9 c9 : Nat) (ao : Option Addr) (la ca : Nat) (po : Option Addr) (lp cp : Nat) (bo : Option Addr) (lb cb : Nat) (qo : Option Addr) (lq cq : Nat) : Prop := ∃ n4 n5 o4 o5 l4 c4 l5 c5, Boxed8 wx rp n2 n3 n4 n5 o2 o3 o4 o5 l2 c2 l3 c3 l4 c4 l5 c5 ∧
 ((IntAt wx n2 o2 l2 c2 (C : Int) ∧ IntAt wx n3 o3 l3 c3 (D : Int)) ∧ IntAt wx n4 o4 l4 c4 ((f : Int) * (C : Int) + (A : Int)) ∧ IntAt wx n5 o5 l5 c5 ((f : Int) * (D : Int) + (B : Int))) ∧
 (Boxed3 wx w.heap.size false ao la ca po lp cp ∧ Boxed3 wx (w.heap.size + 1) false bo lb cb qo lq cq) ∧ (Boxed wx r7 n7 o7 l7 c7 ∧ Boxed wx r9 n9 o9 l9 c9) ∧
 ((RowAt wx .u64 po lp cp (mag q) ∧ RowAt wx .u64 qo lq cq (mag s)) ∧ RowAt wx .u64 o7 l7 c7 (mag g) ∧ RowAt wx .u64 o9 l9 c9 (mag g')) ∧ SFix w wx rp
theorem turn_at {w Z y : World} {rp r7 r9 f g g' A B C D q s : Nat} {n2 n3 : Bool} {o2 o3 : Option Addr} {l2 c2 l3 c3 : Nat} {n7 n9 : Bool} {o7 o9 : Option Addr} {l7 c7 l9 c9 : Nat} {ao : Option Addr} {la ca : Nat} {po : Option Addr} {lp cp : Nat} {bo : Option Addr} {lb cb : Nat} {qo : Option Addr} {lq cq : Nat} {p r r6 r8 f' : Nat} {n0 n1 n4 n5 n6 n8 : Bool} {o0 o1 o4 o5 o6 o8 : Option Addr} {l0 c0 l1 c1 l4 c4 l5 c5 l6 c6 l8 c8 : Nat} (HFZ : Hid (SFix w Z rp)) (HW : Hid (IntAt y n4 o4 l4 c4 ((f : Int) * (C : Int) + (A : Int)) ∧ IntAt y n5 o5 l5 c5 ((f : Int) * (D : Int) + (B : Int)) ∧ Below Z.heap.size Z y)) (HBZ : Hid (Boxed3 Z w.heap.size false ao la ca po lp cp ∧ Boxed3 Z (w.heap.size + 1) false bo lb cb qo lq cq ∧ Boxed8 Z rp n0 n1 n2 n3 o0 o1 o2 o3 l0 c0 l1 c1 l2 c2 l3 c3)) (HNZ : Hid ((IntAt Z n0 o0 l0 c0 (A : Int) ∧ IntAt Z n1 o1 l1 c1 (B : Int)) ∧ IntAt Z n2 o2 l2 c2 (C : Int) ∧ IntAt Z n3 o3 l3 c3 (D : Int))) (HRZ : Hid ((RowAt Z .u64 ao la ca (mag p) ∧ RowAt Z .u64 po lp cp (mag q)) ∧ RowAt Z .u64 bo lb cb (mag r) ∧ RowAt Z .u64 qo lq cq (mag s))) (HV : Hid (Boxed Z r6 n6 o6 l6 c6 ∧ Boxed Z r7 n7 o7 l7 c7 ∧ Boxed Z r8 n8 o8 l8 c8 ∧ Boxed Z r9 n9 o9 l9 c9)) (HI : Hid ((IntAt Z n6 o6 l6 c6 (f : Int) ∧ IntAt Z n7 o7 l7 c7 (g : Int)) ∧ IntAt Z n8 o8 l8 c8 (f' : Int) ∧ IntAt Z n9 o9 l9 c9 (g' : Int))) (ne7 : r7 ≠ rp) (ne9 : r9 ≠ rp) :
  TurnSt w (put8 y rp (.bool n2) (.slice o2 l2 c2) (.bool n3) (.slice o3 l3 c3) (.bool n4) (.slice o4 l4 c4) (.bool n5) (.slice o5 l5 c5)) rp r7 r9 f g g' A B C D q s n2 n3 o2 o3 l2 c2 l3 c3 n7 n9 o7 o9 l7 c7 l9 c9 ao la ca po lp cp bo lb cb qo lq cq := by
 have hb := HW.out.2.2
 have hp := HFZ.out.hp
 have lt := HFZ.out.lt
 have h8 := HBZ.out.2.2.later hb lt
 have i7 := HI.out.1.2.row.later hb
 have i9 := HI.out.2.2.row.later hb
 rw [Int.natAbs_natCast] at i7 i9
 refine ⟨n4, n5, o4, o5, l4, c4, l5, c5, h8.put, ⟨⟨⟨HNZ.out.2.1.sg, (HNZ.out.2.1.row.later hb).put8 h8 _ _ _ _ _ _ _ _⟩, ⟨HNZ.out.2.2.sg, (HNZ.out.2.2.row.later hb).put8 h8 _ _ _ _ _ _ _ _⟩⟩, ⟨HW.out.1.sg, HW.out.1.row.put8 h8 _ _ _ _ _ _ _ _⟩, ⟨HW.out.2.1.sg, HW.out.2.1.row.put8 h8 _ _ _ _ _ _ _ _⟩⟩, ⟨(HBZ.out.1.later hb (by omega)).off8 (by omega) _ _ _ _ _ _ _ _, (HBZ.out.2.1.later hb (by omega)).off8 (by omega) _ _ _ _ _ _ _ _⟩, ⟨(HV.out.2.1.later hb (cell_lt HV.out.2.1.1)).off8 ne7 _ _ _ _ _ _ _ _, (HV.out.2.2.2.later hb (cell_lt HV.out.2.2.2.1)).off8 ne9 _ _ _ _ _ _ _ _⟩, ⟨⟨(HRZ.out.1.2.later hb).put8 h8 _ _ _ _ _ _ _ _, (HRZ.out.2.2.later hb).put8 h8 _ _ _ _ _ _ _ _⟩, i7.put8 h8 _ _ _ _ _ _ _ _, i9.put8 h8 _ _ _ _ _ _ _ _⟩, (HFZ.out.later hb).put8 _ _ _ _ _ _ _ _⟩
theorem nat_sg (n : Nat) : sgB (n : Int) = false := by simp [sgB]
theorem turn_sum {f C A u v U : Nat} (h : C * (f * u + v) + A * u = U) : (f * C + A) * u + C * v = U := by
 rw [← h, Nat.mul_add, Nat.add_mul, Nat.mul_comm f C, Nat.mul_assoc]; omega
theorem node_end {w Z y : World} {rp U V C A D B f : Nat} {n0 n1 n2 n3 n4 n5 m0 m1 : Bool} {o0 o1 o2 o3 o4 o5 p0 p1 : Option Addr} {l0 c0 l1 c1 l2 c2 l3 c3 l4 c4 l5 c5 k0 d0 k1 d1 : Nat} (hf : SFix w Z rp) (hb : Below Z.heap.size Z y) (hB : Boxed8 Z rp n0 n1 n2 n3 o0 o1 o2 o3 l0 c0 l1 c1 l2 c2 l3 c3) (h4 : n4 = sgB ((f : Int) * (C : Int) + (A : Int)) ∧ Own Z.heap.size y .u64 59 o4 l4 c4 (mag ((f : Int) * (C : Int) + (A : Int)).natAbs)) (h5 : Own Z.heap.size y .u64 59 o5 l5 c5 (mag ((f : Int) * (D : Int) + (B : Int)).natAbs)) (hp : Parted o4 o5) (e1 : f * C + A = U) (e2 : f * D + B = V) :
  NEnd w (put8 y rp (.bool m0) (.slice p0 k0 d0) (.bool m1) (.slice p1 k1 d1) (.bool n4) (.slice o4 l4 c4) (.bool n5) (.slice o5 l5 c5)) rp U V := by
 have a1 : (f : Int) * (C : Int) + (A : Int) = ((U : Nat) : Int) := by rw [← e1, Int.natCast_add, Int.natCast_mul]
 have a2 : (f : Int) * (D : Int) + (B : Int) = ((V : Nat) : Int) := by rw [← e2, Int.natCast_add, Int.natCast_mul]
 rw [a1, Int.natAbs_natCast] at h4
 rw [a2, Int.natAbs_natCast] at h5
 have hq := hf.hp
 have ht := hf.lt
 exact ⟨_, _, _, _, _, _, _, _, _, _, _, _, _, _, _, _, (hB.later hb hf.lt).put, ⟨h4.1.trans (nat_sg _), (put8_own h4.2 (by omega) _ _ _ _ _ _ _ _).mono (by omega)⟩, (put8_own h5 (by omega) _ _ _ _ _ _ _ _).mono (by omega), hp, (hf.later hb).put8 _ _ _ _ _ _ _ _⟩
theorem simplest_any (ao0 po0 bo0 qo0 : Option Addr) (la0 ca0 lp0 cp0 lb0 cb0 lq0 cq0 p0 q0 r0 s0 kk U V M : Nat) (w : World) (hS0 : Simp kk p0 q0 r0 s0 U V) (h1 : RowAt w .u64 ao0 la0 ca0 (mag p0)) (h2 : RowAt w .u64 po0 lp0 cp0 (mag q0)) (h3 : RowAt w .u64 bo0 lb0 cb0 (mag r0)) (h4 : RowAt w .u64 qo0 lq0 cq0 (mag s0)) (hp : 0 < p0) (hq : 0 < q0) (hs : 0 < s0) (hle : p0 * s0 ≤ r0 * q0) (hM : p0 ≤ M ∧ q0 ≤ M ∧ r0 ≤ M ∧ s0 ≤ M) (hML : (mag M).length ≤ 100) :
  Calls Tryz.prog 87 #[.agg #[.bool false, .slice ao0 la0 ca0, .slice po0 lp0 cp0], .agg #[.bool false, .slice bo0 lb0 cb0, .slice qo0 lq0 cq0]] w fun e w' => ∃ o l c o' l' c', e = .returned (.agg #[.bool false, .slice o l c, .slice o' l' c']) ∧ Own w.heap.size w' .u64 59 o l c (mag U) ∧ Own w.heap.size w' .u64 59 o' l' c' (mag V) ∧ Parted o o' ∧ Below w.heap.size w w' := by
 obtain ⟨W, hT⟩ := RTwo3.mk' w false false ao0 po0 bo0 qo0 la0 ca0 lp0 cp0 lb0 cb0 lq0 cq0
 have hsz := hT.size
 have hUV := hS0.size hq hs hle
 have HUV : Hid (U ≤ M ∧ V ≤ M) := ⟨by omega, by omega⟩
 have HX : Hid ((RowAt W .u64 ao0 la0 ca0 (mag p0) ∧ RowAt W .u64 po0 lp0 cp0 (mag q0)) ∧ RowAt W .u64 bo0 lb0 cb0 (mag r0) ∧ RowAt W .u64 qo0 lq0 cq0 (mag s0)) := ⟨⟨h1.later hT.below, h2.later hT.below⟩, h3.later hT.below, h4.later hT.below⟩
 have HS0 : Hid (Simp kk p0 q0 r0 s0 U V ∧ (0 < p0 ∧ 0 < q0 ∧ 0 < s0 ∧ p0 * s0 ≤ r0 * q0) ∧ (p0 ≤ M ∧ q0 ≤ M ∧ r0 ≤ M ∧ s0 ≤ M)) := ⟨hS0, ⟨hp, hq, hs, hle⟩, hM⟩
 have HML : Hid (∀ n, n ≤ M → (mag n).length ≤ 100) := fun n h => Nat.le_trans (mag_len_mono h) hML
 clear h1 h2 h3 h4 hp hq hs hle hM hUV hS0 hML
 obtain ⟨numAt, HNUM⟩ := numAt_is
 go_enter Tryz.func87, Tryz.ntmps87
 have KT : Hid (∀ w' : World, Below W.heap.size W w' → Hid True) := fun _ _ => trivial
 go_wp2
 go_step3
 go_upto_region 1 with fail
 rw [← hT.eq]
 go_cut [5] (fun s5 wx => ∃ rp, s5 = .pointer (some ⟨rp, 0, none⟩) ∧ SimpSt w wx rp M U V)
 case first =>
  have HTT : Hid (RTwo3 w W false false ao0 po0 bo0 qo0 la0 ca0 lp0 cp0 lb0 cb0 lq0 cq0) := hT
  clear hT
  go_wp2_with (first
   | (go_at_call 77; have _t := H3; refine (from_any 0 _ (by decide) (by decide)).mono ?_; rintro e y4 ⟨n3, o3, l3, c3, rfl, hs, ho, hb⟩; have H4 : Hid (IntAt y4 n0 o0 l0 c0 ((0 : Nat) : Int) ∧ IntAt y4 n1 o1 l1 c1 ((1 : Nat) : Int) ∧ IntAt y4 n2 o2 l2 c2 ((1 : Nat) : Int) ∧ IntAt y4 n3 o3 l3 c3 ((0 : Nat) : Int)) := ⟨H3.out.1.later hb, H3.out.2.1.later hb, H3.out.2.2.1.later hb, ho.int hs⟩; have HB4 : Hid (Below W.heap.size W y4) := bnext H3.out.2.2.2 hb; clear hs ho hb)
   | (go_at_call 77; have _t := H2; refine (from_any 1 _ (by decide) (by decide)).mono ?_; rintro e y3 ⟨n2, o2, l2, c2, rfl, hs, ho, hb⟩; have H3 : Hid (IntAt y3 n0 o0 l0 c0 ((0 : Nat) : Int) ∧ IntAt y3 n1 o1 l1 c1 ((1 : Nat) : Int) ∧ IntAt y3 n2 o2 l2 c2 ((1 : Nat) : Int) ∧ Below W.heap.size W y3) := ⟨H2.out.1.later hb, H2.out.2.1.later hb, ho.int hs, bnext H2.out.2.2 hb⟩; clear hs ho hb)
   | (go_at_call 77; have _t := H1; refine (from_any 1 _ (by decide) (by decide)).mono ?_; rintro e y2 ⟨n1, o1, l1, c1, rfl, hs, ho, hb⟩; have H2 : Hid (IntAt y2 n0 o0 l0 c0 ((0 : Nat) : Int) ∧ IntAt y2 n1 o1 l1 c1 ((1 : Nat) : Int) ∧ Below W.heap.size W y2) := ⟨H1.out.1.later hb, ho.int hs, bnext H1.out.2 hb⟩; clear hs ho hb)
   | (go_at_call 77; refine (from_any 0 _ (by decide) (by decide)).mono ?_; rintro e y1 ⟨n0, o0, l0, c0, rfl, hs, ho, hb⟩; have H1 : Hid (IntAt y1 n0 o0 l0 c0 ((0 : Nat) : Int) ∧ Below W.heap.size W y1) := ⟨ho.int hs, hb⟩; clear hs ho hb))
  go_meet
  exact ⟨_, rfl, init_a HTT HX HS0 H4 HB4.out⟩
 case rest =>
 obtain ⟨rp, rfl, hst⟩ := hcut
 have HZ : Hid (SimpSt w wc rp M U V) := hst
 obtain ⟨Z0, hZ0⟩ : ∃ Z, Z = wc := ⟨_, rfl⟩
 rw [← hZ0] at HZ
 rw [← hZ0]
 clear hZ0 hst HX HS0 hT hsz KT
 go_wp2
 go_step3
 go_wp2
 go_loopw [17] (fun _ wr => SimpSt w wr rp M U V) (fun _ wr => numAt ((wr.cell? ⟨w.heap.size, 2, none⟩).getD (.bool false)) wr + numAt ((wr.cell? ⟨(w.heap.size + 1), 2, none⟩).getD (.bool false)) wr)
 case atStart => exact HZ.out
 case round =>
  obtain ⟨ao, po, bo, qo, la, ca, lp, cp, lb, cb, lq, cq, n0, n1, n2, n3, o0, o1, o2, o3, l0, c0, l1, c1, l2, c2, l3, c3, p, q, r, s, k, u, v, A, B, C, D, hbx, hrows, hints, hsimp, hpos, hmax, hfix⟩ := hrel
  have HB : Hid (Boxed3 wr w.heap.size false ao la ca po lp cp ∧ Boxed3 wr (w.heap.size + 1) false bo lb cb qo lq cq ∧ Boxed8 wr rp n0 n1 n2 n3 o0 o1 o2 o3 l0 c0 l1 c1 l2 c2 l3 c3) := hbx
  have HR : Hid ((RowAt wr .u64 ao la ca (mag p) ∧ RowAt wr .u64 po lp cp (mag q)) ∧ RowAt wr .u64 bo lb cb (mag r) ∧ RowAt wr .u64 qo lq cq (mag s)) := hrows
  have HN : Hid ((IntAt wr n0 o0 l0 c0 (A : Int) ∧ IntAt wr n1 o1 l1 c1 (B : Int)) ∧ IntAt wr n2 o2 l2 c2 (C : Int) ∧ IntAt wr n3 o3 l3 c3 (D : Int)) := hints
  have HS : Hid (Simp k p q r s u v ∧ C * u + A * v = U ∧ D * u + B * v = V) := hsimp
  have HP : Hid ((0 < p ∧ 0 < q ∧ 0 < s ∧ p * s ≤ r * q) ∧ p ≤ M ∧ q ≤ M ∧ r ≤ M ∧ s ≤ M) := ⟨hpos, hmax⟩
  have HF : Hid (SFix w wr rp) := hfix
  have hq0 : 0 < q := hpos.2.1
  have hs0 : 0 < s := hpos.2.2.1
  have hla : la ≤ 100 := by rw [hrows.1.1.hlen]; exact HML.out _ hmax.1
  have hlp : lp ≤ 100 := by rw [hrows.1.2.hlen]; exact HML.out _ hmax.2.1
  have hlb : lb ≤ 100 := by rw [hrows.2.1.hlen]; exact HML.out _ hmax.2.2.1
  have hlq : lq ≤ 100 := by rw [hrows.2.2.hlen]; exact HML.out _ hmax.2.2.2
  obtain ⟨hu0, hv0⟩ := hsimp.1.pos hpos.1 hpos.2.2.1
  have hCU : C ≤ U ∧ A ≤ U ∧ D ≤ V ∧ B ≤ V := by
   have e1 := Nat.le_mul_of_pos_right C hu0
   have e2 := Nat.le_mul_of_pos_right A hv0
   have e3 := Nat.le_mul_of_pos_right D hu0
   have e4 := Nat.le_mul_of_pos_right B hv0
   have := hsimp.2.1; have := hsimp.2.2
   omega
  have hl0 : l0 ≤ 100 := by rw [hints.1.1.row.hlen, Int.natAbs_natCast]; exact HML.out _ (Nat.le_trans hCU.2.1 HUV.out.1)
  have hl1 : l1 ≤ 100 := by rw [hints.1.2.row.hlen, Int.natAbs_natCast]; exact HML.out _ (Nat.le_trans hCU.2.2.2 HUV.out.2)
  have hl2 : l2 ≤ 100 := by rw [hints.2.1.row.hlen, Int.natAbs_natCast]; exact HML.out _ (Nat.le_trans hCU.1 HUV.out.1)
  have hl3 : l3 ≤ 100 := by rw [hints.2.2.row.hlen, Int.natAbs_natCast]; exact HML.out _ (Nat.le_trans hCU.2.2.1 HUV.out.2)
  have hrp := hfix.hp
  have hlt := hfix.lt
  obtain ⟨f, hf⟩ : ∃ f, p / q = f := ⟨_, rfl⟩
  obtain ⟨g, hg⟩ : ∃ g, p % q = g := ⟨_, rfl⟩
  obtain ⟨f', hf'⟩ : ∃ f, r / s = f := ⟨_, rfl⟩
  obtain ⟨g', hg'⟩ : ∃ g, r % s = g := ⟨_, rfl⟩
  have HQ : Hid (p / q = f ∧ p % q = g ∧ r / s = f' ∧ r % s = g') := ⟨hf, hg, hf', hg'⟩
  have hgl : (mag g).length ≤ 100 ∧ (mag g').length ≤ 100 ∧ (mag f).length ≤ 100 ∧ (mag f').length ≤ 100 := ⟨HML.out _ (by have := Nat.mod_lt p hq0; omega), HML.out _ (by have := Nat.mod_lt r hs0; omega), HML.out _ (by have := Nat.div_le_self p q; omega), HML.out _ (by have := Nat.div_le_self r s; omega)⟩
  have HGL : Hid ((mag g).length ≤ 100 ∧ (mag g').length ≤ 100 ∧ (mag f).length ≤ 100 ∧ (mag f').length ≤ 100) := hgl
  clear hbx hrows hints hsimp hpos hmax hfix hCU hu0 hv0 hf hg hf' hg' hgl HZ
  go_upto_region 2 with fail
  go_cut [6, 7] (fun s6 s7 wx => ∃ r6 r7, s6 = .pointer (some ⟨r6, 0, none⟩) ∧ s7 = .pointer (some ⟨r7, 0, none⟩) ∧ TwoV wr wx r6 r7 (f : Int) (g : Int))
  case first =>
   obtain ⟨g0, g1, g2⟩ := HB.out.1
   go_wp2_with (go_at_call 59; refine (floor_nat ao po la ca lp cp p q _ HR.out.1.1 HR.out.1.2 hq0 (by omega) (by omega)).mono ?_; rintro e y ⟨n6, o6, l6, c6, n7, o7, l7, c7, rfl, hi6, hi7, hb⟩; rw [HQ.out.1] at hi6; rw [HQ.out.2.1] at hi7; have HY : Hid (IntAt y n6 o6 l6 c6 (f : Int) ∧ IntAt y n7 o7 l7 c7 (g : Int)) := ⟨hi6, hi7⟩; clear hi6 hi7)
   go_meet
   exact ⟨_, _, rfl, rfl, tv_a HY hb⟩
  case rest =>
   obtain ⟨r6, r7, rfl, rfl, n6, o6, l6, c6, n7, o7, l7, c7, b6, b7, ⟨⟨lt6, lt7⟩, ge6, ge7⟩, i6, i7, hbZ⟩ := hcut
   obtain ⟨Z1, hZ1⟩ : ∃ Z, Z = wc := ⟨_, rfl⟩
   rw [← hZ1] at b6 b7 lt6 lt7 i6 i7 hbZ
   rw [← hZ1]
   clear hZ1
   have H67 : Hid ((Boxed Z1 r6 n6 o6 l6 c6 ∧ Boxed Z1 r7 n7 o7 l7 c7) ∧ (IntAt Z1 n6 o6 l6 c6 (f : Int) ∧ IntAt Z1 n7 o7 l7 c7 (g : Int)) ∧ Below wr.heap.size wr Z1) := ⟨⟨b6, b7⟩, ⟨i6, i7⟩, hbZ⟩
   have hz1 := hbZ.size
   clear b6 b7 i6 i7 hbZ
   go_upto_region 3 with fail
   go_cut [8, 9] (fun s8 s9 wx => ∃ r8 r9, s8 = .pointer (some ⟨r8, 0, none⟩) ∧ s9 = .pointer (some ⟨r9, 0, none⟩) ∧ TwoV Z1 wx r8 r9 (f' : Int) (g' : Int))
   case first =>
    obtain ⟨g0, g1, g2⟩ := HB.out.2.1.later H67.out.2.2 (by omega)
    go_wp2_with (go_at_call 59; refine (floor_nat bo qo lb cb lq cq r s _ (HR.out.2.1.later H67.out.2.2) (HR.out.2.2.later H67.out.2.2) hs0 (by omega) (by omega)).mono ?_; rintro e y ⟨n8, o8, l8, c8, n9, o9, l9, c9, rfl, hi6, hi7, hb⟩; rw [HQ.out.2.2.1] at hi6; rw [HQ.out.2.2.2] at hi7; have HY : Hid (IntAt y n8 o8 l8 c8 (f' : Int) ∧ IntAt y n9 o9 l9 c9 (g' : Int)) := ⟨hi6, hi7⟩; clear hi6 hi7)
    go_meet
    exact ⟨_, _, rfl, rfl, tv_a HY hb⟩
   case rest =>
    obtain ⟨r8, r9, rfl, rfl, n8, o8, l8, c8, n9, o9, l9, c9, b8, b9, ⟨⟨lt8, lt9⟩, ge8, ge9⟩, i8, i9, hbZ⟩ := hcut
    obtain ⟨Z, hZ⟩ : ∃ Z, Z = wc := ⟨_, rfl⟩
    rw [← hZ] at b8 b9 lt8 lt9 i8 i9 hbZ
    rw [← hZ]
    clear hZ
    have hbW := bnext H67.out.2.2 hbZ
    have HV : Hid (Boxed Z r6 n6 o6 l6 c6 ∧ Boxed Z r7 n7 o7 l7 c7 ∧ Boxed Z r8 n8 o8 l8 c8 ∧ Boxed Z r9 n9 o9 l9 c9) := ⟨H67.out.1.1.later hbZ lt6, H67.out.1.2.later hbZ lt7, b8, b9⟩
    have HI : Hid ((IntAt Z n6 o6 l6 c6 (f : Int) ∧ IntAt Z n7 o7 l7 c7 (g : Int)) ∧ IntAt Z n8 o8 l8 c8 (f' : Int) ∧ IntAt Z n9 o9 l9 c9 (g' : Int)) := ⟨⟨H67.out.2.1.1.later hbZ, H67.out.2.1.2.later hbZ⟩, i8, i9⟩
    have HBZ : Hid (Boxed3 Z w.heap.size false ao la ca po lp cp ∧ Boxed3 Z (w.heap.size + 1) false bo lb cb qo lq cq ∧ Boxed8 Z rp n0 n1 n2 n3 o0 o1 o2 o3 l0 c0 l1 c1 l2 c2 l3 c3) := ⟨HB.out.1.later hbW (by omega), HB.out.2.1.later hbW (by omega), HB.out.2.2.later hbW hlt⟩
    have HRZ : Hid ((RowAt Z .u64 ao la ca (mag p) ∧ RowAt Z .u64 po lp cp (mag q)) ∧ RowAt Z .u64 bo lb cb (mag r) ∧ RowAt Z .u64 qo lq cq (mag s)) := ⟨⟨HR.out.1.1.later hbW, HR.out.1.2.later hbW⟩, HR.out.2.1.later hbW, HR.out.2.2.later hbW⟩
    have HNZ : Hid ((IntAt Z n0 o0 l0 c0 (A : Int) ∧ IntAt Z n1 o1 l1 c1 (B : Int)) ∧ IntAt Z n2 o2 l2 c2 (C : Int) ∧ IntAt Z n3 o3 l3 c3 (D : Int)) := ⟨⟨HN.out.1.1.later hbW, HN.out.1.2.later hbW⟩, HN.out.2.1.later hbW, HN.out.2.2.later hbW⟩
    have HFZ : Hid (SFix w Z rp) := HF.out.later hbW
    have HMU : Hid (numAt ((wr.cell? ⟨w.heap.size, 2, none⟩).getD (.bool false)) wr + numAt ((wr.cell? ⟨(w.heap.size + 1), 2, none⟩).getD (.bool false)) wr = q + s) := by
     show _ = _
     rw [HB.out.1.2.2, HB.out.2.1.2.2]
     show numAt (.slice po lp cp) wr + numAt (.slice qo lq cq) wr = q + s
     rw [HNUM.out _ _ _ _ _ HR.out.1.2, HNUM.out _ _ _ _ _ HR.out.2.2]
    have hl6 : l6 ≤ 100 := by rw [HI.out.1.1.row.hlen, Int.natAbs_natCast]; exact HGL.out.2.2.1
    have hl7 : l7 = (mag g).length := by rw [HI.out.1.2.row.hlen, Int.natAbs_natCast]
    have hl8 : l8 ≤ 100 := by rw [HI.out.2.1.row.hlen, Int.natAbs_natCast]; exact HGL.out.2.2.2
    have HL7 : Hid (l7 = (mag g).length) := hl7
    have hz2 := hbZ.size
    have hltZ : rp < Z.heap.size := by omega
    clear hl7 b8 b9 i8 i9 hbZ hbW HB HR HN HF H67
    by_cases hg0 : g = 0
    ·
     have HG : Hid (g = 0) := hg0
     have h70 : ((l7 : Int) == 0) = true := by rw [HL7.out, hg0]; rfl
     clear hg0
     have HE : Hid (f * C + A = U ∧ f * D + B = V) := by
      obtain ⟨hS, hU, hV⟩ := HS.out
      have e1 := HQ.out.1
      have e2 := HQ.out.2.1.trans HG.out
      obtain ⟨hu9, hv9⟩ := hS.wholes e2
      rw [hu9, hv9, e1, Nat.mul_one, Nat.mul_comm] at hU hV
      exact ⟨hU, hV⟩
     obtain ⟨x0, x1⟩ := HV.out.2.1
     go_upto_region 5 with fail
     clear h70 x0 x1
     go_cut [34] (fun s34 wx => NEnd w wx rp U V)
     case first =>
      obtain ⟨x0, x1⟩ := HV.out.1
      obtain ⟨d0, d1, d2, d3, d4, d5, d6, d7⟩ := HBZ.out.2.2
      go_wp2_with (go_at_call 121; refine (down_any n0 n1 n2 n3 n6 o0 o1 o2 o3 o6 l0 c0 l1 c1 l2 c2 l3 c3 l6 c6 (A : Int) (B : Int) (C : Int) (D : Int) (f : Int) _ HNZ.out.1.1 HNZ.out.1.2 HNZ.out.2.1 HNZ.out.2.2 HI.out.1.1 (by omega) (by omega) (by omega) (by omega) (by omega)).mono ?_; rintro e y ⟨n4, n5, o4, o5, l4, c4, l5, c5, rfl, h4, h5, hpt, hb⟩; have HY : Hid ((n4 = sgB ((f : Int) * (C : Int) + (A : Int)) ∧ Own Z.heap.size y .u64 59 o4 l4 c4 (mag ((f : Int) * (C : Int) + (A : Int)).natAbs)) ∧ Own Z.heap.size y .u64 59 o5 l5 c5 (mag ((f : Int) * (D : Int) + (B : Int)).natAbs) ∧ Parted o4 o5 ∧ Below Z.heap.size Z y) := ⟨h4, h5.2, hpt, hb⟩; clear h4 h5 hpt x0 x1 d0 d1 d2 d3 d4 d5 d6 d7; obtain ⟨d0, d1, d2, d3, d4, d5, d6, d7⟩ := HBZ.out.2.2.later hb hltZ; have e9 := (HFZ.out.later hb).fp; clear hb)
      go_meet
      exact node_end HFZ.out HY.out.2.2.2 HBZ.out.2.2 HY.out.1 HY.out.2.1 HY.out.2.2.1 HE.out.1 HE.out.2
     case rest =>
      obtain ⟨m0, m1, m2, m3, p4, p1, p2, p3, k4, d0, k1, d1, k2, d2, k3, d3, ⟨f0, f1, f2, f3, f4, f5, f6, f7⟩, ⟨rfl, hO2⟩, hO3, hpt, hfx⟩ := hcut
      have HO : Hid (Own (w.heap.size + 3) wc .u64 59 p2 k2 d2 (mag U) ∧ Own (w.heap.size + 3) wc .u64 59 p3 k3 d3 (mag V) ∧ Parted p2 p3 ∧ Below w.heap.size w wc) := ⟨hO2, hO3, hpt, hfx.bel⟩
      obtain ⟨g5, g2, g3, g4⟩ := hfx.fr
      have hrw := hfx.hp
      clear hO2 hO3 hpt hfx
      go_wp2
      rw [Exit.noGoto_ret]
      exact bodyPost_ret (v := .agg #[.bool false, .slice p2 k2 d2, .slice p3 k3 d3]) (by simp [results, Tryz.results87, go_sem, g2, g3, g4]) rfl ⟨_, _, _, _, _, _, rfl, (HO.out.1.store3 (by omega) _ _ _).mono (by omega), (HO.out.2.1.store3 (by omega) _ _ _).mono (by omega), HO.out.2.2.1, below_store3 HO.out.2.2.2 (by omega) _ _ _⟩
    ·
     have HG : Hid (g ≠ 0) := hg0
     have h70 : ((l7 : Int) == 0) = false := by
      have h1 : 0 < (mag g).length := mag_len_pos.2 (by omega)
      rw [HL7.out]; simp; intro e; rw [e] at h1; exact absurd h1 (by decide)
     clear hg0
     by_cases hff : f < f'
     ·
      have HC : Hid (cmpI (f : Int) (f' : Int) = -1) := by show _ = _; unfold cmpI; rw [if_pos (by omega)]
      have HE : Hid ((f + 1) * C + A = U ∧ (f + 1) * D + B = V) := by
       obtain ⟨hS, hU, hV⟩ := HS.out
       have e1 := HQ.out.1
       have e2 := HQ.out.2.1
       have e3 := HQ.out.2.2.1
       obtain ⟨hu9, hv9⟩ := hS.nexts (fun h => HG.out (e2.symm.trans h)) (by omega)
       rw [hu9, hv9, e1, Nat.mul_one, Nat.mul_comm] at hU hV
       exact ⟨hU, hV⟩
      clear hff
      obtain ⟨x0, x1⟩ := HV.out.2.1
      obtain ⟨y0, y1⟩ := HV.out.1
      obtain ⟨u0, u1⟩ := HV.out.2.2.1
      go_upto_region 7 with (go_at_call 107; refine (bcmp_any n6 n8 o6 o8 l6 c6 l8 c8 _ _ _ HI.out.1.1 HI.out.2.1 (by omega) (by omega) (-1) HC.out).mono ?_; rintro e y ⟨rfl, hb⟩; have HY : Hid (Below Z.heap.size Z y) := hb; clear hb)
      clear h70 x0 x1 y0 y1 u0 u1
      obtain ⟨Y, hY⟩ : ∃ Y, Y = y := ⟨_, rfl⟩
      subst hY
      go_cut [44] (fun s44 wx => NEnd w wx rp U V)
      case first =>
       have KS : Hid (∀ w' : World, Below Y.heap.size Y w' → w'.cell? ⟨r6, 0, none⟩ = some (.bool n6) ∧ w'.cell? ⟨r6, 1, none⟩ = some (.slice o6 l6 c6)) := fun w' h => HV.out.1.later (bnext HY.out h) (by omega)
       have KP : Hid (∀ X : World, Below Y.heap.size Y X → ∀ v0 v1 v2 v3 v4 v5 v6 v7, (fun w' : World => w'.cell? ⟨r6, 0, none⟩ = some (.bool n6) ∧ w'.cell? ⟨r6, 1, none⟩ = some (.slice o6 l6 c6)) (put8 X rp v0 v1 v2 v3 v4 v5 v6 v7)) := fun X h v0 v1 v2 v3 v4 v5 v6 v7 => Boxed.off8 (w := X) (r := r6) (n := n6) (o := o6) (l := l6) (c := c6) (KS.out X h) (by omega) v0 v1 v2 v3 v4 v5 v6 v7
       have KB : Hid (∀ w' : World, Below Y.heap.size Y w' → Boxed8 w' rp n0 n1 n2 n3 o0 o1 o2 o3 l0 c0 l1 c1 l2 c2 l3 c3 ∧ (∀ j, w'.frozen? ⟨rp, j, none⟩ = false)) := fun w' h => ⟨HBZ.out.2.2.later (bnext HY.out h) hltZ, (HFZ.out.later (bnext HY.out h)).fp⟩
       have hyZ := HY.out.size
       refine wp_region_noPanic ?_
       refine wp_region_held_drew (S := fun w' => (w'.cell? ⟨r6, 0, none⟩ = some (.bool n6) ∧ w'.cell? ⟨r6, 1, none⟩ = some (.slice o6 l6 c6))) (by kernel_rfl) (by (try dsimp only); exact KS.out _ (Below.refl _ _).drew) (fun hHeld => ?_)
       refine wpAnyH_take (i := 1) (oi := Oper.mk (some 41) _ _ _ _ _) (v := ?_) rfl (by kernel_rfl) (by kernel_rfl) (by kernel_rfl) (fun _ _ _ h => h) (Or.inl ⟨by rfl, ?_⟩) (by assumption) ?_
       rotate_left
       ·
        (intro w hSw; (try dsimp only at hSw); go_simp <;> (try with_reducible rfl))
       (try simp only [Act.put, List.setIfInBounds_toArray, List.set_cons_zero, List.set_cons_succ])
       refine wpAnyH_ready (rs := [0, 2]) (by kernel_rfl) (by simp) ?_
       refine AllReadyH.cons (o := Oper.mk (some 40) _ _ _ _ _) rfl (fun K hK => ?_) ?_
       ·
        obtain ⟨⟨d0, d1, d2, d3, d4, d5, d6, d7⟩, _⟩ := KB.out _ (Below.refl _ _).drew
        go_simp
        clear hHeld
        refine hK.out _ _ (by (try dsimp only); first | exact KS.out _ (Below.refl _ _).drew | exact KS.out _ (by assumption)) (fun hHeld => ?_)
        clear hK K
        (try simp only [Act.put, List.setIfInBounds_toArray, List.set_cons_zero, List.set_cons_succ])
        clear d0 d1 d2 d3 d4 d5 d6 d7
        refine wpAnyH_ready (rs := [2]) (by kernel_rfl) (by simp) ?_
        refine AllReadyH.cons (o := Oper.mk (some 42) _ _ _ _ _) rfl (fun K hK => ?_) AllReadyH.nil
        go_simp
        (go_at_call 77; refine (from_any 1 _ (by decide) (by decide)).mono ?_; rintro e f1 ⟨n9, o9, l9, c9, rfl, hs, ho, hb⟩; have H1 : Hid (IntAt f1 n9 o9 l9 c9 1) := ho.int hs; have hl9 : l9 ≤ 1 := (by rw [ho.row.hlen]; decide); clear hs ho; have hbF1 : Below Y.heap.size Y f1 := bnext (Below.refl _ _).drew hb; clear hb)
        (try go_wp2_with fail)
        clear hHeld
        refine hK.out _ _ (by (try dsimp only); first | exact KS.out _ (Below.refl _ _).drew | exact KS.out _ (by assumption)) (fun hHeld => ?_)
        clear hK K
        (try simp only [Act.put, List.setIfInBounds_toArray, List.set_cons_zero, List.set_cons_succ])
        refine wpAnyH_ready (rs := [3]) (by kernel_rfl) (by simp) ?_
        refine AllReadyH.cons (o := Oper.mk (some 43) _ _ _ _ _) rfl (fun K hK => ?_) AllReadyH.nil
        go_simp
        (go_at_call 111; refine (rplus2_any n6 n9 o6 o9 l6 c6 l9 c9 (f : Int) 1 _ (HI.out.1.1.later (bnext HY.out hbF1)) (H1.out.later (Below.refl _ _)) (by omega) (by omega)).mono ?_; rintro e f2 ⟨n10, o10, l10, c10, rfl, hs, ho, hb⟩; have H2 : Hid (IntAt f2 n10 o10 l10 c10 ((f + 1 : Nat) : Int)) := (by rw [Int.natCast_add]; exact ho.int hs); have hl10 : l10 ≤ 1000 := (by rw [ho.row.hlen]; have q1 := add_len (f : Int) 1; have q2 := HGL.out.2.2.1; rw [Int.natAbs_natCast] at q1; have q3 : (mag (1 : Int).natAbs).length = 1 := rfl; omega); clear hs ho; have hbF2 : Below Y.heap.size Y f2 := bnext hbF1 hb; clear hb)
        (try go_wp2_with fail)
        clear hHeld
        refine hK.out _ _ (by (try dsimp only); first | exact KS.out _ (Below.refl _ _).drew | exact KS.out _ (by assumption)) (fun hHeld => ?_)
        clear hK K
        (try simp only [Act.put, List.setIfInBounds_toArray, List.set_cons_zero, List.set_cons_succ])
        refine wpAnyH_ready (rs := [4]) (by kernel_rfl) (by simp) ?_
        refine AllReadyH.cons (o := Oper.mk (some 44) _ _ _ _ _) rfl (fun K hK => ?_) AllReadyH.nil
        go_simp
        (go_at_call 121; refine (down_any n0 n1 n2 n3 n10 o0 o1 o2 o3 o10 l0 c0 l1 c1 l2 c2 l3 c3 l10 c10 (A : Int) (B : Int) (C : Int) (D : Int) ((f + 1 : Nat) : Int) _ (HNZ.out.1.1.later (bnext HY.out hbF2)) (HNZ.out.1.2.later (bnext HY.out hbF2)) (HNZ.out.2.1.later (bnext HY.out hbF2)) (HNZ.out.2.2.later (bnext HY.out hbF2)) H2.out (by omega) (by omega) (by omega) (by omega) (by omega)).mono ?_; rintro e f3 ⟨n4, n5, o4, o5, l4, c4, l5, c5, rfl, h4, h5, hpt, hb⟩; have H3 : Hid ((n4 = sgB (((f + 1 : Nat) : Int) * (C : Int) + (A : Int)) ∧ Own Z.heap.size f3 .u64 59 o4 l4 c4 (mag (((f + 1 : Nat) : Int) * (C : Int) + (A : Int)).natAbs)) ∧ Own Z.heap.size f3 .u64 59 o5 l5 c5 (mag (((f + 1 : Nat) : Int) * (D : Int) + (B : Int)).natAbs) ∧ Parted o4 o5 ∧ Below Z.heap.size Z f3) := ⟨⟨h4.1, h4.2.mono (Nat.le_trans hyZ hbF2.size)⟩, h5.2.mono (Nat.le_trans hyZ hbF2.size), hpt, bnext HY.out (bnext hbF2 hb)⟩; clear h4 h5 hpt; have hbF3 : Below Y.heap.size Y f3 := bnext hbF2 hb; clear hb)
        (try go_wp2_with fail)
        clear hHeld
        refine hK.out _ _ (by (try dsimp only); first | exact KS.out _ (Below.refl _ _).drew | exact KS.out _ (by assumption)) (fun hHeld => ?_)
        clear hK K
        (try simp only [Act.put, List.setIfInBounds_toArray, List.set_cons_zero, List.set_cons_succ])
        obtain ⟨⟨d0, d1, d2, d3, d4, d5, d6, d7⟩, e9⟩ := KB.out _ hbF3
        refine wpAnyH_ready (rs := [5]) (by kernel_rfl) (by simp) ?_
        refine AllReadyH.cons (o := Oper.mk none _ _ _ _ _) rfl (fun K hK => ?_) AllReadyH.nil
        go_simp
        clear hHeld
        refine hK.out _ _ (by (try dsimp only); exact KP.out _ hbF3 _ _ _ _ _ _ _ _) (fun hHeld => ?_)
        clear hK K
        (try simp only [Act.put, List.setIfInBounds_toArray, List.set_cons_zero, List.set_cons_succ])
        refine wpAnyH_done (by kernel_rfl) ?_ _
        refine NoPanic.normal ?_
        clear d0 d1 d2 d3 d4 d5 d6 d7 e9
        go_wp2
        go_meet
        exact node_end HFZ.out H3.out.2.2.2 HBZ.out.2.2 H3.out.1 H3.out.2.1 H3.out.2.2.1 HE.out.1 HE.out.2
       refine AllReadyH.cons (o := Oper.mk (some 42) _ _ _ _ _) rfl (fun K hK => ?_) ?_
       ·
        go_simp
        (go_at_call 77; refine (from_any 1 _ (by decide) (by decide)).mono ?_; rintro e f1 ⟨n9, o9, l9, c9, rfl, hs, ho, hb⟩; have H1 : Hid (IntAt f1 n9 o9 l9 c9 1) := ho.int hs; have hl9 : l9 ≤ 1 := (by rw [ho.row.hlen]; decide); clear hs ho; have hbF1 : Below Y.heap.size Y f1 := bnext (Below.refl _ _).drew hb; clear hb)
        (try go_wp2_with fail)
        clear hHeld
        refine hK.out _ _ (by (try dsimp only); first | exact KS.out _ (Below.refl _ _).drew | exact KS.out _ (by assumption)) (fun hHeld => ?_)
        clear hK K
        (try simp only [Act.put, List.setIfInBounds_toArray, List.set_cons_zero, List.set_cons_succ])
        refine wpAnyH_ready (rs := [0, 3]) (by kernel_rfl) (by simp) ?_
        refine AllReadyH.cons (o := Oper.mk (some 40) _ _ _ _ _) rfl (fun K hK => ?_) ?_
        ·
         obtain ⟨⟨d0, d1, d2, d3, d4, d5, d6, d7⟩, _⟩ := KB.out _ hbF1
         go_simp
         clear hHeld
         refine hK.out _ _ (by (try dsimp only); first | exact KS.out _ (Below.refl _ _).drew | exact KS.out _ (by assumption)) (fun hHeld => ?_)
         clear hK K
         (try simp only [Act.put, List.setIfInBounds_toArray, List.set_cons_zero, List.set_cons_succ])
         clear d0 d1 d2 d3 d4 d5 d6 d7
         refine wpAnyH_ready (rs := [3]) (by kernel_rfl) (by simp) ?_
         refine AllReadyH.cons (o := Oper.mk (some 43) _ _ _ _ _) rfl (fun K hK => ?_) AllReadyH.nil
         go_simp
         (go_at_call 111; refine (rplus2_any n6 n9 o6 o9 l6 c6 l9 c9 (f : Int) 1 _ (HI.out.1.1.later (bnext HY.out hbF1)) (H1.out.later (Below.refl _ _)) (by omega) (by omega)).mono ?_; rintro e f2 ⟨n10, o10, l10, c10, rfl, hs, ho, hb⟩; have H2 : Hid (IntAt f2 n10 o10 l10 c10 ((f + 1 : Nat) : Int)) := (by rw [Int.natCast_add]; exact ho.int hs); have hl10 : l10 ≤ 1000 := (by rw [ho.row.hlen]; have q1 := add_len (f : Int) 1; have q2 := HGL.out.2.2.1; rw [Int.natAbs_natCast] at q1; have q3 : (mag (1 : Int).natAbs).length = 1 := rfl; omega); clear hs ho; have hbF2 : Below Y.heap.size Y f2 := bnext hbF1 hb; clear hb)
         (try go_wp2_with fail)
         clear hHeld
         refine hK.out _ _ (by (try dsimp only); first | exact KS.out _ (Below.refl _ _).drew | exact KS.out _ (by assumption)) (fun hHeld => ?_)
         clear hK K
         (try simp only [Act.put, List.setIfInBounds_toArray, List.set_cons_zero, List.set_cons_succ])
         refine wpAnyH_ready (rs := [4]) (by kernel_rfl) (by simp) ?_
         refine AllReadyH.cons (o := Oper.mk (some 44) _ _ _ _ _) rfl (fun K hK => ?_) AllReadyH.nil
         go_simp
         (go_at_call 121; refine (down_any n0 n1 n2 n3 n10 o0 o1 o2 o3 o10 l0 c0 l1 c1 l2 c2 l3 c3 l10 c10 (A : Int) (B : Int) (C : Int) (D : Int) ((f + 1 : Nat) : Int) _ (HNZ.out.1.1.later (bnext HY.out hbF2)) (HNZ.out.1.2.later (bnext HY.out hbF2)) (HNZ.out.2.1.later (bnext HY.out hbF2)) (HNZ.out.2.2.later (bnext HY.out hbF2)) H2.out (by omega) (by omega) (by omega) (by omega) (by omega)).mono ?_; rintro e f3 ⟨n4, n5, o4, o5, l4, c4, l5, c5, rfl, h4, h5, hpt, hb⟩; have H3 : Hid ((n4 = sgB (((f + 1 : Nat) : Int) * (C : Int) + (A : Int)) ∧ Own Z.heap.size f3 .u64 59 o4 l4 c4 (mag (((f + 1 : Nat) : Int) * (C : Int) + (A : Int)).natAbs)) ∧ Own Z.heap.size f3 .u64 59 o5 l5 c5 (mag (((f + 1 : Nat) : Int) * (D : Int) + (B : Int)).natAbs) ∧ Parted o4 o5 ∧ Below Z.heap.size Z f3) := ⟨⟨h4.1, h4.2.mono (Nat.le_trans hyZ hbF2.size)⟩, h5.2.mono (Nat.le_trans hyZ hbF2.size), hpt, bnext HY.out (bnext hbF2 hb)⟩; clear h4 h5 hpt; have hbF3 : Below Y.heap.size Y f3 := bnext hbF2 hb; clear hb)
         (try go_wp2_with fail)
         clear hHeld
         refine hK.out _ _ (by (try dsimp only); first | exact KS.out _ (Below.refl _ _).drew | exact KS.out _ (by assumption)) (fun hHeld => ?_)
         clear hK K
         (try simp only [Act.put, List.setIfInBounds_toArray, List.set_cons_zero, List.set_cons_succ])
         obtain ⟨⟨d0, d1, d2, d3, d4, d5, d6, d7⟩, e9⟩ := KB.out _ hbF3
         refine wpAnyH_ready (rs := [5]) (by kernel_rfl) (by simp) ?_
         refine AllReadyH.cons (o := Oper.mk none _ _ _ _ _) rfl (fun K hK => ?_) AllReadyH.nil
         go_simp
         clear hHeld
         refine hK.out _ _ (by (try dsimp only); exact KP.out _ hbF3 _ _ _ _ _ _ _ _) (fun hHeld => ?_)
         clear hK K
         (try simp only [Act.put, List.setIfInBounds_toArray, List.set_cons_zero, List.set_cons_succ])
         refine wpAnyH_done (by kernel_rfl) ?_ _
         refine NoPanic.normal ?_
         clear d0 d1 d2 d3 d4 d5 d6 d7 e9
         go_wp2
         go_meet
         exact node_end HFZ.out H3.out.2.2.2 HBZ.out.2.2 H3.out.1 H3.out.2.1 H3.out.2.2.1 HE.out.1 HE.out.2
        refine AllReadyH.cons (o := Oper.mk (some 43) _ _ _ _ _) rfl (fun K hK => ?_) ?_
        ·
         go_simp
         (go_at_call 111; refine (rplus2_any n6 n9 o6 o9 l6 c6 l9 c9 (f : Int) 1 _ (HI.out.1.1.later (bnext HY.out hbF1)) (H1.out.later (Below.refl _ _)) (by omega) (by omega)).mono ?_; rintro e f2 ⟨n10, o10, l10, c10, rfl, hs, ho, hb⟩; have H2 : Hid (IntAt f2 n10 o10 l10 c10 ((f + 1 : Nat) : Int)) := (by rw [Int.natCast_add]; exact ho.int hs); have hl10 : l10 ≤ 1000 := (by rw [ho.row.hlen]; have q1 := add_len (f : Int) 1; have q2 := HGL.out.2.2.1; rw [Int.natAbs_natCast] at q1; have q3 : (mag (1 : Int).natAbs).length = 1 := rfl; omega); clear hs ho; have hbF2 : Below Y.heap.size Y f2 := bnext hbF1 hb; clear hb)
         (try go_wp2_with fail)
         clear hHeld
         refine hK.out _ _ (by (try dsimp only); first | exact KS.out _ (Below.refl _ _).drew | exact KS.out _ (by assumption)) (fun hHeld => ?_)
         clear hK K
         (try simp only [Act.put, List.setIfInBounds_toArray, List.set_cons_zero, List.set_cons_succ])
         obtain ⟨⟨d0, d1, d2, d3, d4, d5, d6, d7⟩, _⟩ := KB.out _ hbF2
         refine wpAnyH_ready (rs := [0]) (by kernel_rfl) (by simp) ?_
         refine AllReadyH.cons (o := Oper.mk (some 40) _ _ _ _ _) rfl (fun K hK => ?_) AllReadyH.nil
         go_simp
         clear hHeld
         refine hK.out _ _ (by (try dsimp only); first | exact KS.out _ (Below.refl _ _).drew | exact KS.out _ (by assumption)) (fun hHeld => ?_)
         clear hK K
         (try simp only [Act.put, List.setIfInBounds_toArray, List.set_cons_zero, List.set_cons_succ])
         clear d0 d1 d2 d3 d4 d5 d6 d7
         refine wpAnyH_ready (rs := [4]) (by kernel_rfl) (by simp) ?_
         refine AllReadyH.cons (o := Oper.mk (some 44) _ _ _ _ _) rfl (fun K hK => ?_) AllReadyH.nil
         go_simp
         (go_at_call 121; refine (down_any n0 n1 n2 n3 n10 o0 o1 o2 o3 o10 l0 c0 l1 c1 l2 c2 l3 c3 l10 c10 (A : Int) (B : Int) (C : Int) (D : Int) ((f + 1 : Nat) : Int) _ (HNZ.out.1.1.later (bnext HY.out hbF2)) (HNZ.out.1.2.later (bnext HY.out hbF2)) (HNZ.out.2.1.later (bnext HY.out hbF2)) (HNZ.out.2.2.later (bnext HY.out hbF2)) H2.out (by omega) (by omega) (by omega) (by omega) (by omega)).mono ?_; rintro e f3 ⟨n4, n5, o4, o5, l4, c4, l5, c5, rfl, h4, h5, hpt, hb⟩; have H3 : Hid ((n4 = sgB (((f + 1 : Nat) : Int) * (C : Int) + (A : Int)) ∧ Own Z.heap.size f3 .u64 59 o4 l4 c4 (mag (((f + 1 : Nat) : Int) * (C : Int) + (A : Int)).natAbs)) ∧ Own Z.heap.size f3 .u64 59 o5 l5 c5 (mag (((f + 1 : Nat) : Int) * (D : Int) + (B : Int)).natAbs) ∧ Parted o4 o5 ∧ Below Z.heap.size Z f3) := ⟨⟨h4.1, h4.2.mono (Nat.le_trans hyZ hbF2.size)⟩, h5.2.mono (Nat.le_trans hyZ hbF2.size), hpt, bnext HY.out (bnext hbF2 hb)⟩; clear h4 h5 hpt; have hbF3 : Below Y.heap.size Y f3 := bnext hbF2 hb; clear hb)
         (try go_wp2_with fail)
         clear hHeld
         refine hK.out _ _ (by (try dsimp only); first | exact KS.out _ (Below.refl _ _).drew | exact KS.out _ (by assumption)) (fun hHeld => ?_)
         clear hK K
         (try simp only [Act.put, List.setIfInBounds_toArray, List.set_cons_zero, List.set_cons_succ])
         obtain ⟨⟨d0, d1, d2, d3, d4, d5, d6, d7⟩, e9⟩ := KB.out _ hbF3
         refine wpAnyH_ready (rs := [5]) (by kernel_rfl) (by simp) ?_
         refine AllReadyH.cons (o := Oper.mk none _ _ _ _ _) rfl (fun K hK => ?_) AllReadyH.nil
         go_simp
         clear hHeld
         refine hK.out _ _ (by (try dsimp only); exact KP.out _ hbF3 _ _ _ _ _ _ _ _) (fun hHeld => ?_)
         clear hK K
         (try simp only [Act.put, List.setIfInBounds_toArray, List.set_cons_zero, List.set_cons_succ])
         refine wpAnyH_done (by kernel_rfl) ?_ _
         refine NoPanic.normal ?_
         clear d0 d1 d2 d3 d4 d5 d6 d7 e9
         go_wp2
         go_meet
         exact node_end HFZ.out H3.out.2.2.2 HBZ.out.2.2 H3.out.1 H3.out.2.1 H3.out.2.2.1 HE.out.1 HE.out.2
        exact AllReadyH.nil
       exact AllReadyH.nil
      case rest =>
       obtain ⟨m0, m1, m2, m3, p4, p1, p2, p3, k4, d0, k1, d1, k2, d2, k3, d3, ⟨f0, f1, f2, f3, f4, f5, f6, f7⟩, ⟨rfl, hO2⟩, hO3, hpt, hfx⟩ := hcut
       have HO : Hid (Own (w.heap.size + 3) wc .u64 59 p2 k2 d2 (mag U) ∧ Own (w.heap.size + 3) wc .u64 59 p3 k3 d3 (mag V) ∧ Parted p2 p3 ∧ Below w.heap.size w wc) := ⟨hO2, hO3, hpt, hfx.bel⟩
       obtain ⟨g5, g2, g3, g4⟩ := hfx.fr
       have hrw := hfx.hp
       clear hO2 hO3 hpt hfx
       go_wp2
       rw [Exit.noGoto_ret]
       exact bodyPost_ret (v := .agg #[.bool false, .slice p2 k2 d2, .slice p3 k3 d3]) (by simp [results, Tryz.results87, go_sem, g2, g3, g4]) rfl ⟨_, _, _, _, _, _, rfl, (HO.out.1.store3 (by omega) _ _ _).mono (by omega), (HO.out.2.1.store3 (by omega) _ _ _).mono (by omega), HO.out.2.2.1, below_store3 HO.out.2.2.2 (by omega) _ _ _⟩
     ·
      have HFE : Hid (f' = f) := (by have h1 := frac_floor (p := p) (r := r) hq0 hs0 HP.out.1.2.2.2; rw [HQ.out.1, HQ.out.2.2.1] at h1; show _ = _; omega)
      have HC : Hid (cmpI (f : Int) (f' : Int) = 0) := by show _ = _; rw [HFE.out]; unfold cmpI; rw [if_neg (by omega), if_neg (by omega)]
      clear hff
      obtain ⟨x0, x1⟩ := HV.out.2.1
      obtain ⟨y0, y1⟩ := HV.out.1
      obtain ⟨u0, u1⟩ := HV.out.2.2.1
      go_upto_region 8 with (go_at_call 107; refine (bcmp_any n6 n8 o6 o8 l6 c6 l8 c8 _ _ _ HI.out.1.1 HI.out.2.1 (by omega) (by omega) 0 HC.out).mono ?_; rintro e y ⟨rfl, hb⟩; have HY : Hid (Below Z.heap.size Z y) := hb; clear hb)
      clear h70 x0 x1 y0 y1 u0 u1
      obtain ⟨Y, hY⟩ : ∃ Y, Y = y := ⟨_, rfl⟩
      subst hY
      have hyZ := HY.out.size
      go_cut [47] (fun s47 wx => TurnSt w wx rp r7 r9 f g g' A B C D q s n2 n3 o2 o3 l2 c2 l3 c3 n7 n9 o7 o9 l7 c7 l9 c9 ao la ca po lp cp bo lb cb qo lq cq)
      case first =>
       obtain ⟨x0, x1⟩ := HV.out.1.later HY.out (by omega)
       obtain ⟨d0, d1, d2, d3, d4, d5, d6, d7⟩ := HBZ.out.2.2.later HY.out hltZ
       go_wp2_with (go_at_call 121; refine (down_any n0 n1 n2 n3 n6 o0 o1 o2 o3 o6 l0 c0 l1 c1 l2 c2 l3 c3 l6 c6 (A : Int) (B : Int) (C : Int) (D : Int) (f : Int) _ (HNZ.out.1.1.later HY.out) (HNZ.out.1.2.later HY.out) (HNZ.out.2.1.later HY.out) (HNZ.out.2.2.later HY.out) (HI.out.1.1.later HY.out) (by omega) (by omega) (by omega) (by omega) (by omega)).mono ?_; rintro e y ⟨n4, n5, o4, o5, l4, c4, l5, c5, rfl, h4, h5, hpt, hb⟩; have HW : Hid (IntAt y n4 o4 l4 c4 ((f : Int) * (C : Int) + (A : Int)) ∧ IntAt y n5 o5 l5 c5 ((f : Int) * (D : Int) + (B : Int)) ∧ Below Z.heap.size Z y) := ⟨h4.2.int h4.1, h5.2.int h5.1, bnext HY.out hb⟩; clear h4 h5 hpt x0 x1 d0 d1 d2 d3 d4 d5 d6 d7 hb; obtain ⟨d0, d1, d2, d3, d4, d5, d6, d7⟩ := HBZ.out.2.2.later HW.out.2.2 hltZ; have e9 := (HFZ.out.later HW.out.2.2).fp)
       go_meet
       exact turn_at HFZ HW HBZ HNZ HRZ HV HI (by omega) (by omega)
      case rest =>
       obtain ⟨n4, n5, o4, o5, l4, c4, l5, c5, hT8, hTN, hTB, hTV, hTR, hTF⟩ := hcut
       obtain ⟨X, hX⟩ : ∃ Z, Z = wc := ⟨_, rfl⟩
       rw [← hX] at hT8 hTN hTB hTV hTR hTF
       rw [← hX]
       have HT8 : Hid (Boxed8 X rp n2 n3 n4 n5 o2 o3 o4 o5 l2 c2 l3 c3 l4 c4 l5 c5 ∧ SFix w X rp) := ⟨hT8, hTF⟩
       have HTN : Hid ((IntAt X n2 o2 l2 c2 (C : Int) ∧ IntAt X n3 o3 l3 c3 (D : Int)) ∧ IntAt X n4 o4 l4 c4 ((f : Int) * (C : Int) + (A : Int)) ∧ IntAt X n5 o5 l5 c5 ((f : Int) * (D : Int) + (B : Int))) := hTN
       have HTB : Hid (Boxed3 X w.heap.size false ao la ca po lp cp ∧ Boxed3 X (w.heap.size + 1) false bo lb cb qo lq cq) := hTB
       have HTR : Hid ((RowAt X .u64 po lp cp (mag q) ∧ RowAt X .u64 qo lq cq (mag s)) ∧ RowAt X .u64 o7 l7 c7 (mag g) ∧ RowAt X .u64 o9 l9 c9 (mag g')) := hTR
       obtain ⟨⟨x0, x1⟩, y0, y1⟩ := hTV
       obtain ⟨⟨a0, a1, a2⟩, b0, b1, b2⟩ := hTB
       have e1 := hTF.fa
       have e2 := hTF.fb
       clear hX hT8 hTN hTR hTF HBZ HNZ HRZ HV HI HFZ
       have HEND : Hid (SimpSt w (put3 (put3 X w.heap.size (.bool false) (.slice qo lq cq) (.slice o9 l9 c9)) (w.heap.size + 1) (.bool false) (.slice po lp cp) (.slice o7 l7 c7)).drew rp M U V ∧ ((put3 (put3 X w.heap.size (.bool false) (.slice qo lq cq) (.slice o9 l9 c9)) (w.heap.size + 1) (.bool false) (.slice po lp cp) (.slice o7 l7 c7)).drew.cell? ⟨w.heap.size, 2, none⟩ = some (.slice o9 l9 c9) ∧ (put3 (put3 X w.heap.size (.bool false) (.slice qo lq cq) (.slice o9 l9 c9)) (w.heap.size + 1) (.bool false) (.slice po lp cp) (.slice o7 l7 c7)).drew.cell? ⟨w.heap.size + 1, 2, none⟩ = some (.slice o7 l7 c7)) ∧ RowAt (put3 (put3 X w.heap.size (.bool false) (.slice qo lq cq) (.slice o9 l9 c9)) (w.heap.size + 1) (.bool false) (.slice po lp cp) (.slice o7 l7 c7)).drew .u64 o9 l9 c9 (mag g') ∧ RowAt (put3 (put3 X w.heap.size (.bool false) (.slice qo lq cq) (.slice o9 l9 c9)) (w.heap.size + 1) (.bool false) (.slice po lp cp) (.slice o7 l7 c7)).drew .u64 o7 l7 c7 (mag g)) := by
        have hb1 : Boxed3 (put3 X w.heap.size (.bool false) (.slice qo lq cq) (.slice o9 l9 c9)) w.heap.size false qo lq cq o9 l9 c9 := boxed_set HTB.out.1.1 HTB.out.1.2.1 HTB.out.1.2.2
        have hb2 : Boxed3 (put3 X w.heap.size (.bool false) (.slice qo lq cq) (.slice o9 l9 c9)) (w.heap.size + 1) false bo lb cb qo lq cq := HTB.out.2.off (by omega) _ _ _
        have hb3 := hb1.off (s := w.heap.size + 1) (by omega) (.bool false) (.slice po lp cp) (.slice o7 l7 c7)
        have hb4 : Boxed3 (put3 (put3 X w.heap.size (.bool false) (.slice qo lq cq) (.slice o9 l9 c9)) (w.heap.size + 1) (.bool false) (.slice po lp cp) (.slice o7 l7 c7)) (w.heap.size + 1) false po lp cp o7 l7 c7 := boxed_set hb2.1 hb2.2.1 hb2.2.2
        have kr : ∀ {ao : Option Addr} {l c : Nat} {zs : List Int}, RowAt X .u64 ao l c zs → RowAt (put3 (put3 X w.heap.size (.bool false) (.slice qo lq cq) (.slice o9 l9 c9)) (w.heap.size + 1) (.bool false) (.slice po lp cp) (.slice o7 l7 c7)).drew .u64 ao l c zs := fun h => (row_kept3 (row_kept3 h HTB.out.1) hb2).later (Below.refl _ _).drew
        have hf := ((HT8.out.2.put3 (r := w.heap.size) (by omega) (by omega) (.bool false) (.slice qo lq cq) (.slice o9 l9 c9)).put3 (r := w.heap.size + 1) (by omega) (by omega) (.bool false) (.slice po lp cp) (.slice o7 l7 c7)).later (Below.refl _ _).drew
        have h8 : Boxed8 (put3 (put3 X w.heap.size (.bool false) (.slice qo lq cq) (.slice o9 l9 c9)) (w.heap.size + 1) (.bool false) (.slice po lp cp) (.slice o7 l7 c7)).drew rp n2 n3 n4 n5 o2 o3 o4 o5 l2 c2 l3 c3 l4 c4 l5 c5 := ((HT8.out.1.off (s := w.heap.size) (by omega) (.bool false) (.slice qo lq cq) (.slice o9 l9 c9)).off (s := w.heap.size + 1) (by omega) (.bool false) (.slice po lp cp) (.slice o7 l7 c7)).later (B := (put3 (put3 X w.heap.size (.bool false) (.slice qo lq cq) (.slice o9 l9 c9)) (w.heap.size + 1) (.bool false) (.slice po lp cp) (.slice o7 l7 c7)).heap.size) (Below.refl _ _).drew (by rw [put3_sz, put3_sz]; exact HT8.out.2.lt)
        replace hb3 := hb3.later (B := (put3 (put3 X w.heap.size (.bool false) (.slice qo lq cq) (.slice o9 l9 c9)) (w.heap.size + 1) (.bool false) (.slice po lp cp) (.slice o7 l7 c7)).heap.size) (Below.refl _ _).drew (by have := HT8.out.2.lt; rw [put3_sz, put3_sz]; omega)
        replace hb4 := hb4.later (B := (put3 (put3 X w.heap.size (.bool false) (.slice qo lq cq) (.slice o9 l9 c9)) (w.heap.size + 1) (.bool false) (.slice po lp cp) (.slice o7 l7 c7)).heap.size) (Below.refl _ _).drew (by have := HT8.out.2.lt; rw [put3_sz, put3_sz]; omega)
        obtain ⟨hS, hU, hV⟩ := HS.out
        obtain ⟨⟨pp, pq, ps, hle⟩, m1, m2, m3, m4⟩ := HP.out
        have e1 := HQ.out.1
        have e2 := HQ.out.2.1
        have e3 := HQ.out.2.2.1
        have e4 := HQ.out.2.2.2
        have hgq := Nat.mod_lt p pq
        have hgs := Nat.mod_lt r ps
        refine ⟨?_, ⟨hb3.2.2, hb4.2.2⟩, kr HTR.out.2.2, kr HTR.out.2.1⟩
        obtain ⟨k', u', v', h2, h3, hu9, hv9⟩ := hS.turned (fun h => HG.out (e2.symm.trans h)) (by have := HFE.out; omega)
        have h : p % q ≠ 0 := fun h => HG.out (e2.symm.trans h)
        have q1 := left_pos ps hle h2 h
        have q2 := frac_left hle h2
        rw [e4] at q1 q2 h3
        rw [e2] at q2 h3
        rw [hu9, hv9, e1] at hU hV
        refine ⟨qo, o9, po, o7, lq, cq, l9, c9, lp, cp, l7, c7, n2, n3, n4, n5, o2, o3, o4, o5, l2, c2, l3, c3, l4, c4, l5, c5, s, g', q, g, k', u', v', C, D, f * C + A, f * D + B, ⟨hb3, hb4, h8⟩, ⟨⟨kr HTR.out.1.2, kr HTR.out.2.2⟩, kr HTR.out.1.1, kr HTR.out.2.1⟩, ⟨⟨⟨HTN.out.1.1.sg, kr HTN.out.1.1.row⟩, ⟨HTN.out.1.2.sg, kr HTN.out.1.2.row⟩⟩, ?_, ?_⟩, ⟨h3, turn_sum hU, turn_sum hV⟩, ⟨ps, q1, Nat.pos_of_ne_zero HG.out, q2⟩, ⟨m4, by omega, m2, by omega⟩, hf⟩
        ·
         rw [Int.natCast_add, Int.natCast_mul]; exact ⟨HTN.out.2.1.sg, kr HTN.out.2.1.row⟩
        ·
         rw [Int.natCast_add, Int.natCast_mul]; exact ⟨HTN.out.2.2.sg, kr HTN.out.2.2.row⟩
       go_upto_region 9 with fail
       go_region
       go_roundw
       case rel => (repeat apply Exists.intro); exact ⟨HEND.out.1, rfl⟩
       case measure =>
        have e0 := HMU.out
        have e1 := HEND.out.2.1.1
        have e2 := HEND.out.2.1.2
        have e3 := HNUM.out _ _ _ _ _ HEND.out.2.2.1
        have e4 := HNUM.out _ _ _ _ _ HEND.out.2.2.2
        have q1 := Nat.mod_lt p hq0
        have q2 := Nat.mod_lt r hs0
        rw [HQ.out.2.1] at q1
        rw [HQ.out.2.2.2] at q2
        rw [e0]
        show numAt (((put3 (put3 X w.heap.size (.bool false) (.slice qo lq cq) (.slice o9 l9 c9)) (w.heap.size + 1) (.bool false) (.slice po lp cp) (.slice o7 l7 c7)).drew.cell? ⟨w.heap.size, 2, none⟩).getD (.bool false)) (put3 (put3 X w.heap.size (.bool false) (.slice qo lq cq) (.slice o9 l9 c9)) (w.heap.size + 1) (.bool false) (.slice po lp cp) (.slice o7 l7 c7)).drew + numAt (((put3 (put3 X w.heap.size (.bool false) (.slice qo lq cq) (.slice o9 l9 c9)) (w.heap.size + 1) (.bool false) (.slice po lp cp) (.slice o7 l7 c7)).drew.cell? ⟨w.heap.size + 1, 2, none⟩).getD (.bool false)) (put3 (put3 X w.heap.size (.bool false) (.slice qo lq cq) (.slice o9 l9 c9)) (w.heap.size + 1) (.bool false) (.slice po lp cp) (.slice o7 l7 c7)).drew < q + s
        rw [e1, e2]
        show numAt (.slice o9 l9 c9) (put3 (put3 X w.heap.size (.bool false) (.slice qo lq cq) (.slice o9 l9 c9)) (w.heap.size + 1) (.bool false) (.slice po lp cp) (.slice o7 l7 c7)).drew + numAt (.slice o7 l7 c7) (put3 (put3 X w.heap.size (.bool false) (.slice qo lq cq) (.slice o9 l9 c9)) (w.heap.size + 1) (.bool false) (.slice po lp cp) (.slice o7 l7 c7)).drew < q + s
        rw [e3, e4]
        omega
end Go.Proofs.YtiiefpnkpfliiaaGreatDoor
