/-
  A pack of walks and facts: SI.
-/
import Derived.Test.YtiiefpnkpfliiaaGreatDoorPC18
import Derived.Test.YtiiefpnkpfliiaaGreatDoorPC20
set_option maxRecDepth 100000
set_option maxHeartbeats 40000000
set_option linter.unusedVariables false
set_option linter.unusedSimpArgs false
namespace Go.Proofs.YtiiefpnkpfliiaaGreatDoor
open Go.RowKit
theorem floor_nat (ao po : Option Addr) (la ca lp cp p q : Nat) (w : World) (hx : RowAt w .u64 ao la ca (mag p)) (hy : RowAt w .u64 po lp cp (mag q)) (h0 : 0 < q) (hl : la ≤ 1073741824) (hl' : lp ≤ 1073741824) :
  Calls Tryz.prog 59 #[.agg #[.bool false, .slice ao la ca, .slice po lp cp]] w fun e w' => ∃ n o l c n2 o2 l2 c2, e = .returned (.tuple #[.agg #[.bool n, .slice o l c], .agg #[.bool n2, .slice o2 l2 c2]]) ∧ IntAt w' n o l c ((p / q : Nat) : Int) ∧ IntAt w' n2 o2 l2 c2 ((p % q : Nat) : Int) ∧ Below w.heap.size w w' := by
 obtain ⟨W, hT⟩ := RI3.mk' w false ao po la ca lp cp
 have hsz := hT.size
 have HX : Hid (IntAt W false ao la ca (p : Int) ∧ IntAt W false po lp cp (q : Int)) := ⟨row_int (hx.later hT.below), row_int (hy.later hT.below)⟩
 have hd : (q : Int) ≠ 0 := by omega
 obtain ⟨p0, p1, p2⟩ := hT.a
 clear hx hy
 go_enter Tryz.func59, Tryz.ntmps59
 go_upto_region 2 with (go_at_call 102; rw [← hT.eq]; refine (bdivide_pos false ao po la ca lp cp (p : Int) (q : Int) _ HX.out.1 HX.out.2 (by omega) (by omega) hd).mono ?_; rintro e y ⟨vq, vr, hfl, n1, o1, l1, c1, n2, o2, l2, c2, rfl, hs1, ho1, hs2, ho2, hb⟩; have HA : Hid (IntAt y n1 o1 l1 c1 ((p / q : Nat) : Int) ∧ IntAt y n2 o2 l2 c2 ((p % q : Nat) : Int) ∧ Below W.heap.size W y) := (by obtain ⟨hq, hr⟩ := hfl.pos (by omega); rw [Int.natCast_ediv, Int.natCast_emod, ← hq, ← hr]; exact ⟨ho1.int hs1, ho2.int hs2, hb⟩); clear hs1 ho1 hs2 ho2 hfl; obtain ⟨g5, g3, g4⟩ := hT.r.later hb (by omega); obtain ⟨k5, k3, k4⟩ := hT.q.later hb (by omega); clear hb)
 obtain ⟨Q, hQ⟩ : ∃ Q, Q = ((((y.setCell ⟨w.heap.size + 1, 0, none⟩ (.bool n1)).setCell ⟨w.heap.size + 1, 1, none⟩ (.slice o1 l1 c1)).setCell ⟨w.heap.size + 1 + 1, 0, none⟩ (.bool n2)).setCell ⟨w.heap.size + 1 + 1, 1, none⟩ (.slice o2 l2 c2)) := ⟨_, rfl⟩
 have HQ : Hid (((IntAt Q n1 o1 l1 c1 ((p / q : Nat) : Int) ∧ IntAt Q n2 o2 l2 c2 ((p % q : Nat) : Int)) ∧ Below w.heap.size w Q) ∧ Boxed Q (w.heap.size + 1) n1 o1 l1 c1 ∧ Boxed Q (w.heap.size + 1 + 1) n2 o2 l2 c2 ∧ (∀ j, Q.frozen? ⟨w.heap.size + 1, j, none⟩ = false) ∧ (∀ j, Q.frozen? ⟨w.heap.size + 1 + 1, j, none⟩ = false)) := by
  rw [hQ]
  have b2 : Boxed ((y.setCell ⟨w.heap.size + 1, 0, none⟩ (.bool n1)).setCell ⟨w.heap.size + 1, 1, none⟩ (.slice o1 l1 c1)) (w.heap.size + 1 + 1) false none 0 0 := boxed_far ⟨k3, k4⟩ (by omega) _ _
  refine ⟨⟨⟨⟨HA.out.1.sg, (HA.out.1.row.boxed ⟨g3, g4⟩ _ _).boxed b2 _ _⟩, ⟨HA.out.2.1.sg, (HA.out.2.1.row.boxed ⟨g3, g4⟩ _ _).boxed b2 _ _⟩⟩, below_store (below_store (bnext hT.below HA.out.2.2) (by omega) _ _) (by omega) _ _⟩, boxed_far (boxed_new ⟨g3, g4⟩) (by omega) _ _, boxed_new b2, fun j => by rw [frozen_off, frozen_off, frozen_off, frozen_off]; exact g5 j, fun j => by rw [frozen_off, frozen_off, frozen_off, frozen_off]; exact k5 j⟩
 rw [← hQ]
 clear hQ g5 g3 g4 k5 k3 k4 p0 p1 p2
 obtain ⟨g3, g4⟩ := HQ.out.2.1
 obtain ⟨k3, k4⟩ := HQ.out.2.2.1
 have g5 := HQ.out.2.2.2.1
 have k5 := HQ.out.2.2.2.2
 have b2 : Hid (Boxed ((Q.setCell ⟨w.heap.size + 1, 0, none⟩ (.bool n1)).setCell ⟨w.heap.size + 1, 1, none⟩ (.slice o1 l1 c1)) (w.heap.size + 1 + 1) n2 o2 l2 c2) := boxed_far ⟨k3, k4⟩ (by omega) _ _
 go_region
 all_goals go_wp2
 all_goals exact bodyPost_ret (v := .tuple #[.agg #[.bool n1, .slice o1 l1 c1], .agg #[.bool n2, .slice o2 l2 c2]]) (by simp [results, Tryz.results59, go_sem, g3, g4, k3, k4]) rfl ⟨_, _, _, _, _, _, _, _, rfl, ⟨HQ.out.1.1.1.sg, ((HQ.out.1.1.1.row.boxed ⟨g3, g4⟩ _ _).boxed b2.out _ _).later (Below.refl _ _).drew⟩, ⟨HQ.out.1.1.2.sg, ((HQ.out.1.1.2.row.boxed ⟨g3, g4⟩ _ _).boxed b2.out _ _).later (Below.refl _ _).drew⟩, (below_store (below_store HQ.out.1.2 (by omega) _ _) (by omega) _ _).drew⟩
def Boxed8 (W : World) (r : Nat) (n0 n1 n2 n3 : Bool) (o0 o1 o2 o3 : Option Addr) (l0 c0 l1 c1 l2 c2 l3 c3 : Nat) : Prop := W.cell? ⟨r, 0, none⟩ = some (.bool n0) ∧ W.cell? ⟨r, 1, none⟩ = some (.slice o0 l0 c0) ∧ W.cell? ⟨r, 2, none⟩ = some (.bool n1) ∧ W.cell? ⟨r, 3, none⟩ = some (.slice o1 l1 c1) ∧ W.cell? ⟨r, 4, none⟩ = some (.bool n2) ∧ W.cell? ⟨r, 5, none⟩ = some (.slice o2 l2 c2) ∧ W.cell? ⟨r, 6, none⟩ = some (.bool n3) ∧ W.cell? ⟨r, 7, none⟩ = some (.slice o3 l3 c3)
theorem Boxed8.later {W w2 : World} {B r : Nat} {n0 n1 n2 n3 : Bool} {o0 o1 o2 o3 : Option Addr} {l0 c0 l1 c1 l2 c2 l3 c3 : Nat} (k : Boxed8 W r n0 n1 n2 n3 o0 o1 o2 o3 l0 c0 l1 c1 l2 c2 l3 c3) (h : Below B W w2) (hr : r < B) : Boxed8 w2 r n0 n1 n2 n3 o0 o1 o2 o3 l0 c0 l1 c1 l2 c2 l3 c3 :=
 ⟨(h.cell (p := ⟨r, 0, none⟩) hr).trans k.1, (h.cell (p := ⟨r, 1, none⟩) hr).trans k.2.1, (h.cell (p := ⟨r, 2, none⟩) hr).trans k.2.2.1, (h.cell (p := ⟨r, 3, none⟩) hr).trans k.2.2.2.1, (h.cell (p := ⟨r, 4, none⟩) hr).trans k.2.2.2.2.1, (h.cell (p := ⟨r, 5, none⟩) hr).trans k.2.2.2.2.2.1, (h.cell (p := ⟨r, 6, none⟩) hr).trans k.2.2.2.2.2.2.1, (h.cell (p := ⟨r, 7, none⟩) hr).trans k.2.2.2.2.2.2.2⟩
def Fresh8 (W : World) (r : Nat) : Prop := (∀ j, W.frozen? ⟨r, j, none⟩ = false) ∧ Boxed8 W r false false false false none none none none 0 0 0 0 0 0 0 0
theorem Fresh8.later {W w2 : World} {B r : Nat} (k : Fresh8 W r) (h : Below B W w2) (hr : r < B) : Fresh8 w2 r := ⟨fun j => (h.frozen (p := ⟨r, j, none⟩) hr).trans (k.1 j), k.2.later h hr⟩
def put8 (W : World) (r : Nat) (v0 v1 v2 v3 v4 v5 v6 v7 : Value) : World := ((((((((W.setCell ⟨r, 0, none⟩ v0).setCell ⟨r, 1, none⟩ v1).setCell ⟨r, 2, none⟩ v2).setCell ⟨r, 3, none⟩ v3).setCell ⟨r, 4, none⟩ v4).setCell ⟨r, 5, none⟩ v5).setCell ⟨r, 6, none⟩ v6).setCell ⟨r, 7, none⟩ v7)
theorem put8_below {B r : Nat} {w w2 : World} (hb : Below B w w2) (hr : B ≤ r) (v0 v1 v2 v3 v4 v5 v6 v7 : Value) : Below B w (put8 w2 r v0 v1 v2 v3 v4 v5 v6 v7) :=
 below_set (below_set (below_set (below_set (below_set (below_set (below_set (below_set hb hr) hr) hr) hr) hr) hr) hr) hr
theorem put8_own {B r : Nat} {w : World} {k : IntKind} {t : TypeId} {ao : Option Addr} {len cap : Nat} {zs : List Int} (h : Own B w k t ao len cap zs) (hr : r < B) (v0 v1 v2 v3 v4 v5 v6 v7 : Value) : Own B (put8 w r v0 v1 v2 v3 v4 v5 v6 v7) k t ao len cap zs :=
 (((((((h.setOther (a := ⟨r, 0, none⟩) hr v0).setOther (a := ⟨r, 1, none⟩) hr v1).setOther (a := ⟨r, 2, none⟩) hr v2).setOther (a := ⟨r, 3, none⟩) hr v3).setOther (a := ⟨r, 4, none⟩) hr v4).setOther (a := ⟨r, 5, none⟩) hr v5).setOther (a := ⟨r, 6, none⟩) hr v6).setOther (a := ⟨r, 7, none⟩) hr v7
theorem put8_off {w : World} {r b o : Nat} (h : b ≠ r) (v0 v1 v2 v3 v4 v5 v6 v7 : Value) : (put8 w r v0 v1 v2 v3 v4 v5 v6 v7).cell? ⟨b, o, none⟩ = w.cell? ⟨b, o, none⟩ := by
 unfold put8
 rw [cell_off h, cell_off h, cell_off h, cell_off h, cell_off h, cell_off h, cell_off h, cell_off h]
theorem put8_frozen {w : World} {r b o : Nat} (v0 v1 v2 v3 v4 v5 v6 v7 : Value) : (put8 w r v0 v1 v2 v3 v4 v5 v6 v7).frozen? ⟨b, o, none⟩ = w.frozen? ⟨b, o, none⟩ := by
 unfold put8
 rw [frozen_off, frozen_off, frozen_off, frozen_off, frozen_off, frozen_off, frozen_off, frozen_off]
theorem put8_size {w : World} {r : Nat} (v0 v1 v2 v3 v4 v5 v6 v7 : Value) : (put8 w r v0 v1 v2 v3 v4 v5 v6 v7).heap.size = w.heap.size := by simp [put8, World.setCell]
theorem RowAt.put8 {w : World} {k : IntKind} {ao : Option Addr} {len cap r : Nat} {zs : List Int} {n0 n1 n2 n3 : Bool} {o0 o1 o2 o3 : Option Addr} {l0 c0 l1 c1 l2 c2 l3 c3 : Nat} (h : RowAt w k ao len cap zs) (hf : Boxed8 w r n0 n1 n2 n3 o0 o1 o2 o3 l0 c0 l1 c1 l2 c2 l3 c3) (v0 v1 v2 v3 v4 v5 v6 v7 : Value) : RowAt (put8 w r v0 v1 v2 v3 v4 v5 v6 v7) k ao len cap zs := by
 refine ⟨h.hlen, h.hcap, h.hnil, ?_⟩
 rcases h.hat with h0 | ⟨b, off, h1, hlt, h2⟩
 ·
  exact Or.inl h0
 ·
  refine Or.inr ⟨b, off, h1, by rw [put8_size]; exact hlt, fun t ht => ?_⟩
  have hc := h2 t ht
  obtain ⟨f0, f1, f2, f3, f4, f5, f6, f7⟩ := hf
  show (Go.Proofs.YtiiefpnkpfliiaaGreatDoor.put8 w r v0 v1 v2 v3 v4 v5 v6 v7).cell? _ = _
  unfold Go.Proofs.YtiiefpnkpfliiaaGreatDoor.put8
  rw [setCell_ne, setCell_ne, setCell_ne, setCell_ne, setCell_ne, setCell_ne, setCell_ne, setCell_ne]
  ·
   exact hc
  all_goals
   rintro ⟨e1, e2⟩
   simp only at e1 e2
   rw [e1, e2] at hc
   first | (rw [f0] at hc; cases hc) | (rw [f1] at hc; cases hc) | (rw [f2] at hc; cases hc) | (rw [f3] at hc; cases hc) | (rw [f4] at hc; cases hc) | (rw [f5] at hc; cases hc) | (rw [f6] at hc; cases hc) | (rw [f7] at hc; cases hc)
theorem Boxed8.put {W : World} {r : Nat} {n0 n1 n2 n3 : Bool} {o0 o1 o2 o3 : Option Addr} {l0 c0 l1 c1 l2 c2 l3 c3 : Nat} {m0 m1 m2 m3 : Bool} {p0 p1 p2 p3 : Option Addr} {k0 d0 k1 d1 k2 d2 k3 d3 : Nat} (h : Boxed8 W r n0 n1 n2 n3 o0 o1 o2 o3 l0 c0 l1 c1 l2 c2 l3 c3) : Boxed8 (put8 W r (.bool m0) (.slice p0 k0 d0) (.bool m1) (.slice p1 k1 d1) (.bool m2) (.slice p2 k2 d2) (.bool m3) (.slice p3 k3 d3)) r m0 m1 m2 m3 p0 p1 p2 p3 k0 d0 k1 d1 k2 d2 k3 d3 := by
 obtain ⟨f0, f1, f2, f3, f4, f5, f6, f7⟩ := h
 unfold put8 Boxed8
 refine ⟨?_, ?_, ?_, ?_, ?_, ?_, ?_, ?_⟩ <;> simp [go_sem, f0, f1, f2, f3, f4, f5, f6, f7]
structure ND3 (w W : World) (n0 n1 n2 n3 nf : Bool) (o0 o1 o2 o3 fo : Option Addr) (l0 c0 l1 c1 l2 c2 l3 c3 lf cf : Nat) : Prop where
 eq : W = ((w.alloc (.cells #[.bool n0, .slice o0 l0 c0, .bool n1, .slice o1 l1 c1, .bool n2, .slice o2 l2 c2, .bool n3, .slice o3 l3 c3] 108)).alloc (.cells #[.bool nf, .slice fo lf cf] 26)).alloc (.cells #[.bool false, .slice none 0 0, .bool false, .slice none 0 0, .bool false, .slice none 0 0, .bool false, .slice none 0 0] 108)
 below : Below w.heap.size w W
 size : W.heap.size = w.heap.size + 3
 p : Boxed8 W w.heap.size n0 n1 n2 n3 o0 o1 o2 o3 l0 c0 l1 c1 l2 c2 l3 c3
 f : Boxed W (w.heap.size + 1) nf fo lf cf
 r : Fresh8 W (w.heap.size + 1 + 1)
theorem ND3.mk' (w : World) (n0 n1 n2 n3 nf : Bool) (o0 o1 o2 o3 fo : Option Addr) (l0 c0 l1 c1 l2 c2 l3 c3 lf cf : Nat) : ∃ W, ND3 w W n0 n1 n2 n3 nf o0 o1 o2 o3 fo l0 c0 l1 c1 l2 c2 l3 c3 lf cf :=
 ⟨_, rfl, (((Below.refl _ _).alloc (Nat.le_refl _) _).alloc (by simp) _).alloc (by simp; omega) _, by simp, ⟨by simp [go_sem], by simp [go_sem], by simp [go_sem], by simp [go_sem], by simp [go_sem], by simp [go_sem], by simp [go_sem], by simp [go_sem]⟩, ⟨by simp [go_sem], by simp [go_sem]⟩, ⟨fun j => by simp [go_sem], ⟨by simp [go_sem], by simp [go_sem], by simp [go_sem], by simp [go_sem], by simp [go_sem], by simp [go_sem], by simp [go_sem], by simp [go_sem]⟩⟩⟩
theorem down_any (n0 n1 n2 n3 nf : Bool) (o0 o1 o2 o3 fo : Option Addr) (l0 c0 l1 c1 l2 c2 l3 c3 lf cf : Nat) (A B C D f : Int) (w : World) (hA : IntAt w n0 o0 l0 c0 A) (hB : IntAt w n1 o1 l1 c1 B) (hC : IntAt w n2 o2 l2 c2 C) (hD : IntAt w n3 o3 l3 c3 D) (hF : IntAt w nf fo lf cf f) (z0 : l0 ≤ 1000) (z1 : l1 ≤ 1000) (z2 : l2 ≤ 1000) (z3 : l3 ≤ 1000) (zf : lf ≤ 1000) :
  Calls Tryz.prog 121 #[.agg #[.bool n0, .slice o0 l0 c0, .bool n1, .slice o1 l1 c1, .bool n2, .slice o2 l2 c2, .bool n3, .slice o3 l3 c3], .agg #[.bool nf, .slice fo lf cf]] w fun e w' => ∃ n4 n5 o4 o5 l4 c4 l5 c5, e = .returned (.agg #[.bool n2, .slice o2 l2 c2, .bool n3, .slice o3 l3 c3, .bool n4, .slice o4 l4 c4, .bool n5, .slice o5 l5 c5]) ∧ (n4 = sgB (f * C + A) ∧ Own w.heap.size w' .u64 59 o4 l4 c4 (mag (f * C + A).natAbs)) ∧ (n5 = sgB (f * D + B) ∧ Own w.heap.size w' .u64 59 o5 l5 c5 (mag (f * D + B).natAbs)) ∧ Parted o4 o5 ∧ Below w.heap.size w w' := by
 obtain ⟨W, hT⟩ := ND3.mk' w n0 n1 n2 n3 nf o0 o1 o2 o3 fo l0 c0 l1 c1 l2 c2 l3 c3 lf cf
 have hsz := hT.size
 have HX : Hid ((IntAt W n0 o0 l0 c0 A ∧ IntAt W n1 o1 l1 c1 B) ∧ (IntAt W n2 o2 l2 c2 C ∧ IntAt W n3 o3 l3 c3 D) ∧ IntAt W nf fo lf cf f) := ⟨⟨hA.later hT.below, hB.later hT.below⟩, ⟨hC.later hT.below, hD.later hT.below⟩, hF.later hT.below⟩
 have HL : Hid ((mag (f * C).natAbs).length ≤ 3000 ∧ (mag (f * D).natAbs).length ≤ 3000) := by
  have h2 := mul_len f C
  have h3 := mul_len f D
  have := hC.row.hlen; have := hD.row.hlen; have := hF.row.hlen
  refine ⟨?_, ?_⟩ <;> omega
 have KW : Hid (∀ w' : World, Below W.heap.size W w' → w'.cell? ⟨w.heap.size, 0, none⟩ = some (.bool n0) ∧ w'.cell? ⟨w.heap.size, 1, none⟩ = some (.slice o0 l0 c0) ∧ w'.cell? ⟨w.heap.size, 2, none⟩ = some (.bool n1) ∧ w'.cell? ⟨w.heap.size, 3, none⟩ = some (.slice o1 l1 c1) ∧ w'.cell? ⟨w.heap.size, 4, none⟩ = some (.bool n2) ∧ w'.cell? ⟨w.heap.size, 5, none⟩ = some (.slice o2 l2 c2) ∧ w'.cell? ⟨w.heap.size, 6, none⟩ = some (.bool n3) ∧ w'.cell? ⟨w.heap.size, 7, none⟩ = some (.slice o3 l3 c3) ∧ w'.cell? ⟨w.heap.size + 1, 0, none⟩ = some (.bool nf) ∧ w'.cell? ⟨w.heap.size + 1, 1, none⟩ = some (.slice fo lf cf)) := fun w' h => ⟨(h.cell (p := ⟨w.heap.size, 0, none⟩) (by show w.heap.size < _; omega)).trans hT.p.1, (h.cell (p := ⟨w.heap.size, 1, none⟩) (by show w.heap.size < _; omega)).trans hT.p.2.1, (h.cell (p := ⟨w.heap.size, 2, none⟩) (by show w.heap.size < _; omega)).trans hT.p.2.2.1, (h.cell (p := ⟨w.heap.size, 3, none⟩) (by show w.heap.size < _; omega)).trans hT.p.2.2.2.1, (h.cell (p := ⟨w.heap.size, 4, none⟩) (by show w.heap.size < _; omega)).trans hT.p.2.2.2.2.1, (h.cell (p := ⟨w.heap.size, 5, none⟩) (by show w.heap.size < _; omega)).trans hT.p.2.2.2.2.2.1, (h.cell (p := ⟨w.heap.size, 6, none⟩) (by show w.heap.size < _; omega)).trans hT.p.2.2.2.2.2.2.1, (h.cell (p := ⟨w.heap.size, 7, none⟩) (by show w.heap.size < _; omega)).trans hT.p.2.2.2.2.2.2.2, (h.cell (p := ⟨w.heap.size + 1, 0, none⟩) (by show w.heap.size + 1 < _; omega)).trans hT.f.1, (h.cell (p := ⟨w.heap.size + 1, 1, none⟩) (by show w.heap.size + 1 < _; omega)).trans hT.f.2⟩
 have KS : Hid (∀ X : World, Below W.heap.size W X → ∀ v0 v1 v2 v3 v4 v5 v6 v7, (fun w' : World => w'.cell? ⟨w.heap.size, 0, none⟩ = some (.bool n0) ∧ w'.cell? ⟨w.heap.size, 1, none⟩ = some (.slice o0 l0 c0) ∧ w'.cell? ⟨w.heap.size, 2, none⟩ = some (.bool n1) ∧ w'.cell? ⟨w.heap.size, 3, none⟩ = some (.slice o1 l1 c1) ∧ w'.cell? ⟨w.heap.size, 4, none⟩ = some (.bool n2) ∧ w'.cell? ⟨w.heap.size, 5, none⟩ = some (.slice o2 l2 c2) ∧ w'.cell? ⟨w.heap.size, 6, none⟩ = some (.bool n3) ∧ w'.cell? ⟨w.heap.size, 7, none⟩ = some (.slice o3 l3 c3) ∧ w'.cell? ⟨w.heap.size + 1, 0, none⟩ = some (.bool nf) ∧ w'.cell? ⟨w.heap.size + 1, 1, none⟩ = some (.slice fo lf cf)) (put8 X (w.heap.size + 1 + 1) v0 v1 v2 v3 v4 v5 v6 v7)) := fun X h v0 v1 v2 v3 v4 v5 v6 v7 => by
  obtain ⟨h0, h1, h2, h3, h4, h5, h6, h7, h8, h9⟩ := KW.out X h
  (try dsimp only)
  rw [put8_off (by omega), put8_off (by omega), put8_off (by omega), put8_off (by omega), put8_off (by omega), put8_off (by omega), put8_off (by omega), put8_off (by omega), put8_off (by omega), put8_off (by omega)]
  exact ⟨h0, h1, h2, h3, h4, h5, h6, h7, h8, h9⟩
 have HF : Hid (Fresh8 W (w.heap.size + 1 + 1) ∧ Below w.heap.size w W) := ⟨hT.r, hT.below⟩
 clear hA hB hC hD hF
 go_enter Tryz.func121, Tryz.ntmps121
 go_upto_region 1 with fail
 rw [← hT.eq]
 clear hT
 refine wp_region_noPanic ?_
 refine wp_region_held_drew (S := fun w' => (w'.cell? ⟨w.heap.size, 0, none⟩ = some (.bool n0) ∧ w'.cell? ⟨w.heap.size, 1, none⟩ = some (.slice o0 l0 c0) ∧ w'.cell? ⟨w.heap.size, 2, none⟩ = some (.bool n1) ∧ w'.cell? ⟨w.heap.size, 3, none⟩ = some (.slice o1 l1 c1) ∧ w'.cell? ⟨w.heap.size, 4, none⟩ = some (.bool n2) ∧ w'.cell? ⟨w.heap.size, 5, none⟩ = some (.slice o2 l2 c2) ∧ w'.cell? ⟨w.heap.size, 6, none⟩ = some (.bool n3) ∧ w'.cell? ⟨w.heap.size, 7, none⟩ = some (.slice o3 l3 c3) ∧ w'.cell? ⟨w.heap.size + 1, 0, none⟩ = some (.bool nf) ∧ w'.cell? ⟨w.heap.size + 1, 1, none⟩ = some (.slice fo lf cf))) (by kernel_rfl) (by (try dsimp only); exact KW.out _ (Below.refl _ _).drew) (fun hHeld => ?_)
 refine wpAnyH_take (i := 0) (oi := Oper.mk (some 5) _ _ _ _ _) (v := ?_) rfl (by kernel_rfl) (by kernel_rfl) (by kernel_rfl) (fun _ _ _ h => h) (Or.inl ⟨by rfl, ?_⟩) (by assumption) ?_
 rotate_left
 ·
  (intro w hSw; (try dsimp only at hSw); go_simp <;> (try with_reducible rfl))
 (try simp only [Act.put, List.setIfInBounds_toArray, List.set_cons_zero, List.set_cons_succ])
 refine wpAnyH_take (i := 1) (oi := Oper.mk (some 6) _ _ _ _ _) (v := ?_) rfl (by kernel_rfl) (by kernel_rfl) (by kernel_rfl) (fun _ _ _ h => h) (Or.inl ⟨by rfl, ?_⟩) (by assumption) ?_
 rotate_left
 ·
  (intro w hSw; (try dsimp only at hSw); go_simp <;> (try with_reducible rfl))
 (try simp only [Act.put, List.setIfInBounds_toArray, List.set_cons_zero, List.set_cons_succ])
 refine wpAnyH_take (i := 2) (oi := Oper.mk (some 7) _ _ _ _ _) (v := ?_) rfl (by kernel_rfl) (by kernel_rfl) (by kernel_rfl) (fun _ _ _ h => h) (Or.inl ⟨by rfl, ?_⟩) (by assumption) ?_
 rotate_left
 ·
  (intro w hSw; (try dsimp only at hSw); go_simp <;> (try with_reducible rfl))
 (try simp only [Act.put, List.setIfInBounds_toArray, List.set_cons_zero, List.set_cons_succ])
 refine wpAnyH_take (i := 3) (oi := Oper.mk (some 8) _ _ _ _ _) (v := ?_) rfl (by kernel_rfl) (by kernel_rfl) (by kernel_rfl) (fun _ _ _ h => h) (Or.inl ⟨by rfl, ?_⟩) (by assumption) ?_
 rotate_left
 ·
  (intro w hSw; (try dsimp only at hSw); go_simp <;> (try with_reducible rfl))
 (try simp only [Act.put, List.setIfInBounds_toArray, List.set_cons_zero, List.set_cons_succ])
 refine wpAnyH_take (i := 4) (oi := Oper.mk (some 9) _ _ _ _ _) (v := ?_) rfl (by kernel_rfl) (by kernel_rfl) (by kernel_rfl) (fun _ _ _ h => h) (Or.inl ⟨by rfl, ?_⟩) (by assumption) ?_
 rotate_left
 ·
  (intro w hSw; (try dsimp only at hSw); go_simp <;> (try with_reducible rfl))
 (try simp only [Act.put, List.setIfInBounds_toArray, List.set_cons_zero, List.set_cons_succ])
 refine wpAnyH_take (i := 5) (oi := Oper.mk (some 10) _ _ _ _ _) (v := ?_) rfl (by kernel_rfl) (by kernel_rfl) (by kernel_rfl) (fun _ _ _ h => h) (Or.inl ⟨by rfl, ?_⟩) (by assumption) ?_
 rotate_left
 ·
  (intro w hSw; (try dsimp only at hSw); go_simp <;> (try with_reducible rfl))
 (try simp only [Act.put, List.setIfInBounds_toArray, List.set_cons_zero, List.set_cons_succ])
 refine wpAnyH_take (i := 7) (oi := Oper.mk (some 12) _ _ _ _ _) (v := ?_) rfl (by kernel_rfl) (by kernel_rfl) (by kernel_rfl) (fun _ _ _ h => h) (Or.inl ⟨by rfl, ?_⟩) (by assumption) ?_
 rotate_left
 ·
  (intro w hSw; (try dsimp only at hSw); go_simp <;> (try with_reducible rfl))
 (try simp only [Act.put, List.setIfInBounds_toArray, List.set_cons_zero, List.set_cons_succ])
 refine wpAnyH_take (i := 8) (oi := Oper.mk (some 13) _ _ _ _ _) (v := ?_) rfl (by kernel_rfl) (by kernel_rfl) (by kernel_rfl) (fun _ _ _ h => h) (Or.inl ⟨by rfl, ?_⟩) (by assumption) ?_
 rotate_left
 ·
  (intro w hSw; (try dsimp only at hSw); go_simp <;> (try with_reducible rfl))
 (try simp only [Act.put, List.setIfInBounds_toArray, List.set_cons_zero, List.set_cons_succ])
 refine wpAnyH_take (i := 9) (oi := Oper.mk (some 14) _ _ _ _ _) (v := ?_) rfl (by kernel_rfl) (by kernel_rfl) (by kernel_rfl) (fun _ _ _ h => h) (Or.inl ⟨by rfl, ?_⟩) (by assumption) ?_
 rotate_left
 ·
  (intro w hSw; (try dsimp only at hSw); go_simp <;> (try with_reducible rfl))
 (try simp only [Act.put, List.setIfInBounds_toArray, List.set_cons_zero, List.set_cons_succ])
 refine wpAnyH_take (i := 11) (oi := Oper.mk (some 16) _ _ _ _ _) (v := ?_) rfl (by kernel_rfl) (by kernel_rfl) (by kernel_rfl) (fun _ _ _ h => h) (Or.inl ⟨by rfl, ?_⟩) (by assumption) ?_
 rotate_left
 ·
  (intro w hSw; (try dsimp only at hSw); go_simp <;> (try with_reducible rfl))
 (try simp only [Act.put, List.setIfInBounds_toArray, List.set_cons_zero, List.set_cons_succ])
 refine wpAnyH_take (i := 12) (oi := Oper.mk (some 17) _ _ _ _ _) (v := ?_) rfl (by kernel_rfl) (by kernel_rfl) (by kernel_rfl) (fun _ _ _ h => h) (Or.inl ⟨by rfl, ?_⟩) (by assumption) ?_
 rotate_left
 ·
  (intro w hSw; (try dsimp only at hSw); go_simp <;> (try with_reducible rfl))
 (try simp only [Act.put, List.setIfInBounds_toArray, List.set_cons_zero, List.set_cons_succ])
 refine wpAnyH_take (i := 13) (oi := Oper.mk (some 18) _ _ _ _ _) (v := ?_) rfl (by kernel_rfl) (by kernel_rfl) (by kernel_rfl) (fun _ _ _ h => h) (Or.inl ⟨by rfl, ?_⟩) (by assumption) ?_
 rotate_left
 ·
  (intro w hSw; (try dsimp only at hSw); go_simp <;> (try with_reducible rfl))
 (try simp only [Act.put, List.setIfInBounds_toArray, List.set_cons_zero, List.set_cons_succ])
 refine wpAnyH_take (i := 14) (oi := Oper.mk (some 19) _ _ _ _ _) (v := ?_) rfl (by kernel_rfl) (by kernel_rfl) (by kernel_rfl) (fun _ _ _ h => h) (Or.inl ⟨by rfl, ?_⟩) (by assumption) ?_
 rotate_left
 ·
  (intro w hSw; (try dsimp only at hSw); go_simp <;> (try with_reducible rfl))
 (try simp only [Act.put, List.setIfInBounds_toArray, List.set_cons_zero, List.set_cons_succ])
 refine wpAnyH_take (i := 16) (oi := Oper.mk (some 21) _ _ _ _ _) (v := ?_) rfl (by kernel_rfl) (by kernel_rfl) (by kernel_rfl) (fun _ _ _ h => h) (Or.inl ⟨by rfl, ?_⟩) (by assumption) ?_
 rotate_left
 ·
  (intro w hSw; (try dsimp only at hSw); go_simp <;> (try with_reducible rfl))
 (try simp only [Act.put, List.setIfInBounds_toArray, List.set_cons_zero, List.set_cons_succ])
 refine wpAnyH_take (i := 17) (oi := Oper.mk (some 22) _ _ _ _ _) (v := ?_) rfl (by kernel_rfl) (by kernel_rfl) (by kernel_rfl) (fun _ _ _ h => h) (Or.inl ⟨by rfl, ?_⟩) (by assumption) ?_
 rotate_left
 ·
  (intro w hSw; (try dsimp only at hSw); go_simp <;> (try with_reducible rfl))
 (try simp only [Act.put, List.setIfInBounds_toArray, List.set_cons_zero, List.set_cons_succ])
 refine wpAnyH_take (i := 18) (oi := Oper.mk (some 23) _ _ _ _ _) (v := ?_) rfl (by kernel_rfl) (by kernel_rfl) (by kernel_rfl) (fun _ _ _ h => h) (Or.inl ⟨by rfl, ?_⟩) (by assumption) ?_
 rotate_left
 ·
  (intro w hSw; (try dsimp only at hSw); go_simp <;> (try with_reducible rfl))
 (try simp only [Act.put, List.setIfInBounds_toArray, List.set_cons_zero, List.set_cons_succ])
 refine wpAnyH_ready (rs := [6]) (by kernel_rfl) (by simp) ?_
 refine AllReadyH.cons (o := Oper.mk (some 11) _ _ _ _ _) rfl (fun K hK => ?_) AllReadyH.nil
 go_simp
 (go_at_call 109; refine (rtimes2_any nf n2 fo o2 lf cf l2 c2 f C _ (HX.out.2.2.later (Below.refl _ _).drew) (HX.out.2.1.1.later (Below.refl _ _).drew) (by omega) (by omega)).mono ?_; rintro e f1 ⟨n6, o6, l6, c6, rfl, hs, ho, hb⟩; have H1 : Hid (IntAt f1 n6 o6 l6 c6 (f * C)) := ho.int hs; have hl6 : l6 ≤ 3000 := (by rw [ho.row.hlen]; exact HL.out.1); clear hs ho; have hbF1 : Below W.heap.size W f1 := bnext (Below.refl _ _).drew hb; clear hb)
 (try go_wp2_with fail)
 clear hHeld
 refine hK.out _ _ (by (try dsimp only); first | exact KW.out _ (Below.refl _ _).drew | exact KW.out _ (by assumption)) (fun hHeld => ?_)
 clear hK K
 (try simp only [Act.put, List.setIfInBounds_toArray, List.set_cons_zero, List.set_cons_succ])
 refine wpAnyH_ready (rs := [10]) (by kernel_rfl) (by simp) ?_
 refine AllReadyH.cons (o := Oper.mk (some 15) _ _ _ _ _) rfl (fun K hK => ?_) AllReadyH.nil
 go_simp
 (go_at_call 111; refine (rplus2_any n6 n0 o6 o0 l6 c6 l0 c0 (f * C) A _ (H1.out.later (Below.refl _ _)) (HX.out.1.1.later hbF1) (by omega) (by omega)).mono ?_; rintro e f2 ⟨n4, o4, l4, c4, rfl, hs, ho, hb⟩; have H2 : Hid (n4 = sgB (f * C + A) ∧ Own W.heap.size f2 .u64 59 o4 l4 c4 (mag (f * C + A).natAbs)) := ⟨hs, ho.mono hbF1.size⟩; clear hs ho; have hbF2 : Below W.heap.size W f2 := bnext hbF1 hb; clear hb)
 (try go_wp2_with fail)
 clear hHeld
 refine hK.out _ _ (by (try dsimp only); first | exact KW.out _ (Below.refl _ _).drew | exact KW.out _ (by assumption)) (fun hHeld => ?_)
 clear hK K
 (try simp only [Act.put, List.setIfInBounds_toArray, List.set_cons_zero, List.set_cons_succ])
 refine wpAnyH_ready (rs := [15]) (by kernel_rfl) (by simp) ?_
 refine AllReadyH.cons (o := Oper.mk (some 20) _ _ _ _ _) rfl (fun K hK => ?_) AllReadyH.nil
 go_simp
 (go_at_call 109; refine (rtimes2_any nf n3 fo o3 lf cf l3 c3 f D _ (HX.out.2.2.later hbF2) (HX.out.2.1.2.later hbF2) (by omega) (by omega)).mono ?_; rintro e f3 ⟨n7, o7, l7, c7, rfl, hs, ho, hb⟩; have H3 : Hid (IntAt f3 n7 o7 l7 c7 (f * D) ∧ Own W.heap.size f3 .u64 59 o4 l4 c4 (mag (f * C + A).natAbs)) := ⟨ho.int hs, H2.out.2.later hb⟩; have hl7 : l7 ≤ 3000 := (by rw [ho.row.hlen]; exact HL.out.2); clear hs ho; have hbF3 : Below W.heap.size W f3 := bnext hbF2 hb; clear hb)
 (try go_wp2_with fail)
 clear hHeld
 refine hK.out _ _ (by (try dsimp only); first | exact KW.out _ (Below.refl _ _).drew | exact KW.out _ (by assumption)) (fun hHeld => ?_)
 clear hK K
 (try simp only [Act.put, List.setIfInBounds_toArray, List.set_cons_zero, List.set_cons_succ])
 refine wpAnyH_ready (rs := [19]) (by kernel_rfl) (by simp) ?_
 refine AllReadyH.cons (o := Oper.mk (some 24) _ _ _ _ _) rfl (fun K hK => ?_) AllReadyH.nil
 go_simp
 (go_at_call 111; refine (rplus2_any n7 n1 o7 o1 l7 c7 l1 c1 (f * D) B _ (H3.out.1.later (Below.refl _ _)) (HX.out.1.2.later hbF3) (by omega) (by omega)).mono ?_; rintro e f4 ⟨n5, o5, l5, c5, rfl, hs, ho, hb⟩; have H4 : Hid (n5 = sgB (f * D + B) ∧ Own W.heap.size f4 .u64 59 o5 l5 c5 (mag (f * D + B).natAbs) ∧ Own W.heap.size f4 .u64 59 o4 l4 c4 (mag (f * C + A).natAbs) ∧ Parted o4 o5 ∧ Below W.heap.size W f4) := ⟨hs, ho.mono hbF3.size, H3.out.2.later hb, Parted.made H3.out.2 ho (Nat.le_refl _), bnext hbF3 hb⟩; clear hs ho; obtain ⟨k9, k0, k1, k2, k3, k4, k5, k6, k7⟩ := HF.out.1.later (bnext hbF3 hb) (by omega); have hbF4 : Below W.heap.size W f4 := bnext hbF3 hb; clear hb)
 (try go_wp2_with fail)
 clear hHeld
 refine hK.out _ _ (by (try dsimp only); first | exact KW.out _ (Below.refl _ _).drew | exact KW.out _ (by assumption)) (fun hHeld => ?_)
 clear hK K
 (try simp only [Act.put, List.setIfInBounds_toArray, List.set_cons_zero, List.set_cons_succ])
 refine wpAnyH_take (i := 20) (oi := Oper.mk (some 25) _ _ _ _ _) (v := ?_) rfl (by kernel_rfl) (by kernel_rfl) (by kernel_rfl) (fun _ _ _ h => h) (Or.inl ⟨by rfl, ?_⟩) (by assumption) ?_
 rotate_left
 ·
  (intro w hSw; (try dsimp only at hSw); go_simp <;> (try with_reducible rfl))
 (try simp only [Act.put, List.setIfInBounds_toArray, List.set_cons_zero, List.set_cons_succ])
 refine wpAnyH_take (i := 21) (oi := Oper.mk (some 26) _ _ _ _ _) (v := ?_) rfl (by kernel_rfl) (by kernel_rfl) (by kernel_rfl) (fun _ _ _ h => h) (Or.inl ⟨by rfl, ?_⟩) (by assumption) ?_
 rotate_left
 ·
  (intro w hSw; (try dsimp only at hSw); go_simp <;> (try with_reducible rfl))
 (try simp only [Act.put, List.setIfInBounds_toArray, List.set_cons_zero, List.set_cons_succ])
 refine wpAnyH_ready (rs := [22]) (by kernel_rfl) (by simp) ?_
 refine AllReadyH.cons (o := Oper.mk none _ _ _ _ _) rfl (fun K hK => ?_) AllReadyH.nil
 go_simp
 clear hHeld
 refine hK.out _ _ (by (try dsimp only); exact KS.out _ hbF4 _ _ _ _ _ _ _ _) (fun hHeld => ?_)
 clear hK K
 (try simp only [Act.put, List.setIfInBounds_toArray, List.set_cons_zero, List.set_cons_succ])
 refine wpAnyH_done (by kernel_rfl) ?_ _
 refine NoPanic.normal ?_
 all_goals go_wp2
 exact bodyPost_ret (v := .agg #[.bool n2, .slice o2 l2 c2, .bool n3, .slice o3 l3 c3, .bool n4, .slice o4 l4 c4, .bool n5, .slice o5 l5 c5]) (by simp [results, Tryz.results121, go_sem, k0, k1, k2, k3, k4, k5, k6, k7]) rfl
  ⟨_, _, _, _, _, _, _, _, rfl, ⟨H2.out.1, (put8_own H4.out.2.2.1 (by omega) _ _ _ _ _ _ _ _).mono (by omega)⟩, ⟨H4.out.1, (put8_own H4.out.2.1 (by omega) _ _ _ _ _ _ _ _).mono (by omega)⟩, H4.out.2.2.2.1, put8_below (bnext HF.out.2 H4.out.2.2.2.2) (by omega) _ _ _ _ _ _ _ _⟩
end Go.Proofs.YtiiefpnkpfliiaaGreatDoor
