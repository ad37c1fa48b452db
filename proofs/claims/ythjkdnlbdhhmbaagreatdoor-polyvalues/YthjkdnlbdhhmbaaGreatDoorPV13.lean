/-
  A pack of walks and facts: ES.
-/
import Derived.Test.YthjkdnlbdhhmbaaGreatDoorPV10
set_option maxRecDepth 100000
set_option maxHeartbeats 40000000
set_option linter.unusedVariables false
set_option linter.unusedSimpArgs false
namespace Go.Proofs.YthjkdnlbdhhmbaaGreatDoor
open Go.RowKit Go.Shelf
def FloorOf (v u q r : Int) : Prop := v = u * q + r ∧ (0 < u ∧ 0 ≤ r ∧ r < u ∨ u < 0 ∧ u < r ∧ r ≤ 0)
theorem FloorOf.pos {v u q r : Int} (h : FloorOf v u q r) (hu : 0 < u) : q = v / u ∧ r = v % u := by
 obtain ⟨h1, h2 | h2⟩ := h
 ·
  have h3 : q = v / u := by
   rw [h1, Int.mul_add_ediv_left _ _ (by omega), Int.ediv_eq_zero_of_lt h2.2.1 h2.2.2, Int.add_zero]
  refine ⟨h3, ?_⟩
  have := Int.mul_ediv_add_emod v u
  rw [← h3] at this; omega
 ·
  omega
theorem floor_math {na nb : Bool} {v u : Int} (hv : na = sgB v) (hu : nb = sgB u) (h0 : u ≠ 0) :
  ((na != nb) = false ∨ v.natAbs % u.natAbs = 0 → FloorOf v u (sgn (na != nb) (v.natAbs / u.natAbs)) (sgn nb (v.natAbs % u.natAbs))) ∧
  ((na != nb) = true → v.natAbs % u.natAbs ≠ 0 → FloorOf v u (sgn (na != nb) (v.natAbs / u.natAbs + 1)) (sgn nb (u.natAbs - v.natAbs % u.natAbs))) := by
 have h1 := sgn_of hv
 have h2 := sgn_of hu
 obtain ⟨a, ha⟩ : ∃ a, v.natAbs = a := ⟨_, rfl⟩
 obtain ⟨b, hb⟩ : ∃ b, u.natAbs = b := ⟨_, rfl⟩
 have hb0 : 0 < b := by omega
 rw [ha] at h1 ⊢; rw [hb] at h2 ⊢
 have hd := Nat.div_add_mod a b
 have hm := Nat.mod_lt a hb0
 generalize a / b = q at *
 generalize a % b = r at *
 have hd' : (a : Int) = (b : Int) * (q : Int) + (r : Int) := by rw [← hd, Int.natCast_add, Int.natCast_mul]
 unfold FloorOf
 unfold sgn at h1 h2 ⊢
 cases na <;> cases nb <;> simp at h1 h2 ⊢ <;> subst h1 <;> subst h2
 ·
  exact ⟨hd', Or.inl (by omega)⟩
 ·
  refine ⟨fun hr => ?_, fun hr => ?_⟩
  ·
   subst hr; refine ⟨by rw [hd']; grind, Or.inr (by omega)⟩
  ·
   refine ⟨?_, Or.inr (by omega)⟩
   rw [hd', show ((b - r : Nat) : Int) = (b : Int) - (r : Int) by omega]; grind
 ·
  refine ⟨fun hr => ?_, fun hr => ?_⟩
  ·
   subst hr; refine ⟨by rw [hd']; grind, Or.inl (by omega)⟩
  ·
   refine ⟨?_, Or.inl (by omega)⟩
   rw [hd', show ((b - r : Nat) : Int) = (b : Int) - (r : Int) by omega]; grind
 ·
  exact ⟨by rw [hd']; grind, Or.inr (by omega)⟩
def TwoIntErr (w w' : World) (e : Ending) (x y : Int) : Prop :=
 ∃ n1 ao1 l1 c1 n2 ao2 l2 c2, e = .returned (.tuple #[.agg #[.bool n1, .slice ao1 l1 c1], .agg #[.bool n2, .slice ao2 l2 c2], .int .i64 0]) ∧ n1 = sgB x ∧ Own w.heap.size w' .u64 60 ao1 l1 c1 (mag x.natAbs) ∧ n2 = sgB y ∧ Own w.heap.size w' .u64 60 ao2 l2 c2 (mag y.natAbs) ∧ Below w.heap.size w w'
def TwoIntErrP (w w' : World) (e : Ending) (x y : Int) : Prop :=
 ∃ n1 ao1 l1 c1 n2 ao2 l2 c2, e = .returned (.tuple #[.agg #[.bool n1, .slice ao1 l1 c1], .agg #[.bool n2, .slice ao2 l2 c2], .int .i64 0]) ∧ n1 = sgB x ∧ Own w.heap.size w' .u64 60 ao1 l1 c1 (mag x.natAbs) ∧ n2 = sgB y ∧ Own w.heap.size w' .u64 60 ao2 l2 c2 (mag y.natAbs) ∧ Below w.heap.size w w' ∧ Parted ao1 ao2
theorem TwoIntErrP.less {w w' : World} {e : Ending} {x y : Int} (h : TwoIntErrP w w' e x y) : TwoIntErr w w' e x y := by
 obtain ⟨n1, ao1, l1, c1, n2, ao2, l2, c2, h1, h2, h3, h4, h5, h6, _⟩ := h
 exact ⟨n1, ao1, l1, c1, n2, ao2, l2, c2, h1, h2, h3, h4, h5, h6⟩
structure Two4 (w W : World) (na nb : Bool) (ao bo : Option Addr) (la ca lb cb : Nat) : Prop where
 eq : W = (((w.alloc (.cells #[.bool na, .slice ao la ca] 28)).alloc (.cells #[.bool nb, .slice bo lb cb] 28)).alloc (.cells #[.bool false, .slice none 0 0] 28)).alloc (.cells #[.bool false, .slice none 0 0] 28)
 below : Below w.heap.size w W
 size : W.heap.size = w.heap.size + 4
 a : Boxed W w.heap.size na ao la ca
 b : Boxed W (w.heap.size + 1) nb bo lb cb
 r : Fresh W (w.heap.size + 1 + 1)
 r2 : Fresh W (w.heap.size + 1 + 1 + 1)
theorem Two4.mk' (w : World) (na nb : Bool) (ao bo : Option Addr) (la ca lb cb : Nat) : ∃ W, Two4 w W na nb ao bo la ca lb cb := by
 obtain ⟨X, hX⟩ := Two3.mk' w na nb ao bo la ca lb cb
 have hs := hX.size
 have h1 : Below X.heap.size X (X.alloc (.cells #[.bool false, .slice none 0 0] 28)) := (Below.refl _ _).alloc (Nat.le_refl _) _
 have h2 := Fresh.new X
 rw [hs] at h2
 exact ⟨X.alloc (.cells #[.bool false, .slice none 0 0] 28), by rw [hX.eq], bnext hX.below h1, by simp [hs], hX.a.later h1 (by omega), hX.b.later h1 (by omega), hX.r.later h1 (by omega), h2⟩
theorem TwoIntErrP.of {w w' : World} {m1 m2 : Bool} {a1 a2 : Option Addr} {l1 c1 l2 c2 : Nat} {q r : Int} (h : NewInt w w' (.returned (.agg #[.bool m1, .slice a1 l1 c1])) q) (k : NewInt w w' (.returned (.agg #[.bool m2, .slice a2 l2 c2])) r) (hp : Parted a1 a2) : TwoIntErrP w w' (.returned (.tuple #[.agg #[.bool m1, .slice a1 l1 c1], .agg #[.bool m2, .slice a2 l2 c2], .int .i64 0])) q r := by
 obtain ⟨n1, a1, l1, c1, he1, hs1, ho1, hb1⟩ := h
 obtain ⟨n2, a2, l2, c2, he2, hs2, ho2, hb2⟩ := k
 cases he1; cases he2
 exact ⟨_, _, _, _, _, _, _, _, rfl, hs1, ho1, hs2, ho2, hb1, hp⟩
theorem two_stored {w w4 : World} {s : Nat} {a1 a2 : Option Addr} {l1 c1 l2 c2 q r B : Nat} {n1 n2 : Bool} {x y : Int} (ho1 : Own B w4 .u64 60 a1 l1 c1 (mag q)) (ho2 : Own B w4 .u64 60 a2 l2 c2 (mag r)) (hB : s + 1 + 1 + 1 < B) (hs : w.heap.size = s) (hb : Below w.heap.size w w4)
  (hx : x = sgn n1 q) (hy : y = sgn n2 r) (hp : Parted a1 a2) (v1 v2 v3 v4 : Value) :
  TwoIntErrP w ((((w4.setCell ⟨s + 1 + 1, 0, none⟩ v1).setCell ⟨s + 1 + 1, 1, none⟩ v2).setCell ⟨s + 1 + 1 + 1, 0, none⟩ v3).setCell ⟨s + 1 + 1 + 1, 1, none⟩ v4) (.returned (.tuple #[.agg #[.bool (n1 && decide (0 < l1)), .slice a1 l1 c1], .agg #[.bool (n2 && decide (0 < l2)), .slice a2 l2 c2], .int .i64 0])) x y :=
 TwoIntErrP.of (NewInt.ret (((ho1.store (by omega) _ _).store (by omega) _ _)) (by omega) hx (below_store (below_store hb (by omega) _ _) (by omega) _ _)) (NewInt.ret (((ho2.store (by omega) _ _).store (by omega) _ _)) (by omega) hy (below_store (below_store hb (by omega) _ _) (by omega) _ _)) hp
theorem bdivide_ff (ao bo : Option Addr) (la ca lb cb : Nat) (a b : Int) (w : World) (hx : IntAt w false ao la ca a) (hy : IntAt w false bo lb cb b) (hl : la ≤ 4294967295) (hl' : lb ≤ 4294967295) (h0 : b ≠ 0) :
  Calls Tryz.prog 92 #[.agg #[.bool false, .slice ao la ca], .agg #[.bool false, .slice bo lb cb]] w fun e w' => ∃ q r, FloorOf a b q r ∧ TwoIntErrP w w' e q r := by
 obtain ⟨W, hT⟩ := Two4.mk' w false false ao bo la ca lb cb
 have hsz := hT.size
 have hc : (if mayB false (mag a.natAbs) && mayB false (mag b.natAbs) then 0 else 10 : Int) = 0 := by
  have e1 := may_int a
  have e2 := may_int b
  rw [← hx.sg] at e1; rw [← hy.sg] at e2; rw [e1, e2]; rfl
 have HC : Hid _ := hc
 have HF : Hid (FloorOf a b (sgn false (a.natAbs / b.natAbs)) (sgn false (a.natAbs % b.natAbs))) := (floor_math (na := false) (nb := false) hx.sg hy.sg h0).1 (Or.inl rfl)
 have hb0 : 0 < b.natAbs := by omega
 have hlb0 : ((lb : Int) == 0) = false := by
  have : 0 < lb := by rw [hy.row.hlen]; exact mag_len_pos.2 hb0
  simp; omega
 have hRx := hx.later hT.below
 have hRy := hy.later hT.below
 have HG : Hid ((mag (a.natAbs / b.natAbs)).length ≤ la ∧ (mag (a.natAbs % b.natAbs)).length ≤ lb ∧ True) :=
  ⟨by rw [hx.row.hlen]; exact mag_len_mono (Nat.div_le_self _ _), by rw [hy.row.hlen]; exact mag_len_mono (Nat.le_of_lt (Nat.mod_lt _ hb0)), trivial⟩
 have HLE : Hid (a.natAbs % b.natAbs ≤ b.natAbs) := Nat.le_of_lt (Nat.mod_lt _ hb0)
 clear hc hx hy
 have KS : Hid (∀ w' : World, Below (w.heap.size + 2) W w' → (Below (w.heap.size + 2) W w' ∧ w'.cell? ⟨w.heap.size, 0, none⟩ = some (.bool false) ∧ w'.cell? ⟨w.heap.size, 1, none⟩ = some (.slice ao la ca) ∧ w'.cell? ⟨w.heap.size + 1, 0, none⟩ = some (.bool false) ∧ w'.cell? ⟨w.heap.size + 1, 1, none⟩ = some (.slice bo lb cb))) := fun w' h => ⟨h, (h.cell (p := ⟨w.heap.size, 0, none⟩) (by show w.heap.size < _; omega)).trans hT.a.1, (h.cell (p := ⟨w.heap.size, 1, none⟩) (by show w.heap.size < _; omega)).trans hT.a.2, (h.cell (p := ⟨w.heap.size + 1, 0, none⟩) (by show w.heap.size + 1 < _; omega)).trans hT.b.1, (h.cell (p := ⟨w.heap.size + 1, 1, none⟩) (by show w.heap.size + 1 < _; omega)).trans hT.b.2⟩
 have K1 : Hid (∀ w1 w2 : World, (Below (w.heap.size + 2) W w1 ∧ w1.cell? ⟨w.heap.size, 0, none⟩ = some (.bool false) ∧ w1.cell? ⟨w.heap.size, 1, none⟩ = some (.slice ao la ca) ∧ w1.cell? ⟨w.heap.size + 1, 0, none⟩ = some (.bool false) ∧ w1.cell? ⟨w.heap.size + 1, 1, none⟩ = some (.slice bo lb cb)) → Below w1.heap.size w1 w2 → (Below (w.heap.size + 2) W w2 ∧ w2.cell? ⟨w.heap.size, 0, none⟩ = some (.bool false) ∧ w2.cell? ⟨w.heap.size, 1, none⟩ = some (.slice ao la ca) ∧ w2.cell? ⟨w.heap.size + 1, 0, none⟩ = some (.bool false) ∧ w2.cell? ⟨w.heap.size + 1, 1, none⟩ = some (.slice bo lb cb))) := fun w1 w2 h hb => KS.out _ (h.1.trans (hb.mono (by have := h.1.size; omega)))
 have K2 : Hid (∀ w1 w2 : World, (Below (w.heap.size + 2) W w1 ∧ w1.cell? ⟨w.heap.size, 0, none⟩ = some (.bool false) ∧ w1.cell? ⟨w.heap.size, 1, none⟩ = some (.slice ao la ca) ∧ w1.cell? ⟨w.heap.size + 1, 0, none⟩ = some (.bool false) ∧ w1.cell? ⟨w.heap.size + 1, 1, none⟩ = some (.slice bo lb cb)) → Below (w.heap.size + 2) w1 w2 → (Below (w.heap.size + 2) W w2 ∧ w2.cell? ⟨w.heap.size, 0, none⟩ = some (.bool false) ∧ w2.cell? ⟨w.heap.size, 1, none⟩ = some (.slice ao la ca) ∧ w2.cell? ⟨w.heap.size + 1, 0, none⟩ = some (.bool false) ∧ w2.cell? ⟨w.heap.size + 1, 1, none⟩ = some (.slice bo lb cb))) := fun w1 w2 h hb => KS.out _ (h.1.trans hb)
 go_enter Tryz.func92, Tryz.ntmps92
 go_wp2_with (first
  | (go_at_call 102; rw [← hT.eq]; refine (checkBoth_any false false ao bo la ca lb cb _ _ _ hRx.row hRy.row (by omega) (by omega) 0 HC.out).mono ?_; rintro e w1 ⟨rfl, hb1⟩; have hs1 := hb1.size; obtain ⟨p0, p1⟩ := hT.a.later hb1 (by omega); obtain ⟨p2, p3⟩ := hT.b.later hb1 (by omega))
  | (go_at_call 112; refine (divide_any ao bo la ca lb cb a.natAbs b.natAbs _ (hRx.row.later hb1) (hRy.row.later hb1) (by omega) (by omega) hb0).mono ?_; rintro e w2 ⟨ao2, l2, c2, ao3, l3, c3, rfl, ho2, ho3, hb2, hpt⟩; have HPT : Hid (Parted ao2 ao3) := hpt; clear hpt; have hl2 : l2 ≤ la := (by rw [ho2.row.hlen]; exact HG.out.1); have hl3 : l3 ≤ lb := (by rw [ho3.row.hlen]; exact HG.out.2.1); clear p0 p1 p2 p3; obtain ⟨p0, p1⟩ := hT.a.later (bnext hb1 hb2) (by omega); obtain ⟨p2, p3⟩ := hT.b.later (bnext hb1 hb2) (by omega)))
 have hbX : Below (w.heap.size + 2) W w2 := (bnext hb1 hb2).mono (by omega)
 clear p0 p1 p2 p3
 go_region_held3 (fun w' => Below (w.heap.size + 2) W w' ∧ w'.cell? ⟨w.heap.size, 0, none⟩ = some (.bool false) ∧ w'.cell? ⟨w.heap.size, 1, none⟩ = some (.slice ao la ca) ∧ w'.cell? ⟨w.heap.size + 1, 0, none⟩ = some (.bool false) ∧ w'.cell? ⟨w.heap.size + 1, 1, none⟩ = some (.slice bo lb cb))
  (first
   | exact KS.out _ hbX.drew
   | exact K1.out _ _ (by assumption) (by assumption)
   | exact K2.out _ _ (by assumption) (below_store (Below.refl _ _) (by omega) _ _))
  (first
   | (go_at_call_of 84 ao2; have _t := hl; refine (signed_any false ao2 l2 c2 _ (by omega)).mono ?_; rintro e w3 ⟨rfl, hb3⟩)
   | (go_at_call_of 84 ao3; refine (signed_any false ao3 l3 c3 _ (by omega)).mono ?_; rintro e w4 ⟨rfl, hb4⟩; have hbF : Below W.heap.size W w4 := bnext (bnext (bnext hb1 hb2) (bnext (Below.refl _ _).drew hb3)) hb4; obtain ⟨g5, g3, g4⟩ := hT.r.later hbF (by omega); obtain ⟨g8, g6, g7⟩ := hT.r2.later hbF (by omega)))
 go_wp2
 exact bodyPost_ret (v := .tuple #[.agg #[.bool (false && decide (0 < l2)), .slice ao2 l2 c2], .agg #[.bool (false && decide (0 < l3)), .slice ao3 l3 c3], .int .i64 0]) (by simp [results, Tryz.results92, go_sem, g3, g4, g6, g7]) rfl
  ⟨_, _, HF.out, two_stored ((ho2.later (bnext (Below.refl _ _).drew hb3)).later hb4) ((ho3.later (bnext (Below.refl _ _).drew hb3)).later hb4) (by omega) rfl (bnext hT.below hbF) rfl rfl HPT.out _ _ _ _⟩
theorem bdivide_ft (ao bo : Option Addr) (la ca lb cb : Nat) (a b : Int) (w : World) (hx : IntAt w false ao la ca a) (hy : IntAt w true bo lb cb b) (hl : la ≤ 4294967295) (hl' : lb ≤ 4294967295) (h0 : b ≠ 0) (hr : a.natAbs % b.natAbs = 0) :
  Calls Tryz.prog 92 #[.agg #[.bool false, .slice ao la ca], .agg #[.bool true, .slice bo lb cb]] w fun e w' => ∃ q r, FloorOf a b q r ∧ TwoIntErrP w w' e q r := by
 obtain ⟨W, hT⟩ := Two4.mk' w false true ao bo la ca lb cb
 have hsz := hT.size
 have hc : (if mayB false (mag a.natAbs) && mayB true (mag b.natAbs) then 0 else 10 : Int) = 0 := by
  have e1 := may_int a
  have e2 := may_int b
  rw [← hx.sg] at e1; rw [← hy.sg] at e2; rw [e1, e2]; rfl
 have HC : Hid _ := hc
 have HF : Hid (FloorOf a b (sgn true (a.natAbs / b.natAbs)) (sgn true (a.natAbs % b.natAbs))) := (floor_math (na := false) (nb := true) hx.sg hy.sg h0).1 (Or.inr hr)
 have hb0 : 0 < b.natAbs := by omega
 have hlb0 : ((lb : Int) == 0) = false := by
  have : 0 < lb := by rw [hy.row.hlen]; exact mag_len_pos.2 hb0
  simp; omega
 have hRx := hx.later hT.below
 have hRy := hy.later hT.below
 have HG : Hid ((mag (a.natAbs / b.natAbs)).length ≤ la ∧ (mag (a.natAbs % b.natAbs)).length ≤ lb ∧ a.natAbs % b.natAbs = 0) :=
  ⟨by rw [hx.row.hlen]; exact mag_len_mono (Nat.div_le_self _ _), by rw [hy.row.hlen]; exact mag_len_mono (Nat.le_of_lt (Nat.mod_lt _ hb0)), hr⟩
 have HLE : Hid (a.natAbs % b.natAbs ≤ b.natAbs) := Nat.le_of_lt (Nat.mod_lt _ hb0)
 clear hc hx hy hr
 have KS : Hid (∀ w' : World, Below (w.heap.size + 2) W w' → (Below (w.heap.size + 2) W w' ∧ w'.cell? ⟨w.heap.size, 0, none⟩ = some (.bool false) ∧ w'.cell? ⟨w.heap.size, 1, none⟩ = some (.slice ao la ca) ∧ w'.cell? ⟨w.heap.size + 1, 0, none⟩ = some (.bool true) ∧ w'.cell? ⟨w.heap.size + 1, 1, none⟩ = some (.slice bo lb cb))) := fun w' h => ⟨h, (h.cell (p := ⟨w.heap.size, 0, none⟩) (by show w.heap.size < _; omega)).trans hT.a.1, (h.cell (p := ⟨w.heap.size, 1, none⟩) (by show w.heap.size < _; omega)).trans hT.a.2, (h.cell (p := ⟨w.heap.size + 1, 0, none⟩) (by show w.heap.size + 1 < _; omega)).trans hT.b.1, (h.cell (p := ⟨w.heap.size + 1, 1, none⟩) (by show w.heap.size + 1 < _; omega)).trans hT.b.2⟩
 have K1 : Hid (∀ w1 w2 : World, (Below (w.heap.size + 2) W w1 ∧ w1.cell? ⟨w.heap.size, 0, none⟩ = some (.bool false) ∧ w1.cell? ⟨w.heap.size, 1, none⟩ = some (.slice ao la ca) ∧ w1.cell? ⟨w.heap.size + 1, 0, none⟩ = some (.bool true) ∧ w1.cell? ⟨w.heap.size + 1, 1, none⟩ = some (.slice bo lb cb)) → Below w1.heap.size w1 w2 → (Below (w.heap.size + 2) W w2 ∧ w2.cell? ⟨w.heap.size, 0, none⟩ = some (.bool false) ∧ w2.cell? ⟨w.heap.size, 1, none⟩ = some (.slice ao la ca) ∧ w2.cell? ⟨w.heap.size + 1, 0, none⟩ = some (.bool true) ∧ w2.cell? ⟨w.heap.size + 1, 1, none⟩ = some (.slice bo lb cb))) := fun w1 w2 h hb => KS.out _ (h.1.trans (hb.mono (by have := h.1.size; omega)))
 have K2 : Hid (∀ w1 w2 : World, (Below (w.heap.size + 2) W w1 ∧ w1.cell? ⟨w.heap.size, 0, none⟩ = some (.bool false) ∧ w1.cell? ⟨w.heap.size, 1, none⟩ = some (.slice ao la ca) ∧ w1.cell? ⟨w.heap.size + 1, 0, none⟩ = some (.bool true) ∧ w1.cell? ⟨w.heap.size + 1, 1, none⟩ = some (.slice bo lb cb)) → Below (w.heap.size + 2) w1 w2 → (Below (w.heap.size + 2) W w2 ∧ w2.cell? ⟨w.heap.size, 0, none⟩ = some (.bool false) ∧ w2.cell? ⟨w.heap.size, 1, none⟩ = some (.slice ao la ca) ∧ w2.cell? ⟨w.heap.size + 1, 0, none⟩ = some (.bool true) ∧ w2.cell? ⟨w.heap.size + 1, 1, none⟩ = some (.slice bo lb cb))) := fun w1 w2 h hb => KS.out _ (h.1.trans hb)
 go_enter Tryz.func92, Tryz.ntmps92
 go_wp2_with (first
  | (go_at_call 102; rw [← hT.eq]; refine (checkBoth_any false true ao bo la ca lb cb _ _ _ hRx.row hRy.row (by omega) (by omega) 0 HC.out).mono ?_; rintro e w1 ⟨rfl, hb1⟩; have hs1 := hb1.size; obtain ⟨p0, p1⟩ := hT.a.later hb1 (by omega); obtain ⟨p2, p3⟩ := hT.b.later hb1 (by omega))
  | (go_at_call 112; refine (divide_any ao bo la ca lb cb a.natAbs b.natAbs _ (hRx.row.later hb1) (hRy.row.later hb1) (by omega) (by omega) hb0).mono ?_; rintro e w2 ⟨ao2, l2, c2, ao3, l3, c3, rfl, ho2, ho3, hb2, hpt⟩; have HPT : Hid (Parted ao2 ao3) := hpt; clear hpt; have hl2 : l2 ≤ la := (by rw [ho2.row.hlen]; exact HG.out.1); have hl3 : l3 ≤ lb := (by rw [ho3.row.hlen]; exact HG.out.2.1); have hl30 : l3 = 0 := (by rw [ho3.row.hlen, HG.out.2.2]; rfl); subst hl30; clear p0 p1 p2 p3; obtain ⟨p0, p1⟩ := hT.a.later (bnext hb1 hb2) (by omega); obtain ⟨p2, p3⟩ := hT.b.later (bnext hb1 hb2) (by omega)))
 have hbX : Below (w.heap.size + 2) W w2 := (bnext hb1 hb2).mono (by omega)
 clear p0 p1 p2 p3
 go_region_held3 (fun w' => Below (w.heap.size + 2) W w' ∧ w'.cell? ⟨w.heap.size, 0, none⟩ = some (.bool false) ∧ w'.cell? ⟨w.heap.size, 1, none⟩ = some (.slice ao la ca) ∧ w'.cell? ⟨w.heap.size + 1, 0, none⟩ = some (.bool true) ∧ w'.cell? ⟨w.heap.size + 1, 1, none⟩ = some (.slice bo lb cb))
  (first
   | exact KS.out _ hbX.drew
   | exact K1.out _ _ (by assumption) (by assumption)
   | exact K2.out _ _ (by assumption) (below_store (Below.refl _ _) (by omega) _ _))
  (first
   | (go_at_call_of 84 ao2; have _t := hl; refine (signed_any true ao2 l2 c2 _ (by omega)).mono ?_; rintro e w3 ⟨rfl, hb3⟩)
   | (go_at_call_of 84 ao3; refine (signed_any true ao3 0 c3 _ (by omega)).mono ?_; rintro e w4 ⟨rfl, hb4⟩; have hbF : Below W.heap.size W w4 := bnext (bnext (bnext hb1 hb2) (bnext (Below.refl _ _).drew hb3)) hb4; obtain ⟨g5, g3, g4⟩ := hT.r.later hbF (by omega); obtain ⟨g8, g6, g7⟩ := hT.r2.later hbF (by omega)))
 go_wp2
 exact bodyPost_ret (v := .tuple #[.agg #[.bool (true && decide (0 < l2)), .slice ao2 l2 c2], .agg #[.bool (true && decide (0 < 0)), .slice ao3 0 c3], .int .i64 0]) (by simp [results, Tryz.results92, go_sem, g3, g4, g6, g7]) rfl
  ⟨_, _, HF.out, two_stored ((ho2.later (bnext (Below.refl _ _).drew hb3)).later hb4) ((ho3.later (bnext (Below.refl _ _).drew hb3)).later hb4) (by omega) rfl (bnext hT.below hbF) rfl rfl HPT.out _ _ _ _⟩
theorem bdivide_ftm (ao bo : Option Addr) (la ca lb cb : Nat) (a b : Int) (w : World) (hx : IntAt w false ao la ca a) (hy : IntAt w true bo lb cb b) (hl : la ≤ 4294967295) (hl' : lb ≤ 4294967295) (h0 : b ≠ 0) (hr : a.natAbs % b.natAbs ≠ 0) :
  Calls Tryz.prog 92 #[.agg #[.bool false, .slice ao la ca], .agg #[.bool true, .slice bo lb cb]] w fun e w' => ∃ q r, FloorOf a b q r ∧ TwoIntErrP w w' e q r := by
 obtain ⟨W, hT⟩ := Two4.mk' w false true ao bo la ca lb cb
 have hsz := hT.size
 have hc : (if mayB false (mag a.natAbs) && mayB true (mag b.natAbs) then 0 else 10 : Int) = 0 := by
  have e1 := may_int a
  have e2 := may_int b
  rw [← hx.sg] at e1; rw [← hy.sg] at e2; rw [e1, e2]; rfl
 have HC : Hid _ := hc
 have HF : Hid (FloorOf a b (sgn true (a.natAbs / b.natAbs + 1)) (sgn true (b.natAbs - a.natAbs % b.natAbs))) := (floor_math (na := false) (nb := true) hx.sg hy.sg h0).2 rfl hr
 have hb0 : 0 < b.natAbs := by omega
 have hlb0 : ((lb : Int) == 0) = false := by
  have : 0 < lb := by rw [hy.row.hlen]; exact mag_len_pos.2 hb0
  simp; omega
 have hRx := hx.later hT.below
 have hRy := hy.later hT.below
 have HG : Hid ((mag (a.natAbs / b.natAbs)).length ≤ la ∧ (mag (a.natAbs % b.natAbs)).length ≤ lb ∧ a.natAbs % b.natAbs ≠ 0) :=
  ⟨by rw [hx.row.hlen]; exact mag_len_mono (Nat.div_le_self _ _), by rw [hy.row.hlen]; exact mag_len_mono (Nat.le_of_lt (Nat.mod_lt _ hb0)), hr⟩
 have HLE : Hid (a.natAbs % b.natAbs ≤ b.natAbs) := Nat.le_of_lt (Nat.mod_lt _ hb0)
 clear hc hx hy hr
 have KS : Hid (∀ w' : World, Below (w.heap.size + 2) W w' → (Below (w.heap.size + 2) W w' ∧ w'.cell? ⟨w.heap.size, 0, none⟩ = some (.bool false) ∧ w'.cell? ⟨w.heap.size, 1, none⟩ = some (.slice ao la ca) ∧ w'.cell? ⟨w.heap.size + 1, 0, none⟩ = some (.bool true) ∧ w'.cell? ⟨w.heap.size + 1, 1, none⟩ = some (.slice bo lb cb))) := fun w' h => ⟨h, (h.cell (p := ⟨w.heap.size, 0, none⟩) (by show w.heap.size < _; omega)).trans hT.a.1, (h.cell (p := ⟨w.heap.size, 1, none⟩) (by show w.heap.size < _; omega)).trans hT.a.2, (h.cell (p := ⟨w.heap.size + 1, 0, none⟩) (by show w.heap.size + 1 < _; omega)).trans hT.b.1, (h.cell (p := ⟨w.heap.size + 1, 1, none⟩) (by show w.heap.size + 1 < _; omega)).trans hT.b.2⟩
 have K1 : Hid (∀ w1 w2 : World, (Below (w.heap.size + 2) W w1 ∧ w1.cell? ⟨w.heap.size, 0, none⟩ = some (.bool false) ∧ w1.cell? ⟨w.heap.size, 1, none⟩ = some (.slice ao la ca) ∧ w1.cell? ⟨w.heap.size + 1, 0, none⟩ = some (.bool true) ∧ w1.cell? ⟨w.heap.size + 1, 1, none⟩ = some (.slice bo lb cb)) → Below w1.heap.size w1 w2 → (Below (w.heap.size + 2) W w2 ∧ w2.cell? ⟨w.heap.size, 0, none⟩ = some (.bool false) ∧ w2.cell? ⟨w.heap.size, 1, none⟩ = some (.slice ao la ca) ∧ w2.cell? ⟨w.heap.size + 1, 0, none⟩ = some (.bool true) ∧ w2.cell? ⟨w.heap.size + 1, 1, none⟩ = some (.slice bo lb cb))) := fun w1 w2 h hb => KS.out _ (h.1.trans (hb.mono (by have := h.1.size; omega)))
 have K2 : Hid (∀ w1 w2 : World, (Below (w.heap.size + 2) W w1 ∧ w1.cell? ⟨w.heap.size, 0, none⟩ = some (.bool false) ∧ w1.cell? ⟨w.heap.size, 1, none⟩ = some (.slice ao la ca) ∧ w1.cell? ⟨w.heap.size + 1, 0, none⟩ = some (.bool true) ∧ w1.cell? ⟨w.heap.size + 1, 1, none⟩ = some (.slice bo lb cb)) → Below (w.heap.size + 2) w1 w2 → (Below (w.heap.size + 2) W w2 ∧ w2.cell? ⟨w.heap.size, 0, none⟩ = some (.bool false) ∧ w2.cell? ⟨w.heap.size, 1, none⟩ = some (.slice ao la ca) ∧ w2.cell? ⟨w.heap.size + 1, 0, none⟩ = some (.bool true) ∧ w2.cell? ⟨w.heap.size + 1, 1, none⟩ = some (.slice bo lb cb))) := fun w1 w2 h hb => KS.out _ (h.1.trans hb)
 go_enter Tryz.func92, Tryz.ntmps92
 go_wp2_with (first
  | (go_at_call 102; rw [← hT.eq]; refine (checkBoth_any false true ao bo la ca lb cb _ _ _ hRx.row hRy.row (by omega) (by omega) 0 HC.out).mono ?_; rintro e w1 ⟨rfl, hb1⟩; have hs1 := hb1.size; obtain ⟨p0, p1⟩ := hT.a.later hb1 (by omega); obtain ⟨p2, p3⟩ := hT.b.later hb1 (by omega))
  | (go_at_call 112; refine (divide_any ao bo la ca lb cb a.natAbs b.natAbs _ (hRx.row.later hb1) (hRy.row.later hb1) (by omega) (by omega) hb0).mono ?_; rintro e w2 ⟨ao2, l2, c2, ao3, l3, c3, rfl, ho2, ho3, hb2, hpt⟩; have HPT : Hid (Parted ao2 ao3) := hpt; clear hpt; have hl2 : l2 ≤ la := (by rw [ho2.row.hlen]; exact HG.out.1); have hl3 : l3 ≤ lb := (by rw [ho3.row.hlen]; exact HG.out.2.1); have hl3p : (0 : Int) < (l3 : Int) := (by have q : 0 < l3 := (by rw [ho3.row.hlen]; exact mag_len_pos.2 (Nat.pos_of_ne_zero HG.out.2.2)); omega); clear p0 p1 p2 p3; obtain ⟨p0, p1⟩ := hT.a.later (bnext hb1 hb2) (by omega); obtain ⟨p2, p3⟩ := hT.b.later (bnext hb1 hb2) (by omega)))
 have hbX : Below (w.heap.size + 2) W w2 := (bnext hb1 hb2).mono (by omega)
 have hO := one_row' w2.drew 1 1 rfl (by decide) (by decide)
 have HO : Hid (Own w2.drew.heap.size (w2.drew.alloc (.cells #[.int .u64 1] 60)) .u64 60 (some ⟨w2.drew.heap.size, 0, none⟩) 1 1 (mag 1) ∧ Below w2.drew.heap.size w2.drew (w2.drew.alloc (.cells #[.int .u64 1] 60))) := hO
 clear hO p0 p1 p2 p3
 go_region_held3 (fun w' => Below (w.heap.size + 2) W w' ∧ w'.cell? ⟨w.heap.size, 0, none⟩ = some (.bool false) ∧ w'.cell? ⟨w.heap.size, 1, none⟩ = some (.slice ao la ca) ∧ w'.cell? ⟨w.heap.size + 1, 0, none⟩ = some (.bool true) ∧ w'.cell? ⟨w.heap.size + 1, 1, none⟩ = some (.slice bo lb cb))
  (first
   | exact KS.out _ hbX.drew
   | exact K1.out _ _ (by assumption) (by assumption)
   | exact K1.out _ _ (by assumption) ((Below.refl _ _).alloc (Nat.le_refl _) _))
  (first
   | (go_at_call 113; refine (plus_any ao2 (some ⟨w2.heap.size, 0, none⟩) l2 c2 1 1 (a.natAbs / b.natAbs) 1 _ ((ho2.row.later (Below.refl _ _).drew).later HO.out.2) HO.out.1.row (by omega) (by omega)).mono ?_; rintro e w5 ⟨ao5, l5, c5, rfl, ho5, hb5⟩; have hl5 : l5 ≤ 4611686018427387904 := (by rw [ho5.row.hlen]; have q1 := mag_len_add (a.natAbs / b.natAbs) 1; rw [← ho2.row.hlen] at q1; have q2 := mag_len_one (n := 1) (by decide); omega); have hbP : Below w2.heap.size w2 w5 := bnext (bnext (Below.refl _ _).drew HO.out.2) hb5; have hsP : w2.heap.size ≤ (w2.drew.alloc (.cells #[.int .u64 1] 60)).heap.size := (bnext (Below.refl w2.heap.size w2).drew HO.out.2).size)
   | (go_at_call 114; refine (minus_any bo ao3 lb cb l3 c3 b.natAbs (a.natAbs % b.natAbs) _ ((hRy.row.later (bnext hb1 hb2)).later hbP) (ho3.row.later hbP) (by omega) HLE.out).mono ?_; rintro e w6 ⟨ao6, l6, c6, rfl, ho6, hb6⟩; have hl6 : l6 ≤ 4611686018427387904 := (by rw [ho6.row.hlen]; have q1 := mag_len_mono (Nat.sub_le b.natAbs (a.natAbs % b.natAbs)); rw [← hRy.row.hlen] at q1; omega); have hbQ : Below w2.heap.size w2 w6 := bnext hbP hb6))
 have hbX6 : Below (w.heap.size + 2) W w6 := (bnext (bnext hb1 hb2) hbQ).mono (by omega)
 have hsQ := hbQ.size
 have hsP5 := hbP.size
 go_wp2
 go_region_held3 (fun w' => Below (w.heap.size + 2) W w' ∧ w'.cell? ⟨w.heap.size, 0, none⟩ = some (.bool false) ∧ w'.cell? ⟨w.heap.size, 1, none⟩ = some (.slice ao la ca) ∧ w'.cell? ⟨w.heap.size + 1, 0, none⟩ = some (.bool true) ∧ w'.cell? ⟨w.heap.size + 1, 1, none⟩ = some (.slice bo lb cb))
  (first
   | exact KS.out _ hbX6.drew
   | exact K1.out _ _ (by assumption) (by assumption)
   | exact K2.out _ _ (by assumption) (below_store (Below.refl _ _) (by omega) _ _))
  (first
   | (go_at_call_of 84 ao5; have _t := hl; refine (signed_any true ao5 l5 c5 _ (by omega)).mono ?_; rintro e w3 ⟨rfl, hb3⟩)
   | (go_at_call_of 84 ao6; refine (signed_any true ao6 l6 c6 _ (by omega)).mono ?_; rintro e w4 ⟨rfl, hb4⟩; have hbF : Below W.heap.size W w4 := bnext (bnext (bnext (bnext hb1 hb2) hbQ) (bnext (Below.refl _ _).drew hb3)) hb4; obtain ⟨g5, g3, g4⟩ := hT.r.later hbF (by omega); obtain ⟨g8, g6, g7⟩ := hT.r2.later hbF (by omega)))
 go_wp2
 exact bodyPost_ret (v := .tuple #[.agg #[.bool (true && decide (0 < l5)), .slice ao5 l5 c5], .agg #[.bool (true && decide (0 < l6)), .slice ao6 l6 c6], .int .i64 0]) (by simp [results, Tryz.results92, go_sem, g3, g4, g6, g7]) rfl
  ⟨_, _, HF.out, two_stored ((((ho5.mono (show w1.heap.size ≤ _ from Nat.le_trans hb2.size hsP)).later hb6).later (bnext (Below.refl _ _).drew hb3)).later hb4) (((ho6.mono (show w1.heap.size ≤ _ from Nat.le_trans hb2.size hsP5)).later (bnext (Below.refl _ _).drew hb3)).later hb4) (by omega) rfl (bnext hT.below hbF) rfl rfl (Parted.made ho5 ho6 (Nat.le_refl _)) _ _ _ _⟩
theorem bdivide_tf (ao bo : Option Addr) (la ca lb cb : Nat) (a b : Int) (w : World) (hx : IntAt w true ao la ca a) (hy : IntAt w false bo lb cb b) (hl : la ≤ 4294967295) (hl' : lb ≤ 4294967295) (h0 : b ≠ 0) (hr : a.natAbs % b.natAbs = 0) :
  Calls Tryz.prog 92 #[.agg #[.bool true, .slice ao la ca], .agg #[.bool false, .slice bo lb cb]] w fun e w' => ∃ q r, FloorOf a b q r ∧ TwoIntErrP w w' e q r := by
 obtain ⟨W, hT⟩ := Two4.mk' w true false ao bo la ca lb cb
 have hsz := hT.size
 have hc : (if mayB true (mag a.natAbs) && mayB false (mag b.natAbs) then 0 else 10 : Int) = 0 := by
  have e1 := may_int a
  have e2 := may_int b
  rw [← hx.sg] at e1; rw [← hy.sg] at e2; rw [e1, e2]; rfl
 have HC : Hid _ := hc
 have HF : Hid (FloorOf a b (sgn true (a.natAbs / b.natAbs)) (sgn false (a.natAbs % b.natAbs))) := (floor_math (na := true) (nb := false) hx.sg hy.sg h0).1 (Or.inr hr)
 have hb0 : 0 < b.natAbs := by omega
 have hlb0 : ((lb : Int) == 0) = false := by
  have : 0 < lb := by rw [hy.row.hlen]; exact mag_len_pos.2 hb0
  simp; omega
 have hRx := hx.later hT.below
 have hRy := hy.later hT.below
 have HG : Hid ((mag (a.natAbs / b.natAbs)).length ≤ la ∧ (mag (a.natAbs % b.natAbs)).length ≤ lb ∧ a.natAbs % b.natAbs = 0) :=
  ⟨by rw [hx.row.hlen]; exact mag_len_mono (Nat.div_le_self _ _), by rw [hy.row.hlen]; exact mag_len_mono (Nat.le_of_lt (Nat.mod_lt _ hb0)), hr⟩
 have HLE : Hid (a.natAbs % b.natAbs ≤ b.natAbs) := Nat.le_of_lt (Nat.mod_lt _ hb0)
 clear hc hx hy hr
 have KS : Hid (∀ w' : World, Below (w.heap.size + 2) W w' → (Below (w.heap.size + 2) W w' ∧ w'.cell? ⟨w.heap.size, 0, none⟩ = some (.bool true) ∧ w'.cell? ⟨w.heap.size, 1, none⟩ = some (.slice ao la ca) ∧ w'.cell? ⟨w.heap.size + 1, 0, none⟩ = some (.bool false) ∧ w'.cell? ⟨w.heap.size + 1, 1, none⟩ = some (.slice bo lb cb))) := fun w' h => ⟨h, (h.cell (p := ⟨w.heap.size, 0, none⟩) (by show w.heap.size < _; omega)).trans hT.a.1, (h.cell (p := ⟨w.heap.size, 1, none⟩) (by show w.heap.size < _; omega)).trans hT.a.2, (h.cell (p := ⟨w.heap.size + 1, 0, none⟩) (by show w.heap.size + 1 < _; omega)).trans hT.b.1, (h.cell (p := ⟨w.heap.size + 1, 1, none⟩) (by show w.heap.size + 1 < _; omega)).trans hT.b.2⟩
 have K1 : Hid (∀ w1 w2 : World, (Below (w.heap.size + 2) W w1 ∧ w1.cell? ⟨w.heap.size, 0, none⟩ = some (.bool true) ∧ w1.cell? ⟨w.heap.size, 1, none⟩ = some (.slice ao la ca) ∧ w1.cell? ⟨w.heap.size + 1, 0, none⟩ = some (.bool false) ∧ w1.cell? ⟨w.heap.size + 1, 1, none⟩ = some (.slice bo lb cb)) → Below w1.heap.size w1 w2 → (Below (w.heap.size + 2) W w2 ∧ w2.cell? ⟨w.heap.size, 0, none⟩ = some (.bool true) ∧ w2.cell? ⟨w.heap.size, 1, none⟩ = some (.slice ao la ca) ∧ w2.cell? ⟨w.heap.size + 1, 0, none⟩ = some (.bool false) ∧ w2.cell? ⟨w.heap.size + 1, 1, none⟩ = some (.slice bo lb cb))) := fun w1 w2 h hb => KS.out _ (h.1.trans (hb.mono (by have := h.1.size; omega)))
 have K2 : Hid (∀ w1 w2 : World, (Below (w.heap.size + 2) W w1 ∧ w1.cell? ⟨w.heap.size, 0, none⟩ = some (.bool true) ∧ w1.cell? ⟨w.heap.size, 1, none⟩ = some (.slice ao la ca) ∧ w1.cell? ⟨w.heap.size + 1, 0, none⟩ = some (.bool false) ∧ w1.cell? ⟨w.heap.size + 1, 1, none⟩ = some (.slice bo lb cb)) → Below (w.heap.size + 2) w1 w2 → (Below (w.heap.size + 2) W w2 ∧ w2.cell? ⟨w.heap.size, 0, none⟩ = some (.bool true) ∧ w2.cell? ⟨w.heap.size, 1, none⟩ = some (.slice ao la ca) ∧ w2.cell? ⟨w.heap.size + 1, 0, none⟩ = some (.bool false) ∧ w2.cell? ⟨w.heap.size + 1, 1, none⟩ = some (.slice bo lb cb))) := fun w1 w2 h hb => KS.out _ (h.1.trans hb)
 go_enter Tryz.func92, Tryz.ntmps92
 go_wp2_with (first
  | (go_at_call 102; rw [← hT.eq]; refine (checkBoth_any true false ao bo la ca lb cb _ _ _ hRx.row hRy.row (by omega) (by omega) 0 HC.out).mono ?_; rintro e w1 ⟨rfl, hb1⟩; have hs1 := hb1.size; obtain ⟨p0, p1⟩ := hT.a.later hb1 (by omega); obtain ⟨p2, p3⟩ := hT.b.later hb1 (by omega))
  | (go_at_call 112; refine (divide_any ao bo la ca lb cb a.natAbs b.natAbs _ (hRx.row.later hb1) (hRy.row.later hb1) (by omega) (by omega) hb0).mono ?_; rintro e w2 ⟨ao2, l2, c2, ao3, l3, c3, rfl, ho2, ho3, hb2, hpt⟩; have HPT : Hid (Parted ao2 ao3) := hpt; clear hpt; have hl2 : l2 ≤ la := (by rw [ho2.row.hlen]; exact HG.out.1); have hl3 : l3 ≤ lb := (by rw [ho3.row.hlen]; exact HG.out.2.1); have hl30 : l3 = 0 := (by rw [ho3.row.hlen, HG.out.2.2]; rfl); subst hl30; clear p0 p1 p2 p3; obtain ⟨p0, p1⟩ := hT.a.later (bnext hb1 hb2) (by omega); obtain ⟨p2, p3⟩ := hT.b.later (bnext hb1 hb2) (by omega)))
 have hbX : Below (w.heap.size + 2) W w2 := (bnext hb1 hb2).mono (by omega)
 clear p0 p1 p2 p3
 go_region_held3 (fun w' => Below (w.heap.size + 2) W w' ∧ w'.cell? ⟨w.heap.size, 0, none⟩ = some (.bool true) ∧ w'.cell? ⟨w.heap.size, 1, none⟩ = some (.slice ao la ca) ∧ w'.cell? ⟨w.heap.size + 1, 0, none⟩ = some (.bool false) ∧ w'.cell? ⟨w.heap.size + 1, 1, none⟩ = some (.slice bo lb cb))
  (first
   | exact KS.out _ hbX.drew
   | exact K1.out _ _ (by assumption) (by assumption)
   | exact K2.out _ _ (by assumption) (below_store (Below.refl _ _) (by omega) _ _))
  (first
   | (go_at_call_of 84 ao2; have _t := hl; refine (signed_any true ao2 l2 c2 _ (by omega)).mono ?_; rintro e w3 ⟨rfl, hb3⟩)
   | (go_at_call_of 84 ao3; refine (signed_any false ao3 0 c3 _ (by omega)).mono ?_; rintro e w4 ⟨rfl, hb4⟩; have hbF : Below W.heap.size W w4 := bnext (bnext (bnext hb1 hb2) (bnext (Below.refl _ _).drew hb3)) hb4; obtain ⟨g5, g3, g4⟩ := hT.r.later hbF (by omega); obtain ⟨g8, g6, g7⟩ := hT.r2.later hbF (by omega)))
 go_wp2
 exact bodyPost_ret (v := .tuple #[.agg #[.bool (true && decide (0 < l2)), .slice ao2 l2 c2], .agg #[.bool (false && decide (0 < 0)), .slice ao3 0 c3], .int .i64 0]) (by simp [results, Tryz.results92, go_sem, g3, g4, g6, g7]) rfl
  ⟨_, _, HF.out, two_stored ((ho2.later (bnext (Below.refl _ _).drew hb3)).later hb4) ((ho3.later (bnext (Below.refl _ _).drew hb3)).later hb4) (by omega) rfl (bnext hT.below hbF) rfl rfl HPT.out _ _ _ _⟩
theorem bdivide_tfm (ao bo : Option Addr) (la ca lb cb : Nat) (a b : Int) (w : World) (hx : IntAt w true ao la ca a) (hy : IntAt w false bo lb cb b) (hl : la ≤ 4294967295) (hl' : lb ≤ 4294967295) (h0 : b ≠ 0) (hr : a.natAbs % b.natAbs ≠ 0) :
  Calls Tryz.prog 92 #[.agg #[.bool true, .slice ao la ca], .agg #[.bool false, .slice bo lb cb]] w fun e w' => ∃ q r, FloorOf a b q r ∧ TwoIntErrP w w' e q r := by
 obtain ⟨W, hT⟩ := Two4.mk' w true false ao bo la ca lb cb
 have hsz := hT.size
 have hc : (if mayB true (mag a.natAbs) && mayB false (mag b.natAbs) then 0 else 10 : Int) = 0 := by
  have e1 := may_int a
  have e2 := may_int b
  rw [← hx.sg] at e1; rw [← hy.sg] at e2; rw [e1, e2]; rfl
 have HC : Hid _ := hc
 have HF : Hid (FloorOf a b (sgn true (a.natAbs / b.natAbs + 1)) (sgn false (b.natAbs - a.natAbs % b.natAbs))) := (floor_math (na := true) (nb := false) hx.sg hy.sg h0).2 rfl hr
 have hb0 : 0 < b.natAbs := by omega
 have hlb0 : ((lb : Int) == 0) = false := by
  have : 0 < lb := by rw [hy.row.hlen]; exact mag_len_pos.2 hb0
  simp; omega
 have hRx := hx.later hT.below
 have hRy := hy.later hT.below
 have HG : Hid ((mag (a.natAbs / b.natAbs)).length ≤ la ∧ (mag (a.natAbs % b.natAbs)).length ≤ lb ∧ a.natAbs % b.natAbs ≠ 0) :=
  ⟨by rw [hx.row.hlen]; exact mag_len_mono (Nat.div_le_self _ _), by rw [hy.row.hlen]; exact mag_len_mono (Nat.le_of_lt (Nat.mod_lt _ hb0)), hr⟩
 have HLE : Hid (a.natAbs % b.natAbs ≤ b.natAbs) := Nat.le_of_lt (Nat.mod_lt _ hb0)
 clear hc hx hy hr
 have KS : Hid (∀ w' : World, Below (w.heap.size + 2) W w' → (Below (w.heap.size + 2) W w' ∧ w'.cell? ⟨w.heap.size, 0, none⟩ = some (.bool true) ∧ w'.cell? ⟨w.heap.size, 1, none⟩ = some (.slice ao la ca) ∧ w'.cell? ⟨w.heap.size + 1, 0, none⟩ = some (.bool false) ∧ w'.cell? ⟨w.heap.size + 1, 1, none⟩ = some (.slice bo lb cb))) := fun w' h => ⟨h, (h.cell (p := ⟨w.heap.size, 0, none⟩) (by show w.heap.size < _; omega)).trans hT.a.1, (h.cell (p := ⟨w.heap.size, 1, none⟩) (by show w.heap.size < _; omega)).trans hT.a.2, (h.cell (p := ⟨w.heap.size + 1, 0, none⟩) (by show w.heap.size + 1 < _; omega)).trans hT.b.1, (h.cell (p := ⟨w.heap.size + 1, 1, none⟩) (by show w.heap.size + 1 < _; omega)).trans hT.b.2⟩
 have K1 : Hid (∀ w1 w2 : World, (Below (w.heap.size + 2) W w1 ∧ w1.cell? ⟨w.heap.size, 0, none⟩ = some (.bool true) ∧ w1.cell? ⟨w.heap.size, 1, none⟩ = some (.slice ao la ca) ∧ w1.cell? ⟨w.heap.size + 1, 0, none⟩ = some (.bool false) ∧ w1.cell? ⟨w.heap.size + 1, 1, none⟩ = some (.slice bo lb cb)) → Below w1.heap.size w1 w2 → (Below (w.heap.size + 2) W w2 ∧ w2.cell? ⟨w.heap.size, 0, none⟩ = some (.bool true) ∧ w2.cell? ⟨w.heap.size, 1, none⟩ = some (.slice ao la ca) ∧ w2.cell? ⟨w.heap.size + 1, 0, none⟩ = some (.bool false) ∧ w2.cell? ⟨w.heap.size + 1, 1, none⟩ = some (.slice bo lb cb))) := fun w1 w2 h hb => KS.out _ (h.1.trans (hb.mono (by have := h.1.size; omega)))
 have K2 : Hid (∀ w1 w2 : World, (Below (w.heap.size + 2) W w1 ∧ w1.cell? ⟨w.heap.size, 0, none⟩ = some (.bool true) ∧ w1.cell? ⟨w.heap.size, 1, none⟩ = some (.slice ao la ca) ∧ w1.cell? ⟨w.heap.size + 1, 0, none⟩ = some (.bool false) ∧ w1.cell? ⟨w.heap.size + 1, 1, none⟩ = some (.slice bo lb cb)) → Below (w.heap.size + 2) w1 w2 → (Below (w.heap.size + 2) W w2 ∧ w2.cell? ⟨w.heap.size, 0, none⟩ = some (.bool true) ∧ w2.cell? ⟨w.heap.size, 1, none⟩ = some (.slice ao la ca) ∧ w2.cell? ⟨w.heap.size + 1, 0, none⟩ = some (.bool false) ∧ w2.cell? ⟨w.heap.size + 1, 1, none⟩ = some (.slice bo lb cb))) := fun w1 w2 h hb => KS.out _ (h.1.trans hb)
 go_enter Tryz.func92, Tryz.ntmps92
 go_wp2_with (first
  | (go_at_call 102; rw [← hT.eq]; refine (checkBoth_any true false ao bo la ca lb cb _ _ _ hRx.row hRy.row (by omega) (by omega) 0 HC.out).mono ?_; rintro e w1 ⟨rfl, hb1⟩; have hs1 := hb1.size; obtain ⟨p0, p1⟩ := hT.a.later hb1 (by omega); obtain ⟨p2, p3⟩ := hT.b.later hb1 (by omega))
  | (go_at_call 112; refine (divide_any ao bo la ca lb cb a.natAbs b.natAbs _ (hRx.row.later hb1) (hRy.row.later hb1) (by omega) (by omega) hb0).mono ?_; rintro e w2 ⟨ao2, l2, c2, ao3, l3, c3, rfl, ho2, ho3, hb2, hpt⟩; have HPT : Hid (Parted ao2 ao3) := hpt; clear hpt; have hl2 : l2 ≤ la := (by rw [ho2.row.hlen]; exact HG.out.1); have hl3 : l3 ≤ lb := (by rw [ho3.row.hlen]; exact HG.out.2.1); have hl3p : (0 : Int) < (l3 : Int) := (by have q : 0 < l3 := (by rw [ho3.row.hlen]; exact mag_len_pos.2 (Nat.pos_of_ne_zero HG.out.2.2)); omega); clear p0 p1 p2 p3; obtain ⟨p0, p1⟩ := hT.a.later (bnext hb1 hb2) (by omega); obtain ⟨p2, p3⟩ := hT.b.later (bnext hb1 hb2) (by omega)))
 have hbX : Below (w.heap.size + 2) W w2 := (bnext hb1 hb2).mono (by omega)
 have hO := one_row' w2.drew 1 1 rfl (by decide) (by decide)
 have HO : Hid (Own w2.drew.heap.size (w2.drew.alloc (.cells #[.int .u64 1] 60)) .u64 60 (some ⟨w2.drew.heap.size, 0, none⟩) 1 1 (mag 1) ∧ Below w2.drew.heap.size w2.drew (w2.drew.alloc (.cells #[.int .u64 1] 60))) := hO
 clear hO p0 p1 p2 p3
 go_region_held3 (fun w' => Below (w.heap.size + 2) W w' ∧ w'.cell? ⟨w.heap.size, 0, none⟩ = some (.bool true) ∧ w'.cell? ⟨w.heap.size, 1, none⟩ = some (.slice ao la ca) ∧ w'.cell? ⟨w.heap.size + 1, 0, none⟩ = some (.bool false) ∧ w'.cell? ⟨w.heap.size + 1, 1, none⟩ = some (.slice bo lb cb))
  (first
   | exact KS.out _ hbX.drew
   | exact K1.out _ _ (by assumption) (by assumption)
   | exact K1.out _ _ (by assumption) ((Below.refl _ _).alloc (Nat.le_refl _) _))
  (first
   | (go_at_call 113; refine (plus_any ao2 (some ⟨w2.heap.size, 0, none⟩) l2 c2 1 1 (a.natAbs / b.natAbs) 1 _ ((ho2.row.later (Below.refl _ _).drew).later HO.out.2) HO.out.1.row (by omega) (by omega)).mono ?_; rintro e w5 ⟨ao5, l5, c5, rfl, ho5, hb5⟩; have hl5 : l5 ≤ 4611686018427387904 := (by rw [ho5.row.hlen]; have q1 := mag_len_add (a.natAbs / b.natAbs) 1; rw [← ho2.row.hlen] at q1; have q2 := mag_len_one (n := 1) (by decide); omega); have hbP : Below w2.heap.size w2 w5 := bnext (bnext (Below.refl _ _).drew HO.out.2) hb5; have hsP : w2.heap.size ≤ (w2.drew.alloc (.cells #[.int .u64 1] 60)).heap.size := (bnext (Below.refl w2.heap.size w2).drew HO.out.2).size)
   | (go_at_call 114; refine (minus_any bo ao3 lb cb l3 c3 b.natAbs (a.natAbs % b.natAbs) _ ((hRy.row.later (bnext hb1 hb2)).later hbP) (ho3.row.later hbP) (by omega) HLE.out).mono ?_; rintro e w6 ⟨ao6, l6, c6, rfl, ho6, hb6⟩; have hl6 : l6 ≤ 4611686018427387904 := (by rw [ho6.row.hlen]; have q1 := mag_len_mono (Nat.sub_le b.natAbs (a.natAbs % b.natAbs)); rw [← hRy.row.hlen] at q1; omega); have hbQ : Below w2.heap.size w2 w6 := bnext hbP hb6))
 have hbX6 : Below (w.heap.size + 2) W w6 := (bnext (bnext hb1 hb2) hbQ).mono (by omega)
 have hsQ := hbQ.size
 have hsP5 := hbP.size
 go_wp2
 go_region_held3 (fun w' => Below (w.heap.size + 2) W w' ∧ w'.cell? ⟨w.heap.size, 0, none⟩ = some (.bool true) ∧ w'.cell? ⟨w.heap.size, 1, none⟩ = some (.slice ao la ca) ∧ w'.cell? ⟨w.heap.size + 1, 0, none⟩ = some (.bool false) ∧ w'.cell? ⟨w.heap.size + 1, 1, none⟩ = some (.slice bo lb cb))
  (first
   | exact KS.out _ hbX6.drew
   | exact K1.out _ _ (by assumption) (by assumption)
   | exact K2.out _ _ (by assumption) (below_store (Below.refl _ _) (by omega) _ _))
  (first
   | (go_at_call_of 84 ao5; have _t := hl; refine (signed_any true ao5 l5 c5 _ (by omega)).mono ?_; rintro e w3 ⟨rfl, hb3⟩)
   | (go_at_call_of 84 ao6; refine (signed_any false ao6 l6 c6 _ (by omega)).mono ?_; rintro e w4 ⟨rfl, hb4⟩; have hbF : Below W.heap.size W w4 := bnext (bnext (bnext (bnext hb1 hb2) hbQ) (bnext (Below.refl _ _).drew hb3)) hb4; obtain ⟨g5, g3, g4⟩ := hT.r.later hbF (by omega); obtain ⟨g8, g6, g7⟩ := hT.r2.later hbF (by omega)))
 go_wp2
 exact bodyPost_ret (v := .tuple #[.agg #[.bool (true && decide (0 < l5)), .slice ao5 l5 c5], .agg #[.bool (false && decide (0 < l6)), .slice ao6 l6 c6], .int .i64 0]) (by simp [results, Tryz.results92, go_sem, g3, g4, g6, g7]) rfl
  ⟨_, _, HF.out, two_stored ((((ho5.mono (show w1.heap.size ≤ _ from Nat.le_trans hb2.size hsP)).later hb6).later (bnext (Below.refl _ _).drew hb3)).later hb4) (((ho6.mono (show w1.heap.size ≤ _ from Nat.le_trans hb2.size hsP5)).later (bnext (Below.refl _ _).drew hb3)).later hb4) (by omega) rfl (bnext hT.below hbF) rfl rfl (Parted.made ho5 ho6 (Nat.le_refl _)) _ _ _ _⟩
theorem bdivide_tt (ao bo : Option Addr) (la ca lb cb : Nat) (a b : Int) (w : World) (hx : IntAt w true ao la ca a) (hy : IntAt w true bo lb cb b) (hl : la ≤ 4294967295) (hl' : lb ≤ 4294967295) (h0 : b ≠ 0) :
  Calls Tryz.prog 92 #[.agg #[.bool true, .slice ao la ca], .agg #[.bool true, .slice bo lb cb]] w fun e w' => ∃ q r, FloorOf a b q r ∧ TwoIntErrP w w' e q r := by
 obtain ⟨W, hT⟩ := Two4.mk' w true true ao bo la ca lb cb
 have hsz := hT.size
 have hc : (if mayB true (mag a.natAbs) && mayB true (mag b.natAbs) then 0 else 10 : Int) = 0 := by
  have e1 := may_int a
  have e2 := may_int b
  rw [← hx.sg] at e1; rw [← hy.sg] at e2; rw [e1, e2]; rfl
 have HC : Hid _ := hc
 have HF : Hid (FloorOf a b (sgn false (a.natAbs / b.natAbs)) (sgn true (a.natAbs % b.natAbs))) := (floor_math (na := true) (nb := true) hx.sg hy.sg h0).1 (Or.inl rfl)
 have hb0 : 0 < b.natAbs := by omega
 have hlb0 : ((lb : Int) == 0) = false := by
  have : 0 < lb := by rw [hy.row.hlen]; exact mag_len_pos.2 hb0
  simp; omega
 have hRx := hx.later hT.below
 have hRy := hy.later hT.below
 have HG : Hid ((mag (a.natAbs / b.natAbs)).length ≤ la ∧ (mag (a.natAbs % b.natAbs)).length ≤ lb ∧ True) :=
  ⟨by rw [hx.row.hlen]; exact mag_len_mono (Nat.div_le_self _ _), by rw [hy.row.hlen]; exact mag_len_mono (Nat.le_of_lt (Nat.mod_lt _ hb0)), trivial⟩
 have HLE : Hid (a.natAbs % b.natAbs ≤ b.natAbs) := Nat.le_of_lt (Nat.mod_lt _ hb0)
 clear hc hx hy
 have KS : Hid (∀ w' : World, Below (w.heap.size + 2) W w' → (Below (w.heap.size + 2) W w' ∧ w'.cell? ⟨w.heap.size, 0, none⟩ = some (.bool true) ∧ w'.cell? ⟨w.heap.size, 1, none⟩ = some (.slice ao la ca) ∧ w'.cell? ⟨w.heap.size + 1, 0, none⟩ = some (.bool true) ∧ w'.cell? ⟨w.heap.size + 1, 1, none⟩ = some (.slice bo lb cb))) := fun w' h => ⟨h, (h.cell (p := ⟨w.heap.size, 0, none⟩) (by show w.heap.size < _; omega)).trans hT.a.1, (h.cell (p := ⟨w.heap.size, 1, none⟩) (by show w.heap.size < _; omega)).trans hT.a.2, (h.cell (p := ⟨w.heap.size + 1, 0, none⟩) (by show w.heap.size + 1 < _; omega)).trans hT.b.1, (h.cell (p := ⟨w.heap.size + 1, 1, none⟩) (by show w.heap.size + 1 < _; omega)).trans hT.b.2⟩
 have K1 : Hid (∀ w1 w2 : World, (Below (w.heap.size + 2) W w1 ∧ w1.cell? ⟨w.heap.size, 0, none⟩ = some (.bool true) ∧ w1.cell? ⟨w.heap.size, 1, none⟩ = some (.slice ao la ca) ∧ w1.cell? ⟨w.heap.size + 1, 0, none⟩ = some (.bool true) ∧ w1.cell? ⟨w.heap.size + 1, 1, none⟩ = some (.slice bo lb cb)) → Below w1.heap.size w1 w2 → (Below (w.heap.size + 2) W w2 ∧ w2.cell? ⟨w.heap.size, 0, none⟩ = some (.bool true) ∧ w2.cell? ⟨w.heap.size, 1, none⟩ = some (.slice ao la ca) ∧ w2.cell? ⟨w.heap.size + 1, 0, none⟩ = some (.bool true) ∧ w2.cell? ⟨w.heap.size + 1, 1, none⟩ = some (.slice bo lb cb))) := fun w1 w2 h hb => KS.out _ (h.1.trans (hb.mono (by have := h.1.size; omega)))
 have K2 : Hid (∀ w1 w2 : World, (Below (w.heap.size + 2) W w1 ∧ w1.cell? ⟨w.heap.size, 0, none⟩ = some (.bool true) ∧ w1.cell? ⟨w.heap.size, 1, none⟩ = some (.slice ao la ca) ∧ w1.cell? ⟨w.heap.size + 1, 0, none⟩ = some (.bool true) ∧ w1.cell? ⟨w.heap.size + 1, 1, none⟩ = some (.slice bo lb cb)) → Below (w.heap.size + 2) w1 w2 → (Below (w.heap.size + 2) W w2 ∧ w2.cell? ⟨w.heap.size, 0, none⟩ = some (.bool true) ∧ w2.cell? ⟨w.heap.size, 1, none⟩ = some (.slice ao la ca) ∧ w2.cell? ⟨w.heap.size + 1, 0, none⟩ = some (.bool true) ∧ w2.cell? ⟨w.heap.size + 1, 1, none⟩ = some (.slice bo lb cb))) := fun w1 w2 h hb => KS.out _ (h.1.trans hb)
 go_enter Tryz.func92, Tryz.ntmps92
 go_wp2_with (first
  | (go_at_call 102; rw [← hT.eq]; refine (checkBoth_any true true ao bo la ca lb cb _ _ _ hRx.row hRy.row (by omega) (by omega) 0 HC.out).mono ?_; rintro e w1 ⟨rfl, hb1⟩; have hs1 := hb1.size; obtain ⟨p0, p1⟩ := hT.a.later hb1 (by omega); obtain ⟨p2, p3⟩ := hT.b.later hb1 (by omega))
  | (go_at_call 112; refine (divide_any ao bo la ca lb cb a.natAbs b.natAbs _ (hRx.row.later hb1) (hRy.row.later hb1) (by omega) (by omega) hb0).mono ?_; rintro e w2 ⟨ao2, l2, c2, ao3, l3, c3, rfl, ho2, ho3, hb2, hpt⟩; have HPT : Hid (Parted ao2 ao3) := hpt; clear hpt; have hl2 : l2 ≤ la := (by rw [ho2.row.hlen]; exact HG.out.1); have hl3 : l3 ≤ lb := (by rw [ho3.row.hlen]; exact HG.out.2.1); clear p0 p1 p2 p3; obtain ⟨p0, p1⟩ := hT.a.later (bnext hb1 hb2) (by omega); obtain ⟨p2, p3⟩ := hT.b.later (bnext hb1 hb2) (by omega)))
 have hbX : Below (w.heap.size + 2) W w2 := (bnext hb1 hb2).mono (by omega)
 clear p0 p1 p2 p3
 go_region_held3 (fun w' => Below (w.heap.size + 2) W w' ∧ w'.cell? ⟨w.heap.size, 0, none⟩ = some (.bool true) ∧ w'.cell? ⟨w.heap.size, 1, none⟩ = some (.slice ao la ca) ∧ w'.cell? ⟨w.heap.size + 1, 0, none⟩ = some (.bool true) ∧ w'.cell? ⟨w.heap.size + 1, 1, none⟩ = some (.slice bo lb cb))
  (first
   | exact KS.out _ hbX.drew
   | exact K1.out _ _ (by assumption) (by assumption)
   | exact K2.out _ _ (by assumption) (below_store (Below.refl _ _) (by omega) _ _))
  (first
   | (go_at_call_of 84 ao2; have _t := hl; refine (signed_any false ao2 l2 c2 _ (by omega)).mono ?_; rintro e w3 ⟨rfl, hb3⟩)
   | (go_at_call_of 84 ao3; refine (signed_any true ao3 l3 c3 _ (by omega)).mono ?_; rintro e w4 ⟨rfl, hb4⟩; have hbF : Below W.heap.size W w4 := bnext (bnext (bnext hb1 hb2) (bnext (Below.refl _ _).drew hb3)) hb4; obtain ⟨g5, g3, g4⟩ := hT.r.later hbF (by omega); obtain ⟨g8, g6, g7⟩ := hT.r2.later hbF (by omega)))
 go_wp2
 exact bodyPost_ret (v := .tuple #[.agg #[.bool (false && decide (0 < l2)), .slice ao2 l2 c2], .agg #[.bool (true && decide (0 < l3)), .slice ao3 l3 c3], .int .i64 0]) (by simp [results, Tryz.results92, go_sem, g3, g4, g6, g7]) rfl
  ⟨_, _, HF.out, two_stored ((ho2.later (bnext (Below.refl _ _).drew hb3)).later hb4) ((ho3.later (bnext (Below.refl _ _).drew hb3)).later hb4) (by omega) rfl (bnext hT.below hbF) rfl rfl HPT.out _ _ _ _⟩
theorem bdivide_parted (na nb : Bool) (ao bo : Option Addr) (la ca lb cb : Nat) (a b : Int) (w : World) (hx : IntAt w na ao la ca a) (hy : IntAt w nb bo lb cb b) (hl : la ≤ 4294967295) (hl' : lb ≤ 4294967295) (h0 : b ≠ 0) :
  Calls Tryz.prog 92 #[.agg #[.bool na, .slice ao la ca], .agg #[.bool nb, .slice bo lb cb]] w fun e w' => ∃ q r, FloorOf a b q r ∧ TwoIntErrP w w' e q r := by
 cases na <;> cases nb
 ·
  exact bdivide_ff ao bo la ca lb cb a b w hx hy hl hl' h0
 ·
  by_cases hr : a.natAbs % b.natAbs = 0
  ·
   exact bdivide_ft ao bo la ca lb cb a b w hx hy hl hl' h0 hr
  ·
   exact bdivide_ftm ao bo la ca lb cb a b w hx hy hl hl' h0 hr
 ·
  by_cases hr : a.natAbs % b.natAbs = 0
  ·
   exact bdivide_tf ao bo la ca lb cb a b w hx hy hl hl' h0 hr
  ·
   exact bdivide_tfm ao bo la ca lb cb a b w hx hy hl hl' h0 hr
 ·
  exact bdivide_tt ao bo la ca lb cb a b w hx hy hl hl' h0
theorem bdivide_any (na nb : Bool) (ao bo : Option Addr) (la ca lb cb : Nat) (a b : Int) (w : World) (hx : IntAt w na ao la ca a) (hy : IntAt w nb bo lb cb b) (hl : la ≤ 4294967295) (hl' : lb ≤ 4294967295) (h0 : b ≠ 0) :
  Calls Tryz.prog 92 #[.agg #[.bool na, .slice ao la ca], .agg #[.bool nb, .slice bo lb cb]] w fun e w' => ∃ q r, FloorOf a b q r ∧ TwoIntErr w w' e q r :=
 (bdivide_parted na nb ao bo la ca lb cb a b w hx hy hl hl' h0).mono fun e w' ⟨q, r, h, k⟩ => ⟨q, r, h, k.less⟩
theorem bdivide_pos (na : Bool) (ao bo : Option Addr) (la ca lb cb : Nat) (a b : Int) (w : World) (hx : IntAt w na ao la ca a) (hy : IntAt w false bo lb cb b) (hl : la ≤ 4294967295) (hl' : lb ≤ 4294967295) (h0 : b ≠ 0) :
  Calls Tryz.prog 92 #[.agg #[.bool na, .slice ao la ca], .agg #[.bool false, .slice bo lb cb]] w fun e w' => ∃ q r, FloorOf a b q r ∧ TwoIntErr w w' e q r := by
 cases na
 ·
  exact (bdivide_ff ao bo la ca lb cb a b w hx hy hl hl' h0).mono fun e w' ⟨q, r, h, k⟩ => ⟨q, r, h, k.less⟩
 ·
  by_cases hr : a.natAbs % b.natAbs = 0
  ·
   exact (bdivide_tf ao bo la ca lb cb a b w hx hy hl hl' h0 hr).mono fun e w' ⟨q, r, h, k⟩ => ⟨q, r, h, k.less⟩
  ·
   exact (bdivide_tfm ao bo la ca lb cb a b w hx hy hl hl' h0 hr).mono fun e w' ⟨q, r, h, k⟩ => ⟨q, r, h, k.less⟩
end Go.Proofs.YthjkdnlbdhhmbaaGreatDoor
