/-
  A pack of walks and facts: SA, TC, TH0, TE.
-/
import Derived.Test.YtbkaiifplahhpaaGreatDoorPE16
import Derived.Deep.DeepCutAuto
set_option maxRecDepth 100000
set_option maxHeartbeats 40000000
set_option linter.unusedVariables false
set_option linter.unusedSimpArgs false
namespace Go.Proofs.YtbkaiifplahhpaaGreatDoor
open Go.RowKit
theorem mid_lt {a b h : Rat} (hh : h + h = 1) (hab : a < b) : a < (a + b) * h ∧ (a + b) * h < b := by
 have h0 : 0 < h := by grind
 have e1 : a = a * h + a * h := by grind
 have e2 : b = b * h + b * h := by grind
 have l : a * h < b * h := Rat.mul_lt_mul_of_pos_right hab h0
 constructor
 ·
  rw [Rat.add_mul]; rw (occs := [1]) [e1]; grind
 ·
  rw [Rat.add_mul]; rw (occs := [2]) [e2]; grind
structure RI3 (w W : World) (na : Bool) (ao po : Option Addr) (la ca lp cp : Nat) : Prop where
 eq : W = ((w.alloc (.cells #[.bool na, .slice ao la ca, .slice po lp cp] 28)).alloc (.cells #[.bool false, .slice none 0 0] 26)).alloc (.cells #[.bool false, .slice none 0 0] 26)
 below : Below w.heap.size w W
 size : W.heap.size = w.heap.size + 3
 a : Boxed3 W w.heap.size na ao la ca po lp cp
 r : Fresh W (w.heap.size + 1)
 q : Fresh W (w.heap.size + 1 + 1)
theorem RI3.mk' (w : World) (na : Bool) (ao po : Option Addr) (la ca lp cp : Nat) : ∃ W, RI3 w W na ao po la ca lp cp :=
 ⟨_, rfl, (((Below.refl _ _).alloc (Nat.le_refl _) _).alloc (by simp) _).alloc (by simp; omega) _, by simp, ⟨by simp [go_sem], by simp [go_sem], by simp [go_sem]⟩, ⟨fun j => by simp [go_sem], by simp [go_sem], by simp [go_sem]⟩, ⟨fun j => by simp [go_sem], by simp [go_sem], by simp [go_sem]⟩⟩
structure RI2 (w W : World) (na : Bool) (ao po : Option Addr) (la ca lp cp : Nat) : Prop where
 eq : W = (w.alloc (.cells #[.bool na, .slice ao la ca, .slice po lp cp] 28)).alloc (.cells #[.bool false, .slice none 0 0] 26)
 below : Below w.heap.size w W
 size : W.heap.size = w.heap.size + 2
 a : Boxed3 W w.heap.size na ao la ca po lp cp
 r : Fresh W (w.heap.size + 1)
theorem RI2.mk' (w : World) (na : Bool) (ao po : Option Addr) (la ca lp cp : Nat) : ∃ W, RI2 w W na ao po la ca lp cp :=
 ⟨_, rfl, ((Below.refl _ _).alloc (Nat.le_refl _) _).alloc (by simp) _, by simp, ⟨by simp [go_sem], by simp [go_sem], by simp [go_sem]⟩, ⟨fun j => by simp [go_sem], by simp [go_sem], by simp [go_sem]⟩⟩
theorem nw_word {w : World} {n : Nat} {z : Int} (h : mag n = [z]) : Own w.heap.size (w.alloc (.cells #[.int .u64 z] 68)) .u64 68 (some ⟨w.heap.size, 0, none⟩) 1 1 (mag n) := by
 rw [h]; exact Own.whole (Blk.new w .u64 68 [z]) (Nat.le_refl _) rfl
def half2 : Rat := ⟨1, 2, by decide, by decide⟩
theorem two_word : mag 2 = [2] := by decide
theorem sz_half2 : Sz half2 1 := by unfold Sz; decide
theorem half2_twice : half2 + half2 = 1 := by
 obtain ⟨h1, h2⟩ := radd_parts half2 half2 2 (by decide)
 exact Rat.ext (h1.trans (by decide)) (h2.trans (by decide))
theorem mid_rat (na nb : Bool) (ao po bo qo : Option Addr) (la ca lp cp lb cb lq cq : Nat) (a b : Rat) (w : World) (hx : RatAt w na ao la ca po lp cp a) (hy : RatAt w nb bo lb cb qo lq cq b) (ha : Sz a 200) (hb : Sz b 200) (hT0 : TabAt 0 Lib.deBruijn64tab w) :
  Calls Tryz.prog 54 #[.agg #[.bool na, .slice ao la ca, .slice po lp cp], .agg #[.bool nb, .slice bo lb cb, .slice qo lq cq]] w fun e w' => NewRat w w' e ((a + b) * half2) := by
 obtain ⟨W, hT⟩ := RTwo3.mk' w na nb ao po bo qo la ca lp cp lb cb lq cq
 have hsz := hT.size
 have HX : Hid (RatAt W na ao la ca po lp cp a ∧ RatAt W nb bo lb cb qo lq cq b ∧ TabAt 0 Lib.deBruijn64tab W) := ⟨hx.later hT.below, hy.later hT.below, tab_later hT0 hT.below⟩
 have hla : la ≤ 200 := (hx.len ha).1
 have hlp : lp ≤ 200 := (hx.len ha).2
 have hlb : lb ≤ 200 := (hy.len hb).1
 have hlq : lq ≤ 200 := (hy.len hb).2
 have HS : Hid (Sz a 1000 ∧ Sz b 1000 ∧ Sz (a + b) 1000) := ⟨ha.mono (by decide), hb.mono (by decide), (ha.add hb).mono (by decide)⟩
 clear hx hy hT0 ha hb
 go_enter Tryz.func54, Tryz.ntmps54
 go_wp2_with (first
  | (go_at_call 81; rw [← hT.eq]; refine (checkBoth_good na nb ao po bo qo la ca lp cp lb cb lq cq a b _ HX.out.1 HX.out.2.1 (by omega) (by omega) (by omega) (by omega) HX.out.2.2).mono ?_; rintro e w1 ⟨rfl, hb1⟩; obtain ⟨p0, p1, p2⟩ := hT.a.later hb1 (by omega); obtain ⟨q0, q1, q2⟩ := hT.b.later hb1 (by omega))
  | (go_at_call 92; refine (sum_rat na nb ao po bo qo la ca lp cp lb cb lq cq a b _ (HX.out.1.later hb1) (HX.out.2.1.later hb1) HS.out.1 HS.out.2.1 (tab_later HX.out.2.2 hb1)).mono ?_; rintro e w2 ⟨n2, o2, l2, c2, o3, l3, c3, rfl, hs, ho, hp, _, hb⟩; have H2 : Hid (RatAt w2 n2 o2 l2 c2 o3 l3 c3 (a + b) ∧ Below W.heap.size W w2) := ⟨⟨ho.int hs, hp.row⟩, bnext hb1 hb⟩; clear hs ho hp hb p0 p1 p2 q0 q1 q2)
  | (go_at_call 93; refine (from_any 1 _ (by decide) (by decide)).mono ?_; rintro e w3 ⟨n4, o4, l4, c4, rfl, hs, ho, hb⟩; have H3 : Hid (RatAt (w3.alloc (.cells #[.int .u64 2] 68)) n2 o2 l2 c2 o3 l3 c3 (a + b) ∧ RatAt (w3.alloc (.cells #[.int .u64 2] 68)) n4 o4 l4 c4 (some ⟨w3.heap.size, 0, none⟩) 1 1 half2 ∧ Below W.heap.size W (w3.alloc (.cells #[.int .u64 2] 68))) := (by have hA : Below w3.heap.size w3 (w3.alloc (.cells #[.int .u64 2] 68)) := (Below.refl _ _).alloc (Nat.le_refl _) _; exact ⟨(H2.out.1.later hb).later hA, ⟨(ho.int hs).later hA, (nw_word two_word).row⟩, bnext (bnext H2.out.2 hb) hA⟩); clear hs ho hb)
  | (go_at_call 91; refine (product_rat n2 n4 o2 o3 o4 (some ⟨w3.heap.size, 0, none⟩) l2 c2 l3 c3 l4 c4 1 1 (a + b) half2 _ H3.out.1 H3.out.2.1 HS.out.2.2 (sz_half2.mono (by decide)) (tab_later HX.out.2.2 H3.out.2.2)).mono ?_; rintro e w5 ⟨n5, o5, l5, c5, p5, m5, k5, rfl, hs, ho, hp, hpt, hb⟩; have HA : Hid (n5 = sgB ((a + b) * half2).num ∧ Own W.heap.size w5 .u64 68 o5 l5 c5 (mag ((a + b) * half2).num.natAbs) ∧ Own W.heap.size w5 .u64 68 p5 m5 k5 (mag ((a + b) * half2).den) ∧ Parted o5 p5 ∧ Below W.heap.size W w5) := ⟨hs, ho.mono H3.out.2.2.size, hp.mono H3.out.2.2.size, hpt, bnext H3.out.2.2 hb⟩; clear hs ho hp hpt hb; obtain ⟨g5, g2, g3, g4⟩ := hT.r.later HA.out.2.2.2.2 (by omega)))
 exact bodyPost_ret (v := .agg #[.bool n5, .slice o5 l5 c5, .slice p5 m5 k5]) (by simp [results, Tryz.results54, go_sem, g2, g3, g4]) rfl
  ⟨_, _, _, _, _, _, _, rfl, HA.out.1, (HA.out.2.1.store3 (by omega) _ _ _).mono (by omega), (HA.out.2.2.1.store3 (by omega) _ _ _).mono (by omega), HA.out.2.2.2.1, below_store3 (bnext hT.below HA.out.2.2.2.2) (by omega) _ _ _⟩
theorem qint_any (n : Int) (w : World) (h1 : -9223372036854775808 ≤ n) (h2 : n ≤ 9223372036854775807) :
  Calls Tryz.prog 39 #[.int .i64 n] w fun e w' => SomeR w w' e (n : Rat) := by
 obtain ⟨W, hT⟩ := R1.mk' w
 have hsz := hT.size
 go_enter Tryz.func39, Tryz.ntmps39
 go_wp2_with (first
  | (go_at_call 37; rw [← hT.eq]; refine (rfrom_any n _ h1 h2).mono ?_; rintro e w1 ⟨n1, o1, l1, c1, rfl, hs, ho, hb1⟩; have H1 : Hid (IntAt w1 n1 o1 l1 c1 n) := ho.int hs; clear hs ho)
  | (go_at_call 78; refine (qfrom_any n1 o1 l1 c1 _ _ H1.out.row).mono ?_; rintro e w2 ⟨p2, m2, k2, rfl, hr, ho, hb2⟩; have H2 : Hid (RatAt w2 n1 o1 l1 c1 p2 m2 k2 (n : Rat) ∧ Below W.heap.size W w2) := ⟨⟨⟨H1.out.sg, hr⟩, ho.row⟩, bnext hb1 hb2⟩; clear hr ho; obtain ⟨g5, g2, g3, g4⟩ := hT.r.later H2.out.2 (by omega)))
 exact bodyPost_ret (v := .agg #[.bool n1, .slice o1 l1 c1, .slice p2 m2 k2]) (by simp [results, Tryz.results39, go_sem, g2, g3, g4]) rfl
  ⟨_, _, _, _, _, _, _, rfl, rat_kept H2.out.1 ⟨g2, g3, g4⟩, below_store3 (bnext hT.below H2.out.2) (by omega) _ _ _⟩
end Go.Proofs.YtbkaiifplahhpaaGreatDoor
namespace Go.Proofs.YtbkaiifplahhpaaGreatDoor
open Go.RowKit
def NewSp (w w' : World) (n1 n2 : Bool) (o1 p1 o2 p2 : Option Addr) (l1 c1 m1 k1 l2 c2 m2 k2 : Nat) (a b : Rat) : Prop :=
 (n1 = sgB (a).num ∧ Own w.heap.size w' .u64 68 o1 l1 c1 (mag (a).num.natAbs) ∧ Own w.heap.size w' .u64 68 p1 m1 k1 (mag (a).den) ∧ Parted o1 p1) ∧ (n2 = sgB (b).num ∧ Own w.heap.size w' .u64 68 o2 l2 c2 (mag (b).num.natAbs) ∧ Own w.heap.size w' .u64 68 p2 m2 k2 (mag (b).den) ∧ Parted o2 p2) ∧ (Parted o1 o2 ∧ Parted o1 p2 ∧ Parted p1 o2 ∧ Parted p1 p2) ∧ Below w.heap.size w w'
theorem NewSp.lo {w w' : World} {n1 n2 : Bool} {o1 p1 o2 p2 : Option Addr} {l1 c1 m1 k1 l2 c2 m2 k2 : Nat} {a b : Rat} (h : NewSp w w' n1 n2 o1 p1 o2 p2 l1 c1 m1 k1 l2 c2 m2 k2 a b) : RatAt w' n1 o1 l1 c1 p1 m1 k1 a := ⟨h.1.2.1.int h.1.1, h.1.2.2.1.row⟩
theorem NewSp.hi {w w' : World} {n1 n2 : Bool} {o1 p1 o2 p2 : Option Addr} {l1 c1 m1 k1 l2 c2 m2 k2 : Nat} {a b : Rat} (h : NewSp w w' n1 n2 o1 p1 o2 p2 l1 c1 m1 k1 l2 c2 m2 k2 a b) : RatAt w' n2 o2 l2 c2 p2 m2 k2 b := ⟨h.2.1.2.1.int h.2.1.1, h.2.1.2.2.1.row⟩
def SpOut (w w' : World) (e : Ending) (a b : Rat) : Prop := ∃ n1 o1 l1 c1 p1 m1 k1 n2 o2 l2 c2 p2 m2 k2, e = .returned (.agg #[.bool n1, .slice o1 l1 c1, .slice p1 m1 k1, .bool n2, .slice o2 l2 c2, .slice p2 m2 k2]) ∧ NewSp w w' n1 n2 o1 p1 o2 p2 l1 c1 m1 k1 l2 c2 m2 k2 a b
def SpErr (w w' : World) (e : Ending) (a b : Rat) : Prop := ∃ n1 o1 l1 c1 p1 m1 k1 n2 o2 l2 c2 p2 m2 k2, e = .returned (.tuple #[.agg #[.bool n1, .slice o1 l1 c1, .slice p1 m1 k1, .bool n2, .slice o2 l2 c2, .slice p2 m2 k2], .int .i64 0]) ∧ NewSp w w' n1 n2 o1 p1 o2 p2 l1 c1 m1 k1 l2 c2 m2 k2 a b
def HalvesOut (w w' : World) (e : Ending) (a m b : Rat) : Prop := ∃ n1 o1 l1 c1 p1 m1 k1 n2 o2 l2 c2 p2 m2 k2 n3 o3 l3 c3 p3 m3 k3 n4 o4 l4 c4 p4 m4 k4, e = .returned (.tuple #[.agg #[.bool n1, .slice o1 l1 c1, .slice p1 m1 k1, .bool n2, .slice o2 l2 c2, .slice p2 m2 k2], .agg #[.bool n3, .slice o3 l3 c3, .slice p3 m3 k3, .bool n4, .slice o4 l4 c4, .slice p4 m4 k4], .int .i64 0]) ∧ NewSp w w' n1 n2 o1 p1 o2 p2 l1 c1 m1 k1 l2 c2 m2 k2 a m ∧ NewSp w w' n3 n4 o3 p3 o4 p4 l3 c3 m3 k3 l4 c4 m4 k4 m b
theorem sclone_any (n1 : Bool) (o1 p1 : Option Addr) (l1 c1 m1 k1 : Nat) (a : Rat) (w : World) (hx : RatAt w n1 o1 l1 c1 p1 m1 k1 a) (hl : l1 ≤ 1073741824) (hm : m1 ≤ 1073741824) :
  Calls Tryz.prog 90 #[.agg #[.bool n1, .slice o1 l1 c1, .slice p1 m1 k1]] w fun e w' => NewRat w w' e a := by
 obtain ⟨W, hW, hsz, hbW, hA, hR⟩ := enter2 w [.bool n1, .slice o1 l1 c1, .slice p1 m1 k1] [.bool false, .slice none 0 0, .slice none 0 0] 28 28
 have HX : Hid (RatAt W n1 o1 l1 c1 p1 m1 k1 a) := hx.later hbW
 have KW : Hid (∀ w' : World, Below W.heap.size W w' → w'.cell? ⟨w.heap.size, 0, none⟩ = some (.bool n1) ∧ w'.cell? ⟨w.heap.size, 1, none⟩ = some (.slice o1 l1 c1) ∧ w'.cell? ⟨w.heap.size, 2, none⟩ = some (.slice p1 m1 k1)) := fun w' h => ⟨((hA).later h (by omega)).1 0 _ rfl, ((hA).later h (by omega)).1 1 _ rfl, ((hA).later h (by omega)).1 2 _ rfl⟩
 clear hx
 go_enter Tryz.func90, Tryz.ntmps90
 go_upto_region 1 with fail
 rw [← hW]
 clear hW
 have KR : Hid (∀ X : World, Below W.heap.size W X → ∀ vs, (fun w' : World => w'.cell? ⟨w.heap.size, 0, none⟩ = some (.bool n1) ∧ w'.cell? ⟨w.heap.size, 1, none⟩ = some (.slice o1 l1 c1) ∧ w'.cell? ⟨w.heap.size, 2, none⟩ = some (.slice p1 m1 k1)) (putl X (w.heap.size + 1) 0 vs)) := fun X h vs => by
  obtain ⟨h0, h1, h2⟩ := KW.out X h
  exact ⟨(putl_off (by omega) vs 0 X).trans h0, (putl_off (by omega) vs 0 X).trans h1, (putl_off (by omega) vs 0 X).trans h2⟩
 refine wp_region_noPanic ?_
 refine wp_region_held_drew (S := fun w' => (w'.cell? ⟨w.heap.size, 0, none⟩ = some (.bool n1) ∧ w'.cell? ⟨w.heap.size, 1, none⟩ = some (.slice o1 l1 c1) ∧ w'.cell? ⟨w.heap.size, 2, none⟩ = some (.slice p1 m1 k1))) (by kernel_rfl) (by (try dsimp only); exact KW.out _ (Below.refl _ _).drew) (fun hHeld => ?_)
 refine wpAnyH_take (i := 0) (oi := Oper.mk (some 3) _ _ _ _ _) (v := ?_) rfl (by kernel_rfl) (by kernel_rfl) (by kernel_rfl) (fun _ _ _ h => h) (Or.inl ⟨by rfl, ?_⟩) (by assumption) ?_
 rotate_left
 ·
  (intro w hSw; (try dsimp only at hSw); go_simp <;> (try with_reducible rfl))
 (try simp only [Act.put, List.setIfInBounds_toArray, List.set_cons_zero, List.set_cons_succ])
 refine wpAnyH_take (i := 1) (oi := Oper.mk (some 4) _ _ _ _ _) (v := ?_) rfl (by kernel_rfl) (by kernel_rfl) (by kernel_rfl) (fun _ _ _ h => h) (Or.inl ⟨by rfl, ?_⟩) (by assumption) ?_
 rotate_left
 ·
  (intro w hSw; (try dsimp only at hSw); go_simp <;> (try with_reducible rfl))
 (try simp only [Act.put, List.setIfInBounds_toArray, List.set_cons_zero, List.set_cons_succ])
 refine wpAnyH_take (i := 2) (oi := Oper.mk (some 5) _ _ _ _ _) (v := ?_) rfl (by kernel_rfl) (by kernel_rfl) (by kernel_rfl) (fun _ _ _ h => h) (Or.inl ⟨by rfl, ?_⟩) (by assumption) ?_
 rotate_left
 ·
  (intro w hSw; (try dsimp only at hSw); go_simp <;> (try with_reducible rfl))
 (try simp only [Act.put, List.setIfInBounds_toArray, List.set_cons_zero, List.set_cons_succ])
 refine wpAnyH_take (i := 3) (oi := Oper.mk (some 6) _ _ _ _ _) (v := ?_) rfl (by kernel_rfl) (by kernel_rfl) (by kernel_rfl) (fun _ _ _ h => h) (Or.inl ⟨by rfl, ?_⟩) (by assumption) ?_
 rotate_left
 ·
  (intro w hSw; (try dsimp only at hSw); go_simp <;> (try with_reducible rfl))
 (try simp only [Act.put, List.setIfInBounds_toArray, List.set_cons_zero, List.set_cons_succ])
 refine wpAnyH_take (i := 4) (oi := Oper.mk (some 7) _ _ _ _ _) (v := ?_) rfl (by kernel_rfl) (by kernel_rfl) (by kernel_rfl) (fun _ _ _ h => h) (Or.inl ⟨by rfl, ?_⟩) (by assumption) ?_
 rotate_left
 ·
  (intro w hSw; (try dsimp only at hSw); go_simp <;> (try with_reducible rfl))
 (try simp only [Act.put, List.setIfInBounds_toArray, List.set_cons_zero, List.set_cons_succ])
 refine wpAnyH_take (i := 5) (oi := Oper.mk (some 8) _ _ _ _ _) (v := ?_) rfl (by kernel_rfl) (by kernel_rfl) (by kernel_rfl) (fun _ _ _ h => h) (Or.inl ⟨by rfl, ?_⟩) (by assumption) ?_
 rotate_left
 ·
  (intro w hSw; (try dsimp only at hSw); go_simp <;> (try with_reducible rfl))
 (try simp only [Act.put, List.setIfInBounds_toArray, List.set_cons_zero, List.set_cons_succ])
 refine wpAnyH_take (i := 8) (oi := Oper.mk (some 11) _ _ _ _ _) (v := ?_) rfl (by kernel_rfl) (by kernel_rfl) (by kernel_rfl) (fun _ _ _ h => h) (Or.inl ⟨by rfl, ?_⟩) (by assumption) ?_
 rotate_left
 ·
  (intro w hSw; (try dsimp only at hSw); go_simp <;> (try with_reducible rfl))
 (try simp only [Act.put, List.setIfInBounds_toArray, List.set_cons_zero, List.set_cons_succ])
 refine wpAnyH_take (i := 9) (oi := Oper.mk (some 12) _ _ _ _ _) (v := ?_) rfl (by kernel_rfl) (by kernel_rfl) (by kernel_rfl) (fun _ _ _ h => h) (Or.inl ⟨by rfl, ?_⟩) (by assumption) ?_
 rotate_left
 ·
  (intro w hSw; (try dsimp only at hSw); go_simp <;> (try with_reducible rfl))
 (try simp only [Act.put, List.setIfInBounds_toArray, List.set_cons_zero, List.set_cons_succ])
 refine wpAnyH_ready (rs := [6]) (by kernel_rfl) (by simp) ?_
 refine AllReadyH.cons (o := Oper.mk (some 9) _ _ _ _ _) rfl (fun K hK => ?_) AllReadyH.nil
 go_simp
 (go_at_call 120; refine (scloneNat_any o1 l1 c1 a.num.natAbs _ (HX.out.num.row.later (Below.refl _ _).drew) hl).mono ?_; rintro e f1 ⟨o2, l2, c2, rfl, ho, hb⟩; have H1 : Hid (Own W.heap.size f1 .u64 68 o2 l2 c2 (mag a.num.natAbs)) := ho.mono (Nat.le_refl _); clear ho; have hbF1 : Below W.heap.size W f1 := bnext (Below.refl _ _).drew hb; clear hb)
 (try go_wp2_with fail)
 clear hHeld
 refine hK.out _ _ (by (try dsimp only); first | exact KW.out _ (Below.refl _ _).drew | exact KW.out _ (by assumption)) (fun hHeld => ?_)
 clear hK K
 (try simp only [Act.put, List.setIfInBounds_toArray, List.set_cons_zero, List.set_cons_succ])
 refine wpAnyH_take (i := 7) (oi := Oper.mk (some 10) _ _ _ _ _) (v := ?_) rfl (by kernel_rfl) (by kernel_rfl) (by kernel_rfl) (fun _ _ _ h => h) (Or.inl ⟨by rfl, ?_⟩) (by assumption) ?_
 rotate_left
 ·
  (intro w hSw; (try dsimp only at hSw); go_simp <;> (try with_reducible rfl))
 (try simp only [Act.put, List.setIfInBounds_toArray, List.set_cons_zero, List.set_cons_succ])
 refine wpAnyH_ready (rs := [10]) (by kernel_rfl) (by simp) ?_
 refine AllReadyH.cons (o := Oper.mk (some 13) _ _ _ _ _) rfl (fun K hK => ?_) AllReadyH.nil
 go_simp
 (go_at_call 120; refine (scloneNat_any p1 m1 k1 a.den _ (HX.out.den.later hbF1) hm).mono ?_; rintro e f2 ⟨p2, m2, k2, rfl, ho, hb⟩; have H2 : Hid (Own W.heap.size f2 .u64 68 o2 l2 c2 (mag a.num.natAbs) ∧ Own W.heap.size f2 .u64 68 p2 m2 k2 (mag a.den) ∧ Parted o2 p2) := ⟨H1.out.later hb, ho.mono hbF1.size, Parted.made H1.out ho (Nat.le_refl _)⟩; clear ho; have hbF2 : Below W.heap.size W f2 := bnext hbF1 hb; clear hb)
 (try go_wp2_with fail)
 clear hHeld
 refine hK.out _ _ (by (try dsimp only); first | exact KW.out _ (Below.refl _ _).drew | exact KW.out _ (by assumption)) (fun hHeld => ?_)
 clear hK K
 (try simp only [Act.put, List.setIfInBounds_toArray, List.set_cons_zero, List.set_cons_succ])
 refine wpAnyH_take (i := 11) (oi := Oper.mk (some 14) _ _ _ _ _) (v := ?_) rfl (by kernel_rfl) (by kernel_rfl) (by kernel_rfl) (fun _ _ _ h => h) (Or.inl ⟨by rfl, ?_⟩) (by assumption) ?_
 rotate_left
 ·
  (intro w hSw; (try dsimp only at hSw); go_simp <;> (try with_reducible rfl))
 (try simp only [Act.put, List.setIfInBounds_toArray, List.set_cons_zero, List.set_cons_succ])
 have hF := hR.later hbF2 (by omega); have g5 := hF.2; have g2 := hF.1 0 _ rfl; have g3 := hF.1 1 _ rfl; have g4 := hF.1 2 _ rfl; clear hF
 refine wpAnyH_ready (rs := [12]) (by kernel_rfl) (by simp) ?_
 refine AllReadyH.cons (o := Oper.mk none _ _ _ _ _) rfl (fun K hK => ?_) AllReadyH.nil
 go_simp
 clear hHeld
 refine hK.out _ _ (by (try dsimp only); exact KR.out _ hbF2 [.bool n1, .slice o2 l2 c2, .slice p2 m2 k2]) (fun hHeld => ?_)
 clear hK K
 (try simp only [Act.put, List.setIfInBounds_toArray, List.set_cons_zero, List.set_cons_succ])
 refine wpAnyH_done (by kernel_rfl) ?_ _
 refine NoPanic.normal ?_
 go_wp2
 exact bodyPost_ret (v := .agg #[.bool n1, .slice o2 l2 c2, .slice p2 m2 k2]) (by simp [results, Tryz.results90, go_sem, g2, g3, g4]) rfl
  ⟨_, _, _, _, _, _, _, rfl, HX.out.num.sg, (H2.out.1.store3 (by omega) _ _ _).mono (by omega), (H2.out.2.1.store3 (by omega) _ _ _).mono (by omega), H2.out.2.2, below_store3 (bnext hbW hbF2) (by omega) _ _ _⟩
theorem sbetween_any (n1 n2 : Bool) (o1 p1 o2 p2 : Option Addr) (l1 c1 m1 k1 l2 c2 m2 k2 : Nat) (a b : Rat) (w : World) (hx : RatAt w n1 o1 l1 c1 p1 m1 k1 a) (hy : RatAt w n2 o2 l2 c2 p2 m2 k2 b) (ha : Sz a 100000) (hb : Sz b 100000) :
  Calls Tryz.prog 53 #[.agg #[.bool n1, .slice o1 l1 c1, .slice p1 m1 k1], .agg #[.bool n2, .slice o2 l2 c2, .slice p2 m2 k2]] w fun e w' => SpOut w w' e a b := by
 obtain ⟨W, hW, hsz, hbW, hA, hB, hR⟩ := enter3 w [.bool n1, .slice o1 l1 c1, .slice p1 m1 k1] [.bool n2, .slice o2 l2 c2, .slice p2 m2 k2] [.bool false, .slice none 0 0, .slice none 0 0, .bool false, .slice none 0 0, .slice none 0 0] 28 28 30
 have HX : Hid (RatAt W n1 o1 l1 c1 p1 m1 k1 a ∧ RatAt W n2 o2 l2 c2 p2 m2 k2 b) := ⟨hx.later hbW, hy.later hbW⟩
 have hl1 : l1 ≤ 100000 := (hx.len ha).1
 have hm1 : m1 ≤ 100000 := (hx.len ha).2
 have hl2 : l2 ≤ 100000 := (hy.len hb).1
 have hm2 : m2 ≤ 100000 := (hy.len hb).2
 have KW : Hid (∀ w' : World, Below W.heap.size W w' → w'.cell? ⟨w.heap.size, 0, none⟩ = some (.bool n1) ∧ w'.cell? ⟨w.heap.size, 1, none⟩ = some (.slice o1 l1 c1) ∧ w'.cell? ⟨w.heap.size, 2, none⟩ = some (.slice p1 m1 k1) ∧ w'.cell? ⟨w.heap.size + 1, 0, none⟩ = some (.bool n2) ∧ w'.cell? ⟨w.heap.size + 1, 1, none⟩ = some (.slice o2 l2 c2) ∧ w'.cell? ⟨w.heap.size + 1, 2, none⟩ = some (.slice p2 m2 k2)) := fun w' h => ⟨((hA).later h (by omega)).1 0 _ rfl, ((hA).later h (by omega)).1 1 _ rfl, ((hA).later h (by omega)).1 2 _ rfl, ((hB).later h (by omega)).1 0 _ rfl, ((hB).later h (by omega)).1 1 _ rfl, ((hB).later h (by omega)).1 2 _ rfl⟩
 clear hx hy ha hb
 go_enter Tryz.func53, Tryz.ntmps53
 go_upto_region 1 with fail
 rw [← hW]
 clear hW
 have KR : Hid (∀ X : World, Below W.heap.size W X → ∀ vs, (fun w' : World => w'.cell? ⟨w.heap.size, 0, none⟩ = some (.bool n1) ∧ w'.cell? ⟨w.heap.size, 1, none⟩ = some (.slice o1 l1 c1) ∧ w'.cell? ⟨w.heap.size, 2, none⟩ = some (.slice p1 m1 k1) ∧ w'.cell? ⟨w.heap.size + 1, 0, none⟩ = some (.bool n2) ∧ w'.cell? ⟨w.heap.size + 1, 1, none⟩ = some (.slice o2 l2 c2) ∧ w'.cell? ⟨w.heap.size + 1, 2, none⟩ = some (.slice p2 m2 k2)) (putl X (w.heap.size + 1 + 1) 0 vs)) := fun X h vs => by
  obtain ⟨h0, h1, h2, h3, h4, h5⟩ := KW.out X h
  exact ⟨(putl_off (by omega) vs 0 X).trans h0, (putl_off (by omega) vs 0 X).trans h1, (putl_off (by omega) vs 0 X).trans h2, (putl_off (by omega) vs 0 X).trans h3, (putl_off (by omega) vs 0 X).trans h4, (putl_off (by omega) vs 0 X).trans h5⟩
 refine wp_region_noPanic ?_
 refine wp_region_held_drew (S := fun w' => (w'.cell? ⟨w.heap.size, 0, none⟩ = some (.bool n1) ∧ w'.cell? ⟨w.heap.size, 1, none⟩ = some (.slice o1 l1 c1) ∧ w'.cell? ⟨w.heap.size, 2, none⟩ = some (.slice p1 m1 k1) ∧ w'.cell? ⟨w.heap.size + 1, 0, none⟩ = some (.bool n2) ∧ w'.cell? ⟨w.heap.size + 1, 1, none⟩ = some (.slice o2 l2 c2) ∧ w'.cell? ⟨w.heap.size + 1, 2, none⟩ = some (.slice p2 m2 k2))) (by kernel_rfl) (by (try dsimp only); exact KW.out _ (Below.refl _ _).drew) (fun hHeld => ?_)
 refine wpAnyH_take (i := 0) (oi := Oper.mk (some 5) _ _ _ _ _) (v := ?_) rfl (by kernel_rfl) (by kernel_rfl) (by kernel_rfl) (fun _ _ _ h => h) (Or.inl ⟨by rfl, ?_⟩) (by assumption) ?_
 rotate_left
 ·
  (intro w hSw; (try dsimp only at hSw); go_simp <;> (try with_reducible rfl))
 (try simp only [Act.put, List.setIfInBounds_toArray, List.set_cons_zero, List.set_cons_succ])
 refine wpAnyH_take (i := 2) (oi := Oper.mk (some 7) _ _ _ _ _) (v := ?_) rfl (by kernel_rfl) (by kernel_rfl) (by kernel_rfl) (fun _ _ _ h => h) (Or.inl ⟨by rfl, ?_⟩) (by assumption) ?_
 rotate_left
 ·
  (intro w hSw; (try dsimp only at hSw); go_simp <;> (try with_reducible rfl))
 (try simp only [Act.put, List.setIfInBounds_toArray, List.set_cons_zero, List.set_cons_succ])
 refine wpAnyH_ready (rs := [1]) (by kernel_rfl) (by simp) ?_
 refine AllReadyH.cons (o := Oper.mk (some 6) _ _ _ _ _) rfl (fun K hK => ?_) AllReadyH.nil
 go_simp
 (go_at_call 90; refine (sclone_any n1 o1 p1 l1 c1 m1 k1 a _ (HX.out.1.later (Below.refl _ _).drew) (by omega) (by omega)).mono ?_; rintro e f1 ⟨n3, o3, l3, c3, p3, m3, k3, rfl, hs, ho, hp, hpt, hb⟩; have H1 : Hid (n3 = sgB (a).num ∧ Own W.heap.size f1 .u64 68 o3 l3 c3 (mag (a).num.natAbs) ∧ Own W.heap.size f1 .u64 68 p3 m3 k3 (mag (a).den) ∧ Parted o3 p3) := ⟨hs, ho.mono (Nat.le_refl _), hp.mono (Nat.le_refl _), hpt⟩; clear hs ho hp hpt; have hbF1 : Below W.heap.size W f1 := bnext (Below.refl _ _).drew hb; clear hb)
 (try go_wp2_with fail)
 clear hHeld
 refine hK.out _ _ (by (try dsimp only); first | exact KW.out _ (Below.refl _ _).drew | exact KW.out _ (by assumption)) (fun hHeld => ?_)
 clear hK K
 (try simp only [Act.put, List.setIfInBounds_toArray, List.set_cons_zero, List.set_cons_succ])
 refine wpAnyH_ready (rs := [3]) (by kernel_rfl) (by simp) ?_
 refine AllReadyH.cons (o := Oper.mk (some 8) _ _ _ _ _) rfl (fun K hK => ?_) AllReadyH.nil
 go_simp
 (go_at_call 90; refine (sclone_any n2 o2 p2 l2 c2 m2 k2 b _ (HX.out.2.later hbF1) (by omega) (by omega)).mono ?_; rintro e f2 ⟨n4, o4, l4, c4, p4, m4, k4, rfl, hs, ho, hp, hpt, hb⟩; have H2 : Hid ((n3 = sgB (a).num ∧ Own W.heap.size f2 .u64 68 o3 l3 c3 (mag (a).num.natAbs) ∧ Own W.heap.size f2 .u64 68 p3 m3 k3 (mag (a).den) ∧ Parted o3 p3) ∧ (n4 = sgB (b).num ∧ Own W.heap.size f2 .u64 68 o4 l4 c4 (mag (b).num.natAbs) ∧ Own W.heap.size f2 .u64 68 p4 m4 k4 (mag (b).den) ∧ Parted o4 p4) ∧ (Parted o3 o4 ∧ Parted o3 p4 ∧ Parted p3 o4 ∧ Parted p3 p4)) := ⟨⟨H1.out.1, H1.out.2.1.later hb, H1.out.2.2.1.later hb, H1.out.2.2.2⟩, ⟨hs, ho.mono hbF1.size, hp.mono hbF1.size, hpt⟩, Parted.made H1.out.2.1 ho (Nat.le_refl _), Parted.made H1.out.2.1 hp (Nat.le_refl _), Parted.made H1.out.2.2.1 ho (Nat.le_refl _), Parted.made H1.out.2.2.1 hp (Nat.le_refl _)⟩; clear hs ho hp hpt; have hbF2 : Below W.heap.size W f2 := bnext hbF1 hb; clear hb)
 (try go_wp2_with fail)
 clear hHeld
 refine hK.out _ _ (by (try dsimp only); first | exact KW.out _ (Below.refl _ _).drew | exact KW.out _ (by assumption)) (fun hHeld => ?_)
 clear hK K
 (try simp only [Act.put, List.setIfInBounds_toArray, List.set_cons_zero, List.set_cons_succ])
 refine wpAnyH_take (i := 4) (oi := Oper.mk (some 9) _ _ _ _ _) (v := ?_) rfl (by kernel_rfl) (by kernel_rfl) (by kernel_rfl) (fun _ _ _ h => h) (Or.inl ⟨by rfl, ?_⟩) (by assumption) ?_
 rotate_left
 ·
  (intro w hSw; (try dsimp only at hSw); go_simp <;> (try with_reducible rfl))
 (try simp only [Act.put, List.setIfInBounds_toArray, List.set_cons_zero, List.set_cons_succ])
 have hF := hR.later hbF2 (by omega); have g6 := hF.2; have g0 := hF.1 0 _ rfl; have g1 := hF.1 1 _ rfl; have g2 := hF.1 2 _ rfl; have g3 := hF.1 3 _ rfl; have g4 := hF.1 4 _ rfl; have g5 := hF.1 5 _ rfl; clear hF
 refine wpAnyH_ready (rs := [5]) (by kernel_rfl) (by simp) ?_
 refine AllReadyH.cons (o := Oper.mk none _ _ _ _ _) rfl (fun K hK => ?_) AllReadyH.nil
 go_simp
 clear hHeld
 refine hK.out _ _ (by (try dsimp only); exact KR.out _ hbF2 [.bool n3, .slice o3 l3 c3, .slice p3 m3 k3, .bool n4, .slice o4 l4 c4, .slice p4 m4 k4]) (fun hHeld => ?_)
 clear hK K
 (try simp only [Act.put, List.setIfInBounds_toArray, List.set_cons_zero, List.set_cons_succ])
 refine wpAnyH_done (by kernel_rfl) ?_ _
 refine NoPanic.normal ?_
 go_wp2
 exact bodyPost_ret (v := .agg #[.bool n3, .slice o3 l3 c3, .slice p3 m3 k3, .bool n4, .slice o4 l4 c4, .slice p4 m4 k4]) (by simp [results, Tryz.results53, go_sem, g0, g1, g2, g3, g4, g5]) rfl
  ⟨_, _, _, _, _, _, _, _, _, _, _, _, _, _, rfl, ⟨H2.out.1.1, (putl_own (r := w.heap.size + 1 + 1) (by omega) [.bool n3, .slice o3 l3 c3, .slice p3 m3 k3, .bool n4, .slice o4 l4 c4, .slice p4 m4 k4] 0 _ H2.out.1.2.1).mono (by omega), (putl_own (r := w.heap.size + 1 + 1) (by omega) [.bool n3, .slice o3 l3 c3, .slice p3 m3 k3, .bool n4, .slice o4 l4 c4, .slice p4 m4 k4] 0 _ H2.out.1.2.2.1).mono (by omega), H2.out.1.2.2.2⟩, ⟨H2.out.2.1.1, (putl_own (r := w.heap.size + 1 + 1) (by omega) [.bool n3, .slice o3 l3 c3, .slice p3 m3 k3, .bool n4, .slice o4 l4 c4, .slice p4 m4 k4] 0 _ H2.out.2.1.2.1).mono (by omega), (putl_own (r := w.heap.size + 1 + 1) (by omega) [.bool n3, .slice o3 l3 c3, .slice p3 m3 k3, .bool n4, .slice o4 l4 c4, .slice p4 m4 k4] 0 _ H2.out.2.1.2.2.1).mono (by omega), H2.out.2.1.2.2.2⟩, H2.out.2.2, putl_below (r := w.heap.size + 1 + 1) (by omega) [.bool n3, .slice o3 l3 c3, .slice p3 m3 k3, .bool n4, .slice o4 l4 c4, .slice p4 m4 k4] 0 _ (bnext hbW hbF2)⟩
theorem Sz.max {a b : Rat} {k : Nat} (ha : Sz a k) (hb : Sz b k) : Sz (maxQ a b) k := by unfold maxQ; split <;> assumption
theorem Sz.min {a b : Rat} {k : Nat} (ha : Sz a k) (hb : Sz b k) : Sz (minQ a b) k := by unfold minQ; split <;> assumption
end Go.Proofs.YtbkaiifplahhpaaGreatDoor
namespace Go.Proofs.YtbkaiifplahhpaaGreatDoor
open Go.RowKit
def ElemS (w : World) (b o : Nat) : Prop :=
 ∃ (n1 n2 n3 n4 n5 : Bool) (o1 p1 o2 p2 o3 p3 o4 p4 o5 p5 : Option Addr) (l1 c1 m1 k1 l2 c2 m2 k2 l3 c3 m3 k3 l4 c4 m4 k4 l5 c5 m5 k5 : Nat) (N : Int) (x1 d1 x2 d2 x3 d3 x4 d4 x5 d5 : List Int), (∀ j v, [.bool n1, .slice o1 l1 c1, .slice p1 m1 k1, .bool n2, .slice o2 l2 c2, .slice p2 m2 k2, .bool n3, .slice o3 l3 c3, .slice p3 m3 k3, .bool n4, .slice o4 l4 c4, .slice p4 m4 k4, .bool n5, .slice o5 l5 c5, .slice p5 m5 k5, .int .i64 N][j]? = some v → w.cell? ⟨b, o + j, none⟩ = some v) ∧ (RowAt w .u64 o1 l1 c1 x1 ∧ Wd 18446744073709551616 x1 ∧ RowAt w .u64 p1 m1 k1 d1 ∧ Wd 18446744073709551616 d1) ∧ (RowAt w .u64 o2 l2 c2 x2 ∧ Wd 18446744073709551616 x2 ∧ RowAt w .u64 p2 m2 k2 d2 ∧ Wd 18446744073709551616 d2) ∧ (RowAt w .u64 o3 l3 c3 x3 ∧ Wd 18446744073709551616 x3 ∧ RowAt w .u64 p3 m3 k3 d3 ∧ Wd 18446744073709551616 d3) ∧ (RowAt w .u64 o4 l4 c4 x4 ∧ Wd 18446744073709551616 x4 ∧ RowAt w .u64 p4 m4 k4 d4 ∧ Wd 18446744073709551616 d4) ∧ (RowAt w .u64 o5 l5 c5 x5 ∧ Wd 18446744073709551616 x5 ∧ RowAt w .u64 p5 m5 k5 d5 ∧ Wd 18446744073709551616 d5)
def ElemsS (w : World) (lo : Option Addr) (n : Nat) : Prop := ∀ i, i < n → ∃ b off, lo = some ⟨b, off, none⟩ ∧ b < w.heap.size ∧ ElemS w b (off + i * 16)
theorem ElemS.later {w w' : World} {b o : Nat} (h : ElemS w b o) (hb : Below w.heap.size w w') (hlt : b < w.heap.size) : ElemS w' b o := by
 obtain ⟨n1, n2, n3, n4, n5, o1, p1, o2, p2, o3, p3, o4, p4, o5, p5, l1, c1, m1, k1, l2, c2, m2, k2, l3, c3, m3, k3, l4, c4, m4, k4, l5, c5, m5, k5, N, x1, d1, x2, d2, x3, d3, x4, d4, x5, d5, hc, ⟨r1, v1, s1, t1⟩, ⟨r2, v2, s2, t2⟩, ⟨r3, v3, s3, t3⟩, ⟨r4, v4, s4, t4⟩, ⟨r5, v5, s5, t5⟩⟩ := h
 exact ⟨n1, n2, n3, n4, n5, o1, p1, o2, p2, o3, p3, o4, p4, o5, p5, l1, c1, m1, k1, l2, c2, m2, k2, l3, c3, m3, k3, l4, c4, m4, k4, l5, c5, m5, k5, N, x1, d1, x2, d2, x3, d3, x4, d4, x5, d5, fun j v hj => (hb.cell (p := ⟨b, o + j, none⟩) hlt).trans (hc j v hj), ⟨r1.later hb, v1, s1.later hb, t1⟩, ⟨r2.later hb, v2, s2.later hb, t2⟩, ⟨r3.later hb, v3, s3.later hb, t3⟩, ⟨r4.later hb, v4, s4.later hb, t4⟩, ⟨r5.later hb, v5, s5.later hb, t5⟩⟩
theorem ElemS.elim {w : World} {b o : Nat} {P : Prop} (h : ElemS w b o) (f : ∀ (n1 n2 n3 n4 n5 : Bool) (o1 p1 o2 p2 o3 p3 o4 p4 o5 p5 : Option Addr) (l1 c1 m1 k1 l2 c2 m2 k2 l3 c3 m3 k3 l4 c4 m4 k4 l5 c5 m5 k5 : Nat) (N : Int) (x1 d1 x2 d2 x3 d3 x4 d4 x5 d5 : List Int), (∀ j v, [.bool n1, .slice o1 l1 c1, .slice p1 m1 k1, .bool n2, .slice o2 l2 c2, .slice p2 m2 k2, .bool n3, .slice o3 l3 c3, .slice p3 m3 k3, .bool n4, .slice o4 l4 c4, .slice p4 m4 k4, .bool n5, .slice o5 l5 c5, .slice p5 m5 k5, .int .i64 N][j]? = some v → w.cell? ⟨b, o + j, none⟩ = some v) → ((RowAt w .u64 o1 l1 c1 x1 ∧ Wd 18446744073709551616 x1 ∧ RowAt w .u64 p1 m1 k1 d1 ∧ Wd 18446744073709551616 d1) ∧ (RowAt w .u64 o2 l2 c2 x2 ∧ Wd 18446744073709551616 x2 ∧ RowAt w .u64 p2 m2 k2 d2 ∧ Wd 18446744073709551616 d2) ∧ (RowAt w .u64 o3 l3 c3 x3 ∧ Wd 18446744073709551616 x3 ∧ RowAt w .u64 p3 m3 k3 d3 ∧ Wd 18446744073709551616 d3) ∧ (RowAt w .u64 o4 l4 c4 x4 ∧ Wd 18446744073709551616 x4 ∧ RowAt w .u64 p4 m4 k4 d4 ∧ Wd 18446744073709551616 d4) ∧ (RowAt w .u64 o5 l5 c5 x5 ∧ Wd 18446744073709551616 x5 ∧ RowAt w .u64 p5 m5 k5 d5 ∧ Wd 18446744073709551616 d5)) → P) : P := by
 obtain ⟨n1, n2, n3, n4, n5, o1, p1, o2, p2, o3, p3, o4, p4, o5, p5, l1, c1, m1, k1, l2, c2, m2, k2, l3, c3, m3, k3, l4, c4, m4, k4, l5, c5, m5, k5, N, x1, d1, x2, d2, x3, d3, x4, d4, x5, d5, hc, hr⟩ := h
 exact f n1 n2 n3 n4 n5 o1 p1 o2 p2 o3 p3 o4 p4 o5 p5 l1 c1 m1 k1 l2 c2 m2 k2 l3 c3 m3 k3 l4 c4 m4 k4 l5 c5 m5 k5 N x1 d1 x2 d2 x3 d3 x4 d4 x5 d5 hc hr
def hasQ (a b v : Rat) : Bool := decide (cmpQ a v ≤ 0) && decide (cmpQ v b ≤ 0)
theorem cmpQ_le {a b : Rat} : cmpQ a b ≤ 0 ↔ a ≤ b := by
 show cmpI _ _ ≤ 0 ↔ _
 rw [Rat.le_iff]
 unfold cmpI
 split
 ·
  constructor
  ·
   intro _; omega
  ·
   intro _; omega
 ·
  split
  ·
   constructor
   ·
    intro h; omega
   ·
    intro h; omega
  ·
   constructor
   ·
    intro _; omega
   ·
    intro _; omega
theorem cmpQ_pos {a b : Rat} : 0 < cmpQ a b ↔ ¬ a ≤ b := by rw [← cmpQ_le]; omega
theorem hasQ_iff {a b v : Rat} : hasQ a b v = true ↔ a ≤ v ∧ v ≤ b := by
 unfold hasQ
 rw [Bool.and_eq_true, decide_eq_true_iff, decide_eq_true_iff, cmpQ_le, cmpQ_le]
theorem maxQ_le {a b v : Rat} : maxQ a b ≤ v ↔ a ≤ v ∧ b ≤ v := by
 unfold maxQ
 split
 ·
  rename_i h
  have h2 : a ≤ b := (Rat.le_total (a := a) (b := b)).resolve_right (cmpQ_pos.1 h)
  exact ⟨fun h3 => ⟨Rat.le_trans h2 h3, h3⟩, fun h3 => h3.2⟩
 ·
  rename_i h
  have h2 : b ≤ a := cmpQ_le.1 (by omega)
  exact ⟨fun h3 => ⟨h3, Rat.le_trans h2 h3⟩, fun h3 => h3.1⟩
theorem le_minQ {a b v : Rat} : v ≤ minQ a b ↔ v ≤ a ∧ v ≤ b := by
 unfold minQ
 split
 ·
  rename_i h
  have h2 : b ≤ a := cmpQ_le.1 (by omega)
  exact ⟨fun h3 => ⟨Rat.le_trans h3 h2, h3⟩, fun h3 => h3.2⟩
 ·
  rename_i h
  have h2 : a ≤ b := by
   have h4 : ¬ cmpQ b a < 0 := h
   rw [cmpQ_neg a b] at h4
   exact cmpQ_le.1 (by omega)
  exact ⟨fun h3 => ⟨h3, Rat.le_trans h3 h2⟩, fun h3 => h3.1⟩
theorem mid_le {a b : Rat} (h : a ≤ b) : a ≤ (a + b) * half2 ∧ (a + b) * half2 ≤ b := by
 by_cases e : a = b
 ·
  subst e
  have h1 : (a + a) * half2 = a := by
   rw [Rat.add_mul, ← Rat.mul_add, half2_twice, Rat.mul_one]
  rw [h1]; exact ⟨Rat.le_refl, Rat.le_refl⟩
 ·
  have h2 : a < b := Rat.lt_of_le_of_ne h e
  obtain ⟨h3, h4⟩ := mid_lt half2_twice h2
  exact ⟨Rat.le_of_lt h3, Rat.le_of_lt h4⟩
end Go.Proofs.YtbkaiifplahhpaaGreatDoor
namespace Go.Proofs.YtbkaiifplahhpaaGreatDoor
open Go.RowKit
theorem shalves_any (n1 n2 : Bool) (o1 p1 o2 p2 : Option Addr) (l1 c1 m1 k1 l2 c2 m2 k2 : Nat) (a b : Rat) (w : World) (hx : RatAt w n1 o1 l1 c1 p1 m1 k1 a) (hy : RatAt w n2 o2 l2 c2 p2 m2 k2 b) (ha : Sz a 200) (hb : Sz b 200) (hc : cmpQ a b ≤ 0) (hT0 : TabAt 0 Lib.deBruijn64tab w) :
  Calls Tryz.prog 23 #[.agg #[.bool n1, .slice o1 l1 c1, .slice p1 m1 k1, .bool n2, .slice o2 l2 c2, .slice p2 m2 k2]] w fun e w' => HalvesOut w w' e a ((a + b) * half2) b := by
 obtain ⟨W, hW, hsz, hbW, hA, hR, hQ⟩ := enter3 w [.bool n1, .slice o1 l1 c1, .slice p1 m1 k1, .bool n2, .slice o2 l2 c2, .slice p2 m2 k2] [.bool false, .slice none 0 0, .slice none 0 0, .bool false, .slice none 0 0, .slice none 0 0] [.bool false, .slice none 0 0, .slice none 0 0, .bool false, .slice none 0 0, .slice none 0 0] 30 30 30
 have HX : Hid (RatAt W n1 o1 l1 c1 p1 m1 k1 a ∧ RatAt W n2 o2 l2 c2 p2 m2 k2 b ∧ TabAt 0 Lib.deBruijn64tab W) := ⟨hx.later hbW, hy.later hbW, tab_later hT0 hbW⟩
 have HC : Hid (Sz a 200 ∧ Sz b 200 ∧ cmpQ a b ≤ 0) := ⟨ha, hb, hc⟩
 have HM : Hid (Sz ((a + b) * half2) 1000) := ((ha.add hb).mul sz_half2).mono (by decide)
 clear hx hy ha hb hc hT0
 go_enter Tryz.func23, Tryz.ntmps23
 go_upto_region 5 with (first
  | (go_at_call 15; rw [← hW]; refine (scheck_good n1 n2 o1 p1 o2 p2 l1 c1 m1 k1 l2 c2 m2 k2 a b _ HX.out.1 HX.out.2.1 (HC.out.1.mono (by decide)) (HC.out.2.1.mono (by decide)) HC.out.2.2 HX.out.2.2).mono ?_; rintro e w1 ⟨rfl, hb1⟩; have ub := hA.later hb1 (by omega); have u0 := ub.1 0 _ rfl; have u1 := ub.1 1 _ rfl; have u2 := ub.1 2 _ rfl; have u3 := ub.1 3 _ rfl; have u4 := ub.1 4 _ rfl; have u5 := ub.1 5 _ rfl; clear ub)
  | (go_at_call 54; refine (mid_rat n1 n2 o1 p1 o2 p2 l1 c1 m1 k1 l2 c2 m2 k2 a b _ (HX.out.1.later hb1) (HX.out.2.1.later hb1) HC.out.1 HC.out.2.1 (tab_later HX.out.2.2 hb1)).mono ?_; rintro e y ⟨n3, o3, l3, c3, p3, m3, k3, rfl, hs, ho, hp, _, hb⟩; have H3 : Hid (RatAt y n3 o3 l3 c3 p3 m3 k3 ((a + b) * half2) ∧ Below W.heap.size W y) := ⟨⟨ho.int hs, hp.row⟩, bnext hb1 hb⟩; clear hs ho hp hb hb1 u0 u1 u2 u3 u4 u5))
 clear hW
 obtain ⟨r6, hr6⟩ : ∃ r, r = y.heap.size := ⟨_, rfl⟩
 have hst : Below y.heap.size y (y.alloc (.cells #[.bool n3, .slice o3 l3 c3, .slice p3 m3 k3] 28)) := (Below.refl _ _).alloc (Nat.le_refl _) _
 have HY : Hid (Below W.heap.size W (y.alloc (.cells #[.bool n3, .slice o3 l3 c3, .slice p3 m3 k3] 28)) ∧ Bx (y.alloc (.cells #[.bool n3, .slice o3 l3 c3, .slice p3 m3 k3] 28)) r6 [.bool n3, .slice o3 l3 c3, .slice p3 m3 k3] ∧ RatAt (y.alloc (.cells #[.bool n3, .slice o3 l3 c3, .slice p3 m3 k3] 28)) n3 o3 l3 c3 p3 m3 k3 ((a + b) * half2) ∧ W.heap.size ≤ r6) := ⟨bnext H3.out.2 hst, (by rw [hr6]; exact Bx.new _ _ _), H3.out.1.later hst, (by rw [hr6]; exact H3.out.2.size)⟩
 rw [← hr6]
 clear H3 hst hr6
 generalize y.alloc (.cells #[.bool n3, .slice o3 l3 c3, .slice p3 m3 k3] 28) = Y at *
 have hzY := HY.out.1.size
 have hz6 := HY.out.2.2.2
 have hlt6 := HY.out.2.1.lt
 have KY : Hid (∀ w' : World, Below Y.heap.size Y w' → w'.cell? ⟨w.heap.size, 0, none⟩ = some (.bool n1) ∧ w'.cell? ⟨w.heap.size, 1, none⟩ = some (.slice o1 l1 c1) ∧ w'.cell? ⟨w.heap.size, 2, none⟩ = some (.slice p1 m1 k1) ∧ w'.cell? ⟨w.heap.size, 3, none⟩ = some (.bool n2) ∧ w'.cell? ⟨w.heap.size, 4, none⟩ = some (.slice o2 l2 c2) ∧ w'.cell? ⟨w.heap.size, 5, none⟩ = some (.slice p2 m2 k2) ∧ w'.cell? ⟨r6, 0, none⟩ = some (.bool n3) ∧ w'.cell? ⟨r6, 1, none⟩ = some (.slice o3 l3 c3) ∧ w'.cell? ⟨r6, 2, none⟩ = some (.slice p3 m3 k3)) := fun w' h => ⟨((hA.later HY.out.1 (by omega)).later h (by omega)).1 0 _ rfl, ((hA.later HY.out.1 (by omega)).later h (by omega)).1 1 _ rfl, ((hA.later HY.out.1 (by omega)).later h (by omega)).1 2 _ rfl, ((hA.later HY.out.1 (by omega)).later h (by omega)).1 3 _ rfl, ((hA.later HY.out.1 (by omega)).later h (by omega)).1 4 _ rfl, ((hA.later HY.out.1 (by omega)).later h (by omega)).1 5 _ rfl, ((HY.out.2.1).later h (by omega)).1 0 _ rfl, ((HY.out.2.1).later h (by omega)).1 1 _ rfl, ((HY.out.2.1).later h (by omega)).1 2 _ rfl⟩
 have KR : Hid (∀ X : World, Below Y.heap.size Y X → ∀ vs, (fun w' : World => w'.cell? ⟨w.heap.size, 0, none⟩ = some (.bool n1) ∧ w'.cell? ⟨w.heap.size, 1, none⟩ = some (.slice o1 l1 c1) ∧ w'.cell? ⟨w.heap.size, 2, none⟩ = some (.slice p1 m1 k1) ∧ w'.cell? ⟨w.heap.size, 3, none⟩ = some (.bool n2) ∧ w'.cell? ⟨w.heap.size, 4, none⟩ = some (.slice o2 l2 c2) ∧ w'.cell? ⟨w.heap.size, 5, none⟩ = some (.slice p2 m2 k2) ∧ w'.cell? ⟨r6, 0, none⟩ = some (.bool n3) ∧ w'.cell? ⟨r6, 1, none⟩ = some (.slice o3 l3 c3) ∧ w'.cell? ⟨r6, 2, none⟩ = some (.slice p3 m3 k3)) (putl X (w.heap.size + 1) 0 vs)) := fun X h vs => by
  obtain ⟨h0, h1, h2, h3, h4, h5, h6, h7, h8⟩ := KY.out X h
  exact ⟨(putl_off (by omega) vs 0 X).trans h0, (putl_off (by omega) vs 0 X).trans h1, (putl_off (by omega) vs 0 X).trans h2, (putl_off (by omega) vs 0 X).trans h3, (putl_off (by omega) vs 0 X).trans h4, (putl_off (by omega) vs 0 X).trans h5, (putl_off (by omega) vs 0 X).trans h6, (putl_off (by omega) vs 0 X).trans h7, (putl_off (by omega) vs 0 X).trans h8⟩
 have KQ : Hid (∀ X : World, Below Y.heap.size Y X → ∀ vs us, (fun w' : World => w'.cell? ⟨w.heap.size, 0, none⟩ = some (.bool n1) ∧ w'.cell? ⟨w.heap.size, 1, none⟩ = some (.slice o1 l1 c1) ∧ w'.cell? ⟨w.heap.size, 2, none⟩ = some (.slice p1 m1 k1) ∧ w'.cell? ⟨w.heap.size, 3, none⟩ = some (.bool n2) ∧ w'.cell? ⟨w.heap.size, 4, none⟩ = some (.slice o2 l2 c2) ∧ w'.cell? ⟨w.heap.size, 5, none⟩ = some (.slice p2 m2 k2) ∧ w'.cell? ⟨r6, 0, none⟩ = some (.bool n3) ∧ w'.cell? ⟨r6, 1, none⟩ = some (.slice o3 l3 c3) ∧ w'.cell? ⟨r6, 2, none⟩ = some (.slice p3 m3 k3)) (putl (putl X (w.heap.size + 1) 0 vs) (w.heap.size + 1 + 1) 0 us)) := fun X h vs us => by
  obtain ⟨h0, h1, h2, h3, h4, h5, h6, h7, h8⟩ := KR.out X h vs
  exact ⟨(putl_off (by omega) us 0 _).trans h0, (putl_off (by omega) us 0 _).trans h1, (putl_off (by omega) us 0 _).trans h2, (putl_off (by omega) us 0 _).trans h3, (putl_off (by omega) us 0 _).trans h4, (putl_off (by omega) us 0 _).trans h5, (putl_off (by omega) us 0 _).trans h6, (putl_off (by omega) us 0 _).trans h7, (putl_off (by omega) us 0 _).trans h8⟩
 refine wp_region_noPanic ?_
 refine wp_region_held_drew (S := fun w' => (w'.cell? ⟨w.heap.size, 0, none⟩ = some (.bool n1) ∧ w'.cell? ⟨w.heap.size, 1, none⟩ = some (.slice o1 l1 c1) ∧ w'.cell? ⟨w.heap.size, 2, none⟩ = some (.slice p1 m1 k1) ∧ w'.cell? ⟨w.heap.size, 3, none⟩ = some (.bool n2) ∧ w'.cell? ⟨w.heap.size, 4, none⟩ = some (.slice o2 l2 c2) ∧ w'.cell? ⟨w.heap.size, 5, none⟩ = some (.slice p2 m2 k2) ∧ w'.cell? ⟨r6, 0, none⟩ = some (.bool n3) ∧ w'.cell? ⟨r6, 1, none⟩ = some (.slice o3 l3 c3) ∧ w'.cell? ⟨r6, 2, none⟩ = some (.slice p3 m3 k3))) (by kernel_rfl) (by (try dsimp only); exact KY.out _ (Below.refl _ _).drew) (fun hHeld => ?_)
 refine wpAnyH_take (i := 0) (oi := Oper.mk (some 19) _ _ _ _ _) (v := ?_) rfl (by kernel_rfl) (by kernel_rfl) (by kernel_rfl) (fun _ _ _ h => h) (Or.inl ⟨by rfl, ?_⟩) (by assumption) ?_
 rotate_left
 ·
  (intro w hSw; (try dsimp only at hSw); go_simp <;> (try with_reducible rfl))
 (try simp only [Act.put, List.setIfInBounds_toArray, List.set_cons_zero, List.set_cons_succ])
 refine wpAnyH_take (i := 1) (oi := Oper.mk (some 20) _ _ _ _ _) (v := ?_) rfl (by kernel_rfl) (by kernel_rfl) (by kernel_rfl) (fun _ _ _ h => h) (Or.inl ⟨by rfl, ?_⟩) (by assumption) ?_
 rotate_left
 ·
  (intro w hSw; (try dsimp only at hSw); go_simp <;> (try with_reducible rfl))
 (try simp only [Act.put, List.setIfInBounds_toArray, List.set_cons_zero, List.set_cons_succ])
 refine wpAnyH_take (i := 2) (oi := Oper.mk (some 21) _ _ _ _ _) (v := ?_) rfl (by kernel_rfl) (by kernel_rfl) (by kernel_rfl) (fun _ _ _ h => h) (Or.inl ⟨by rfl, ?_⟩) (by assumption) ?_
 rotate_left
 ·
  (intro w hSw; (try dsimp only at hSw); go_simp <;> (try with_reducible rfl))
 (try simp only [Act.put, List.setIfInBounds_toArray, List.set_cons_zero, List.set_cons_succ])
 refine wpAnyH_take (i := 4) (oi := Oper.mk (some 23) _ _ _ _ _) (v := ?_) rfl (by kernel_rfl) (by kernel_rfl) (by kernel_rfl) (fun _ _ _ h => h) (Or.inl ⟨by rfl, ?_⟩) (by assumption) ?_
 rotate_left
 ·
  (intro w hSw; (try dsimp only at hSw); go_simp <;> (try with_reducible rfl))
 (try simp only [Act.put, List.setIfInBounds_toArray, List.set_cons_zero, List.set_cons_succ])
 refine wpAnyH_take (i := 5) (oi := Oper.mk (some 24) _ _ _ _ _) (v := ?_) rfl (by kernel_rfl) (by kernel_rfl) (by kernel_rfl) (fun _ _ _ h => h) (Or.inl ⟨by rfl, ?_⟩) (by assumption) ?_
 rotate_left
 ·
  (intro w hSw; (try dsimp only at hSw); go_simp <;> (try with_reducible rfl))
 (try simp only [Act.put, List.setIfInBounds_toArray, List.set_cons_zero, List.set_cons_succ])
 refine wpAnyH_take (i := 6) (oi := Oper.mk (some 25) _ _ _ _ _) (v := ?_) rfl (by kernel_rfl) (by kernel_rfl) (by kernel_rfl) (fun _ _ _ h => h) (Or.inl ⟨by rfl, ?_⟩) (by assumption) ?_
 rotate_left
 ·
  (intro w hSw; (try dsimp only at hSw); go_simp <;> (try with_reducible rfl))
 (try simp only [Act.put, List.setIfInBounds_toArray, List.set_cons_zero, List.set_cons_succ])
 refine wpAnyH_ready (rs := [3]) (by kernel_rfl) (by simp) ?_
 refine AllReadyH.cons (o := Oper.mk (some 22) _ _ _ _ _) rfl (fun K hK => ?_) AllReadyH.nil
 go_simp
 (go_at_call 53; refine (sbetween_any n1 n3 o1 p1 o3 p3 l1 c1 m1 k1 l3 c3 m3 k3 a ((a + b) * half2) _ (HX.out.1.later (bnext HY.out.1 (Below.refl _ _).drew)) (HY.out.2.2.1.later (Below.refl _ _).drew) (HC.out.1.mono (by decide)) (HM.out.mono (by decide))).mono ?_; rintro e f1 ⟨n5, o5, l5, c5, p5, m5, k5, n6, o6, l6, c6, p6, m6, k6, rfl, hn⟩; have hb := hn.2.2.2; have H1 : Hid (NewSp Y f1 n5 n6 o5 p5 o6 p6 l5 c5 m5 k5 l6 c6 m6 k6 a ((a + b) * half2)) := ⟨hn.1, hn.2.1, hn.2.2.1, bnext (Below.refl _ _).drew hb⟩; clear hn; have hbF1 : Below Y.heap.size Y f1 := bnext (Below.refl _ _).drew hb; clear hb)
 (try go_wp2_with fail)
 clear hHeld
 refine hK.out _ _ (by (try dsimp only); first | exact KY.out _ (Below.refl _ _).drew | exact KY.out _ (by assumption)) (fun hHeld => ?_)
 clear hK K
 (try simp only [Act.put, List.setIfInBounds_toArray, List.set_cons_zero, List.set_cons_succ])
 refine wpAnyH_ready (rs := [7]) (by kernel_rfl) (by simp) ?_
 refine AllReadyH.cons (o := Oper.mk (some 26) _ _ _ _ _) rfl (fun K hK => ?_) AllReadyH.nil
 go_simp
 (go_at_call 53; refine (sbetween_any n3 n2 o3 p3 o2 p2 l3 c3 m3 k3 l2 c2 m2 k2 ((a + b) * half2) b _ (HY.out.2.2.1.later hbF1) (HX.out.2.1.later (bnext HY.out.1 hbF1)) (HM.out.mono (by decide)) (HC.out.2.1.mono (by decide))).mono ?_; rintro e f2 ⟨n7, o7, l7, c7, p7, m7, k7, n8, o8, l8, c8, p8, m8, k8, rfl, hn⟩; have hb := hn.2.2.2; have H2 : Hid (NewSp f1 f2 n7 n8 o7 p7 o8 p8 l7 c7 m7 k7 l8 c8 m8 k8 ((a + b) * half2) b) := hn; clear hn; have hbF2 : Below Y.heap.size Y f2 := bnext hbF1 hb; clear hb)
 (try go_wp2_with fail)
 clear hHeld
 refine hK.out _ _ (by (try dsimp only); first | exact KY.out _ (Below.refl _ _).drew | exact KY.out _ (by assumption)) (fun hHeld => ?_)
 clear hK K
 (try simp only [Act.put, List.setIfInBounds_toArray, List.set_cons_zero, List.set_cons_succ])
 have hbW2 := bnext HY.out.1 hbF2
 have hF := hR.later hbW2 (by omega); have g6 := hF.2; have g0 := hF.1 0 _ rfl; have g1 := hF.1 1 _ rfl; have g2 := hF.1 2 _ rfl; have g3 := hF.1 3 _ rfl; have g4 := hF.1 4 _ rfl; have g5 := hF.1 5 _ rfl; clear hF
 have hF := hQ.later hbW2 (by omega); have k9 := hF.2; have q0 := hF.1 0 _ rfl; have q1 := hF.1 1 _ rfl; have q2 := hF.1 2 _ rfl; have q3 := hF.1 3 _ rfl; have q4 := hF.1 4 _ rfl; have q5 := hF.1 5 _ rfl; clear hF
 refine wpAnyH_ready (rs := [8]) (by kernel_rfl) (by simp) ?_
 refine AllReadyH.cons (o := Oper.mk none _ _ _ _ _) rfl (fun K hK => ?_) AllReadyH.nil
 go_simp
 clear hHeld
 refine hK.out _ _ (by (try dsimp only); exact KR.out _ hbF2 [.bool n5, .slice o5 l5 c5, .slice p5 m5 k5, .bool n6, .slice o6 l6 c6, .slice p6 m6 k6]) (fun hHeld => ?_)
 clear hK K
 (try simp only [Act.put, List.setIfInBounds_toArray, List.set_cons_zero, List.set_cons_succ])
 refine wpAnyH_ready (rs := [9]) (by kernel_rfl) (by simp) ?_
 refine AllReadyH.cons (o := Oper.mk none _ _ _ _ _) rfl (fun K hK => ?_) AllReadyH.nil
 go_simp
 clear hHeld
 refine hK.out _ _ (by (try dsimp only); exact KQ.out _ hbF2 [.bool n5, .slice o5 l5 c5, .slice p5 m5 k5, .bool n6, .slice o6 l6 c6, .slice p6 m6 k6] [.bool n7, .slice o7 l7 c7, .slice p7 m7 k7, .bool n8, .slice o8 l8 c8, .slice p8 m8 k8]) (fun hHeld => ?_)
 clear hK K
 (try simp only [Act.put, List.setIfInBounds_toArray, List.set_cons_zero, List.set_cons_succ])
 refine wpAnyH_take (i := 10) (oi := Oper.mk (some 4) _ _ _ _ _) (v := ?_) rfl (by kernel_rfl) (by kernel_rfl) (by kernel_rfl) (fun _ _ _ h => h) (Or.inl ⟨by rfl, ?_⟩) (by assumption) ?_
 rotate_left
 ·
  (intro w hSw; (try dsimp only at hSw); go_simp <;> (try with_reducible rfl))
 (try simp only [Act.put, List.setIfInBounds_toArray, List.set_cons_zero, List.set_cons_succ])
 refine wpAnyH_done (by kernel_rfl) ?_ _
 refine NoPanic.normal ?_
 go_wp2
 have hz1 := hbF1.size
 have h21 := H2.out.2.2.2
 have N1 : Hid (NewSp W f2 n5 n6 o5 p5 o6 p6 l5 c5 m5 k5 l6 c6 m6 k6 a ((a + b) * half2)) := ⟨⟨H1.out.1.1, (H1.out.1.2.1.later h21).mono (by omega), (H1.out.1.2.2.1.later h21).mono (by omega), H1.out.1.2.2.2⟩, ⟨H1.out.2.1.1, (H1.out.2.1.2.1.later h21).mono (by omega), (H1.out.2.1.2.2.1.later h21).mono (by omega), H1.out.2.1.2.2.2⟩, H1.out.2.2.1, hbW2⟩
 have N2 : Hid (NewSp W f2 n7 n8 o7 p7 o8 p8 l7 c7 m7 k7 l8 c8 m8 k8 ((a + b) * half2) b) := ⟨⟨H2.out.1.1, H2.out.1.2.1.mono (by omega), H2.out.1.2.2.1.mono (by omega), H2.out.1.2.2.2⟩, ⟨H2.out.2.1.1, H2.out.2.1.2.1.mono (by omega), H2.out.2.1.2.2.1.mono (by omega), H2.out.2.1.2.2.2⟩, H2.out.2.2.1, hbW2⟩
 exact bodyPost_ret (v := .tuple #[.agg #[.bool n5, .slice o5 l5 c5, .slice p5 m5 k5, .bool n6, .slice o6 l6 c6, .slice p6 m6 k6], .agg #[.bool n7, .slice o7 l7 c7, .slice p7 m7 k7, .bool n8, .slice o8 l8 c8, .slice p8 m8 k8], .int .i64 0]) (by simp [results, Tryz.results23, go_sem, g0, g1, g2, g3, g4, g5, q0, q1, q2, q3, q4, q5]) rfl
  ⟨_, _, _, _, _, _, _, _, _, _, _, _, _, _, _, _, _, _, _, _, _, _, _, _, _, _, _, _, rfl, (⟨⟨N1.out.1.1, (putl_own (r := w.heap.size + 1 + 1) (by omega) [.bool n7, .slice o7 l7 c7, .slice p7 m7 k7, .bool n8, .slice o8 l8 c8, .slice p8 m8 k8] 0 _ (putl_own (r := w.heap.size + 1) (by omega) [.bool n5, .slice o5 l5 c5, .slice p5 m5 k5, .bool n6, .slice o6 l6 c6, .slice p6 m6 k6] 0 _ N1.out.1.2.1)).mono (by omega), (putl_own (r := w.heap.size + 1 + 1) (by omega) [.bool n7, .slice o7 l7 c7, .slice p7 m7 k7, .bool n8, .slice o8 l8 c8, .slice p8 m8 k8] 0 _ (putl_own (r := w.heap.size + 1) (by omega) [.bool n5, .slice o5 l5 c5, .slice p5 m5 k5, .bool n6, .slice o6 l6 c6, .slice p6 m6 k6] 0 _ N1.out.1.2.2.1)).mono (by omega), N1.out.1.2.2.2⟩, ⟨N1.out.2.1.1, (putl_own (r := w.heap.size + 1 + 1) (by omega) [.bool n7, .slice o7 l7 c7, .slice p7 m7 k7, .bool n8, .slice o8 l8 c8, .slice p8 m8 k8] 0 _ (putl_own (r := w.heap.size + 1) (by omega) [.bool n5, .slice o5 l5 c5, .slice p5 m5 k5, .bool n6, .slice o6 l6 c6, .slice p6 m6 k6] 0 _ N1.out.2.1.2.1)).mono (by omega), (putl_own (r := w.heap.size + 1 + 1) (by omega) [.bool n7, .slice o7 l7 c7, .slice p7 m7 k7, .bool n8, .slice o8 l8 c8, .slice p8 m8 k8] 0 _ (putl_own (r := w.heap.size + 1) (by omega) [.bool n5, .slice o5 l5 c5, .slice p5 m5 k5, .bool n6, .slice o6 l6 c6, .slice p6 m6 k6] 0 _ N1.out.2.1.2.2.1)).mono (by omega), N1.out.2.1.2.2.2⟩, N1.out.2.2.1, putl_below (r := w.heap.size + 1 + 1) (by omega) [.bool n7, .slice o7 l7 c7, .slice p7 m7 k7, .bool n8, .slice o8 l8 c8, .slice p8 m8 k8] 0 _ (putl_below (r := w.heap.size + 1) (by omega) [.bool n5, .slice o5 l5 c5, .slice p5 m5 k5, .bool n6, .slice o6 l6 c6, .slice p6 m6 k6] 0 _ (bnext hbW hbW2))⟩), (⟨⟨N2.out.1.1, (putl_own (r := w.heap.size + 1 + 1) (by omega) [.bool n7, .slice o7 l7 c7, .slice p7 m7 k7, .bool n8, .slice o8 l8 c8, .slice p8 m8 k8] 0 _ (putl_own (r := w.heap.size + 1) (by omega) [.bool n5, .slice o5 l5 c5, .slice p5 m5 k5, .bool n6, .slice o6 l6 c6, .slice p6 m6 k6] 0 _ N2.out.1.2.1)).mono (by omega), (putl_own (r := w.heap.size + 1 + 1) (by omega) [.bool n7, .slice o7 l7 c7, .slice p7 m7 k7, .bool n8, .slice o8 l8 c8, .slice p8 m8 k8] 0 _ (putl_own (r := w.heap.size + 1) (by omega) [.bool n5, .slice o5 l5 c5, .slice p5 m5 k5, .bool n6, .slice o6 l6 c6, .slice p6 m6 k6] 0 _ N2.out.1.2.2.1)).mono (by omega), N2.out.1.2.2.2⟩, ⟨N2.out.2.1.1, (putl_own (r := w.heap.size + 1 + 1) (by omega) [.bool n7, .slice o7 l7 c7, .slice p7 m7 k7, .bool n8, .slice o8 l8 c8, .slice p8 m8 k8] 0 _ (putl_own (r := w.heap.size + 1) (by omega) [.bool n5, .slice o5 l5 c5, .slice p5 m5 k5, .bool n6, .slice o6 l6 c6, .slice p6 m6 k6] 0 _ N2.out.2.1.2.1)).mono (by omega), (putl_own (r := w.heap.size + 1 + 1) (by omega) [.bool n7, .slice o7 l7 c7, .slice p7 m7 k7, .bool n8, .slice o8 l8 c8, .slice p8 m8 k8] 0 _ (putl_own (r := w.heap.size + 1) (by omega) [.bool n5, .slice o5 l5 c5, .slice p5 m5 k5, .bool n6, .slice o6 l6 c6, .slice p6 m6 k6] 0 _ N2.out.2.1.2.2.1)).mono (by omega), N2.out.2.1.2.2.2⟩, N2.out.2.2.1, putl_below (r := w.heap.size + 1 + 1) (by omega) [.bool n7, .slice o7 l7 c7, .slice p7 m7 k7, .bool n8, .slice o8 l8 c8, .slice p8 m8 k8] 0 _ (putl_below (r := w.heap.size + 1) (by omega) [.bool n5, .slice o5 l5 c5, .slice p5 m5 k5, .bool n6, .slice o6 l6 c6, .slice p6 m6 k6] 0 _ (bnext hbW hbW2))⟩)⟩
theorem stimes_any (n1 n2 : Bool) (o1 p1 o2 p2 : Option Addr) (l1 c1 m1 k1 l2 c2 m2 k2 : Nat) (a b : Rat) (w : World) (hx : RatAt w n1 o1 l1 c1 p1 m1 k1 a) (hy : RatAt w n2 o2 l2 c2 p2 m2 k2 b) (ha : Sz a 1000) (hb : Sz b 1000) (hT0 : TabAt 0 Lib.deBruijn64tab w) :
  Calls Tryz.prog 48 #[.agg #[.bool n1, .slice o1 l1 c1, .slice p1 m1 k1], .agg #[.bool n2, .slice o2 l2 c2, .slice p2 m2 k2]] w fun e w' => SomeR w w' e (a * b) := by
 obtain ⟨W, hW, hsz, hbW, hA, hB, hR⟩ := enter3 w [.bool n1, .slice o1 l1 c1, .slice p1 m1 k1] [.bool n2, .slice o2 l2 c2, .slice p2 m2 k2] [.bool false, .slice none 0 0, .slice none 0 0] 28 28 28
 have HX : Hid (RatAt W n1 o1 l1 c1 p1 m1 k1 a ∧ RatAt W n2 o2 l2 c2 p2 m2 k2 b ∧ TabAt 0 Lib.deBruijn64tab W) := ⟨hx.later hbW, hy.later hbW, tab_later hT0 hbW⟩
 have HC : Hid (Sz a 1000 ∧ Sz b 1000) := ⟨ha, hb⟩
 clear hx hy ha hb hT0
 go_enter Tryz.func48, Tryz.ntmps48
 go_upto_region 2 with (go_at_call 86; rw [← hW]; refine (mul_rat n1 n2 o1 p1 o2 p2 l1 c1 m1 k1 l2 c2 m2 k2 a b _ HX.out.1 HX.out.2.1 HC.out.1 HC.out.2 HX.out.2.2).mono ?_; rintro e y ⟨n3, o3, l3, c3, p3, m3, k3, rfl, hs, ho, hp, _, hb⟩; have H3 : Hid (RatAt y n3 o3 l3 c3 p3 m3 k3 (a * b) ∧ Below W.heap.size W y) := ⟨⟨ho.int hs, hp.row⟩, hb⟩; clear hs ho hp hb)
 clear hW
 obtain ⟨r6, hr6⟩ : ∃ r, r = y.heap.size := ⟨_, rfl⟩
 have hst : Below y.heap.size y (y.alloc (.cells #[.bool n3, .slice o3 l3 c3, .slice p3 m3 k3] 28)) := (Below.refl _ _).alloc (Nat.le_refl _) _
 have HY : Hid (Below W.heap.size W (y.alloc (.cells #[.bool n3, .slice o3 l3 c3, .slice p3 m3 k3] 28)) ∧ Bx (y.alloc (.cells #[.bool n3, .slice o3 l3 c3, .slice p3 m3 k3] 28)) r6 [.bool n3, .slice o3 l3 c3, .slice p3 m3 k3] ∧ RatAt (y.alloc (.cells #[.bool n3, .slice o3 l3 c3, .slice p3 m3 k3] 28)) n3 o3 l3 c3 p3 m3 k3 (a * b)) := ⟨bnext H3.out.2 hst, (by rw [hr6]; exact Bx.new _ _ _), H3.out.1.later hst⟩
 rw [← hr6]
 clear H3 hst hr6
 generalize y.alloc (.cells #[.bool n3, .slice o3 l3 c3, .slice p3 m3 k3] 28) = Y at *
 have e0 := HY.out.2.1.1 0 _ rfl; have e1 := HY.out.2.1.1 1 _ rfl; have e2 := HY.out.2.1.1 2 _ rfl
 have hF := hR.later HY.out.1 (by omega); have g5 := hF.2; have g2 := hF.1 0 _ rfl; have g3 := hF.1 1 _ rfl; have g4 := hF.1 2 _ rfl; clear hF
 go_wp2
 exact bodyPost_ret (v := .agg #[.bool n3, .slice o3 l3 c3, .slice p3 m3 k3]) (by simp [results, Tryz.results48, go_sem, g2, g3, g4]) rfl
  ⟨_, _, _, _, _, _, _, rfl, rat_kept HY.out.2.2 ⟨g2, g3, g4⟩, below_store3 (bnext hbW HY.out.1) (by omega) _ _ _⟩
end Go.Proofs.YtbkaiifplahhpaaGreatDoor
