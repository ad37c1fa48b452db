/-
  A pack of walks and facts: VB, JK, JL, VC.
-/
import Derived.Test.YtchmdfjmleoajaaGreatPG13
import Derived.Test.YtchmdfjmleoajaaGreatPG14
import Derived.Test.YtchmdfjmleoajaaGreatPG15
set_option maxRecDepth 100000
set_option maxHeartbeats 40000000
set_option linter.unusedVariables false
set_option linter.unusedSimpArgs false
namespace Go.Proofs.YtchmdfjmleoajaaGreat
open Go.RowKit
theorem sz_int {v : Int} {k : Nat} (h : lim v ≤ k) (hk : 1 ≤ k) : Sz ((v : Int) : Rat) k := ⟨by rw [Rat.num_intCast]; exact h, by rw [Rat.den_intCast]; exact Nat.le_trans (by decide) hk⟩
theorem rat_int {w : World} {n : Bool} {ao bo : Option Addr} {l c lb cb : Nat} {v : Int} (h : IntAt w n ao l c v) (hd : RowAt w .u64 bo lb cb (mag 1)) : RatAt w n ao l c bo lb cb ((v : Int) : Rat) := ⟨by rw [Rat.num_intCast]; exact h, by rw [Rat.den_intCast]; exact hd⟩
theorem RatAt.put3 {w : World} {n nx : Bool} {ao bo ox px : Option Addr} {l c lb cb lx cx mx kx r : Nat} {v : Rat} (h : RatAt w n ao l c bo lb cb v) (hx : w.cell? ⟨r, 0, none⟩ = some (.bool nx) ∧ w.cell? ⟨r, 1, none⟩ = some (.slice ox lx cx) ∧ w.cell? ⟨r, 2, none⟩ = some (.slice px mx kx)) (x y z : Value) : RatAt (((w.setCell ⟨r, 0, none⟩ x).setCell ⟨r, 1, none⟩ y).setCell ⟨r, 2, none⟩ z) n ao l c bo lb cb v := by
 obtain ⟨h0, h1, h2⟩ := hx
 have e1 : (w.setCell ⟨r, 0, none⟩ x).cell? ⟨r, 1, none⟩ = some (.slice ox lx cx) := by simp [go_sem, h0, h1, h2]
 have e2 : ((w.setCell ⟨r, 0, none⟩ x).setCell ⟨r, 1, none⟩ y).cell? ⟨r, 2, none⟩ = some (.slice px mx kx) := by simp [go_sem, h0, h1, h2]
 have keep : ∀ {zs : List Int} {ao : Option Addr} {l c : Nat}, RowAt w .u64 ao l c zs → RowAt (((w.setCell ⟨r, 0, none⟩ x).setCell ⟨r, 1, none⟩ y).setCell ⟨r, 2, none⟩ z) .u64 ao l c zs := fun h => ((h.cellKept h0 (fun z e => by cases e) _).cellKept e1 (fun z e => by cases e) _).cellKept e2 (fun z e => by cases e) _
 exact ⟨⟨h.num.sg, keep h.num.row⟩, keep h.den⟩
theorem ev_drop (p : List Int) (a : Int) (j : Nat) (h : j < p.length) : ev (p.drop j) a = dig p j + a * ev (p.drop (j + 1)) a := by
 rw [List.drop_eq_getElem_cons h]
 show p[j] + a * _ = _
 congr 1
 unfold dig; rw [List.getD_eq_getElem?_getD, List.getElem?_eq_getElem h]; rfl
theorem peval_int (ao : Option Addr) (len cap : Nat) (p : List Int) (na : Bool) (o1 o2 : Option Addr) (l1 c1 l2 c2 : Nat) (a : Int) (w : World) (hp : PolyAt w ao len cap p) (ha : RatAt w na o1 l1 c1 o2 l2 c2 ((a : Int) : Rat)) (hl : len ≤ 1000) (hla : lim a ≤ 400) (hlp : Lim 400 p) (hlv : ∀ i, lim (ev (p.drop i) a) ≤ 400) :
  Calls Tryz.prog 16 #[.slice ao len cap, .agg #[.bool na, .slice o1 l1 c1, .slice o2 l2 c2]] w fun e w' => SomeR w w' e ((ev p a : Int) : Rat) := by
 obtain ⟨W, hW⟩ : ∃ W, W = (w.alloc (.cells #[.bool na, .slice o1 l1 c1, .slice o2 l2 c2] 44)).alloc (.cells #[.bool false, .slice none 0 0, .slice none 0 0] 44) := ⟨_, rfl⟩
 have HW : Hid (Below w.heap.size w W ∧ W.heap.size = w.heap.size + 2 ∧ (W.cell? ⟨w.heap.size, 0, none⟩ = some (.bool na) ∧ W.cell? ⟨w.heap.size, 1, none⟩ = some (.slice o1 l1 c1) ∧ W.cell? ⟨w.heap.size, 2, none⟩ = some (.slice o2 l2 c2)) ∧ (∀ m, W.frozen? ⟨w.heap.size + 1, m, none⟩ = false) ∧ W.cell? ⟨w.heap.size + 1, 0, none⟩ = some (.bool false) ∧ W.cell? ⟨w.heap.size + 1, 1, none⟩ = some (.slice none 0 0) ∧ W.cell? ⟨w.heap.size + 1, 2, none⟩ = some (.slice none 0 0)) := by
  rw [hW]
  exact ⟨((Below.refl _ _).alloc (Nat.le_refl _) _).alloc (by simp) _, by simp, ⟨by simp [go_sem], by simp [go_sem], by simp [go_sem]⟩, fun m => by simp [go_sem], by simp [go_sem], by simp [go_sem], by simp [go_sem]⟩
 have HR : Hid (PolyAt W ao len cap p ∧ RatAt W na o1 l1 c1 o2 l2 c2 ((a : Int) : Rat) ∧ Lim 400 p ∧ (∀ i, lim (ev (p.drop i) a) ≤ 400) ∧ len = p.length ∧ lim a ≤ 400) := ⟨hp.later HW.out.1, ha.later HW.out.1, hlp, hlv, hp.hlen, hla⟩
 clear hp ha hlp hlv hla
 go_enter Tryz.func16, Tryz.ntmps16
 go_wp2_with (go_at_call 14; rw [← hW]; clear hW; refine (qint_any 0 _ (by decide) (by decide)).mono ?_; rintro e w1 ⟨n0, o0, l0, c0, p0, m0, k0, rfl, hr0, hb1⟩; have H0 : Hid (RatAt w1 n0 o0 l0 c0 p0 m0 k0 ((0 : Int) : Rat) ∧ Below W.heap.size W w1) := ⟨hr0, hb1⟩; clear hr0 hb1)
 obtain ⟨rx, hrx0⟩ : ∃ r, r = w1.heap.size := ⟨_, rfl⟩
 obtain ⟨Y, hY⟩ : ∃ Y, Y = w1.alloc (.cells #[.bool n0, .slice o0 l0 c0, .slice p0 m0 k0] 44) := ⟨_, rfl⟩
 rw [← hY, ← hrx0]
 have HY : Hid (Below W.heap.size W Y ∧ rx < Y.heap.size ∧ W.heap.size ≤ rx ∧ (Y.cell? ⟨rx, 0, none⟩ = some (.bool n0) ∧ Y.cell? ⟨rx, 1, none⟩ = some (.slice o0 l0 c0) ∧ Y.cell? ⟨rx, 2, none⟩ = some (.slice p0 m0 k0)) ∧ (∀ m, Y.frozen? ⟨rx, m, none⟩ = false) ∧ RatAt Y n0 o0 l0 c0 p0 m0 k0 ((0 : Int) : Rat)) := by
  rw [hY, hrx0]
  exact ⟨bnext H0.out.2 ((Below.refl _ _).alloc (Nat.le_refl _) _), by simp, H0.out.2.size, ⟨by simp [go_sem], by simp [go_sem], by simp [go_sem]⟩, fun m => by simp [go_sem], H0.out.1.later ((Below.refl _ _).alloc (Nat.le_refl _) _)⟩
 have HRX : Hid (W.heap.size ≤ rx) := HY.out.2.2.1
 clear hY hrx0 H0
 go_loopw [6] (fun i wr => ∃ k : Nat, k ≤ len ∧ i = .int .i64 ((k : Int) - 1) ∧ Below W.heap.size W wr ∧ rx < wr.heap.size ∧ ∃ nx ox lx cx px mx kx, (wr.cell? ⟨rx, 0, none⟩ = some (.bool nx) ∧ wr.cell? ⟨rx, 1, none⟩ = some (.slice ox lx cx) ∧ wr.cell? ⟨rx, 2, none⟩ = some (.slice px mx kx)) ∧ (∀ m, wr.frozen? ⟨rx, m, none⟩ = false) ∧ RatAt wr nx ox lx cx px mx kx ((ev (p.drop k) a : Int) : Rat)) (fun i _ => (intOf i + 1).toNat)
 case atStart => exact ⟨len, Nat.le_refl _, rfl, HY.out.1, HY.out.2.1, n0, o0, l0, c0, p0, m0, k0, HY.out.2.2.2.1, HY.out.2.2.2.2.1, by rw [HR.out.2.2.2.2.1, List.drop_length]; exact HY.out.2.2.2.2.2⟩
 case round =>
  obtain ⟨k, hk, rfl, hbel, hrx, nx, ox, lx, cx, px, mx, kx, ⟨q0, q1, q2⟩, hfz0, hxr⟩ := hrel
  have HS : Hid (Below W.heap.size W wr) := hbel
  have HXR : Hid (RatAt wr nx ox lx cx px mx kx ((ev (p.drop k) a : Int) : Rat)) := hxr
  clear hxr
  by_cases hk0 : k = 0
  ·
   subst hk0
   obtain ⟨s0, s1, s2⟩ : wr.cell? ⟨w.heap.size + 1, 0, none⟩ = some (.bool false) ∧ wr.cell? ⟨w.heap.size + 1, 1, none⟩ = some (.slice none 0 0) ∧ wr.cell? ⟨w.heap.size + 1, 2, none⟩ = some (.slice none 0 0) := ⟨(hbel.cell (p := ⟨w.heap.size + 1, 0, none⟩) (by show w.heap.size + 1 < _; have := HW.out.2.1; omega)).trans HW.out.2.2.2.2.1, (hbel.cell (p := ⟨w.heap.size + 1, 1, none⟩) (by show w.heap.size + 1 < _; have := HW.out.2.1; omega)).trans HW.out.2.2.2.2.2.1, (hbel.cell (p := ⟨w.heap.size + 1, 2, none⟩) (by show w.heap.size + 1 < _; have := HW.out.2.1; omega)).trans HW.out.2.2.2.2.2.2⟩
   have s3 : ∀ m, wr.frozen? ⟨w.heap.size + 1, m, none⟩ = false := fun m => (hbel.frozen (p := ⟨w.heap.size + 1, m, none⟩) (by show w.heap.size + 1 < _; have := HW.out.2.1; omega)).trans (HW.out.2.2.2.1 m)
   go_wp2
   exact bodyPost_ret (v := .agg #[.bool nx, .slice ox lx cx, .slice px mx kx]) (by simp [results, Tryz.results16, go_sem, s0, s1, s2]) rfl
    ⟨_, _, _, _, _, _, _, rfl, HXR.out.put3 ⟨s0, s1, s2⟩ _ _ _, (((bnext HW.out.1 HS.out).setCell (p := ⟨w.heap.size + 1, 0, none⟩) (by show _ ≤ w.heap.size + 1; omega) _).setCell (p := ⟨w.heap.size + 1, 1, none⟩) (by show _ ≤ w.heap.size + 1; omega) _).setCell (p := ⟨w.heap.size + 1, 2, none⟩) (by show _ ≤ w.heap.size + 1; omega) _⟩
  ·
   obtain ⟨j, rfl⟩ : ∃ j, k = j + 1 := ⟨k - 1, by omega⟩
   have hki : ((j + 1 : Nat) : Int) - 1 = (j : Int) := by omega
   rw [hki]
   have hjp : j < p.length := by rw [← HR.out.2.2.2.2.1]; omega
   obtain ⟨b, off, n3, o3, l3, c3, rfl, f0, f1, hi3⟩ := HR.out.1.at (show j < len by omega)
   have KS : Hid (∀ w', Below wr.heap.size wr w' → w'.cell? ⟨w.heap.size, 0, none⟩ = some (.bool na) ∧ w'.cell? ⟨w.heap.size, 1, none⟩ = some (.slice o1 l1 c1) ∧ w'.cell? ⟨w.heap.size, 2, none⟩ = some (.slice o2 l2 c2) ∧ w'.cell? ⟨b, off + j * 2, none⟩ = some (.bool n3) ∧ w'.cell? ⟨b, off + j * 2 + 1, none⟩ = some (.slice o3 l3 c3)) := fun w' hb => by
    have hbW := bnext HS.out hb
    exact ⟨(hbW.cell (p := ⟨w.heap.size, 0, none⟩) (by show w.heap.size < _; have := HW.out.2.1; omega)).trans HW.out.2.2.1.1, (hbW.cell (p := ⟨w.heap.size, 1, none⟩) (by show w.heap.size < _; have := HW.out.2.1; omega)).trans HW.out.2.2.1.2.1, (hbW.cell (p := ⟨w.heap.size, 2, none⟩) (by show w.heap.size < _; have := HW.out.2.1; omega)).trans HW.out.2.2.1.2.2, (hbW.cell (p := ⟨b, off + j * 2, none⟩) (cell_lt f0)).trans f0, (hbW.cell (p := ⟨b, off + j * 2 + 1, none⟩) (cell_lt f1)).trans f1⟩
   have HNE : Hid (w.heap.size ≠ rx ∧ b ≠ rx) := ⟨by have := HW.out.2.1; have := HRX.out; omega, by have := cell_lt f0; have := HRX.out; simp only at *; omega⟩
   have K2 : Hid (∀ (w' : World) (i : Nat) (x : Value), (w'.cell? ⟨w.heap.size, 0, none⟩ = some (.bool na) ∧ w'.cell? ⟨w.heap.size, 1, none⟩ = some (.slice o1 l1 c1) ∧ w'.cell? ⟨w.heap.size, 2, none⟩ = some (.slice o2 l2 c2) ∧ w'.cell? ⟨b, off + j * 2, none⟩ = some (.bool n3) ∧ w'.cell? ⟨b, off + j * 2 + 1, none⟩ = some (.slice o3 l3 c3)) → ((w'.setCell ⟨rx, i, none⟩ x).cell? ⟨w.heap.size, 0, none⟩ = some (.bool na) ∧ (w'.setCell ⟨rx, i, none⟩ x).cell? ⟨w.heap.size, 1, none⟩ = some (.slice o1 l1 c1) ∧ (w'.setCell ⟨rx, i, none⟩ x).cell? ⟨w.heap.size, 2, none⟩ = some (.slice o2 l2 c2) ∧ (w'.setCell ⟨rx, i, none⟩ x).cell? ⟨b, off + j * 2, none⟩ = some (.bool n3) ∧ (w'.setCell ⟨rx, i, none⟩ x).cell? ⟨b, off + j * 2 + 1, none⟩ = some (.slice o3 l3 c3))) := fun w' i x h => ⟨by rw [cell_off HNE.out.1]; exact h.1, by rw [cell_off HNE.out.1]; exact h.2.1, by rw [cell_off HNE.out.1]; exact h.2.2.1, by rw [cell_off HNE.out.2]; exact h.2.2.2.1, by rw [cell_off HNE.out.2]; exact h.2.2.2.2⟩
   have HX : Hid (∀ V, Below wr.heap.size wr V → V.cell? ⟨rx, 0, none⟩ = some (.bool nx) ∧ V.cell? ⟨rx, 1, none⟩ = some (.slice ox lx cx) ∧ V.cell? ⟨rx, 2, none⟩ = some (.slice px mx kx)) := fun V hb => ⟨(hb.cell (p := ⟨rx, 0, none⟩) hrx).trans q0, (hb.cell (p := ⟨rx, 1, none⟩) hrx).trans q1, (hb.cell (p := ⟨rx, 2, none⟩) hrx).trans q2⟩
   have HFZ : Hid (∀ m, wr.frozen? ⟨rx, m, none⟩ = false) := hfz0
   have HI : Hid (RatAt wr nx ox lx cx px mx kx ((ev (p.drop (j + 1)) a : Int) : Rat) ∧ RatAt wr na o1 l1 c1 o2 l2 c2 ((a : Int) : Rat) ∧ IntAt wr n3 o3 l3 c3 (dig p j)) := ⟨HXR.out, HR.out.2.1.later HS.out, hi3.later HS.out⟩
   have HSZ : Hid (Sz ((ev (p.drop (j + 1)) a : Int) : Rat) 1000 ∧ Sz ((a : Int) : Rat) 1000 ∧ Sz (((ev (p.drop (j + 1)) a : Int) : Rat) * ((a : Int) : Rat)) 1000 ∧ Sz ((dig p j : Int) : Rat) 1000) := ⟨(sz_int (HR.out.2.2.2.1 _) (by decide)).mono (by decide), (sz_int HR.out.2.2.2.2.2 (by decide)).mono (by decide), ((sz_int (HR.out.2.2.2.1 _) (by decide)).mul (sz_int HR.out.2.2.2.2.2 (by decide))).mono (by decide), (sz_int (HR.out.2.2.1 _) (by decide)).mono (by decide)⟩
   have HV : Hid (((ev (p.drop j) a : Int) : Rat) = ((ev (p.drop (j + 1)) a : Int) : Rat) * ((a : Int) : Rat) + ((dig p j : Int) : Rat)) := by
    show _ = _
    rw [ev_drop p a j hjp, Rat.intCast_add, Rat.intCast_mul, Rat.add_comm, Rat.mul_comm]
   have z1 : (0 : Int) ≤ (j : Int) := by omega
   have z2 : (j : Int) < (len : Int) := by omega
   clear hi3 f0 f1 hk0 hki hjp HXR hbel hfz0
   go_wp2
   refine wp_region_noPanic ?_
   refine wp_region_held_drew (S := fun w' => (w'.cell? ⟨w.heap.size, 0, none⟩ = some (.bool na) ∧ w'.cell? ⟨w.heap.size, 1, none⟩ = some (.slice o1 l1 c1) ∧ w'.cell? ⟨w.heap.size, 2, none⟩ = some (.slice o2 l2 c2) ∧ w'.cell? ⟨b, off + j * 2, none⟩ = some (.bool n3) ∧ w'.cell? ⟨b, off + j * 2 + 1, none⟩ = some (.slice o3 l3 c3))) (by kernel_rfl) (by (try dsimp only); exact KS.out _ (Below.refl _ _).drew) (fun hHeld => ?_)
   refine wpAnyH_take (i := 1) (oi := Oper.mk (some 16) _ _ _ _ _) (v := ?_) rfl (by decide +kernel) (by decide +kernel) (by decide +kernel) (fun _ _ _ h => h) (Or.inl ⟨by rfl, ?_⟩) (by assumption) ?_
   rotate_left
   ·
    (intro w hSw; (try dsimp only at hSw); go_simp <;> (try with_reducible rfl))
   (try simp only [Act.put, List.setIfInBounds_toArray, List.set_cons_zero, List.set_cons_succ])
   refine wpAnyH_take (i := 3) (oi := Oper.mk (some 18) _ _ _ _ _) (v := ?_) rfl (by decide +kernel) (by decide +kernel) (by decide +kernel) (fun _ _ _ h => h) (Or.inl ⟨by rfl, ?_⟩) (by assumption) ?_
   rotate_left
   ·
    (intro w hSw; (try dsimp only at hSw); go_simp <;> (try with_reducible rfl))
   (try simp only [Act.put, List.setIfInBounds_toArray, List.set_cons_zero, List.set_cons_succ])
   refine wpAnyH_take (i := 4) (oi := Oper.mk (some 19) _ _ _ _ _) (v := ?_) rfl (by decide +kernel) (by decide +kernel) (by decide +kernel) (fun _ _ _ h => h) (Or.inl ⟨by rfl, ?_⟩) (by assumption) ?_
   rotate_left
   ·
    (intro w hSw; (try dsimp only at hSw); go_simp <;> (try with_reducible rfl))
   (try simp only [Act.put, List.setIfInBounds_toArray, List.set_cons_zero, List.set_cons_succ])
   refine wpAnyH_take (i := 5) (oi := Oper.mk (some 20) _ _ _ _ _) (v := ?_) rfl (by decide +kernel) (by decide +kernel) (by decide +kernel) (fun _ _ _ h => h) (Or.inl ⟨by rfl, ?_⟩) (by assumption) ?_
   rotate_left
   ·
    (intro w hSw; (try dsimp only at hSw); go_simp <;> (try with_reducible rfl))
   (try simp only [Act.put, List.setIfInBounds_toArray, List.set_cons_zero, List.set_cons_succ])
   refine wpAnyH_take (i := 6) (oi := Oper.mk (some 21) _ _ _ _ _) (v := ?_) rfl (by decide +kernel) (by decide +kernel) (by decide +kernel) (fun _ _ _ h => h) (Or.inl ⟨by rfl, ?_⟩) (by assumption) ?_
   rotate_left
   ·
    (intro w hSw; (try dsimp only at hSw); go_simp <;> (try with_reducible rfl))
   (try simp only [Act.put, List.setIfInBounds_toArray, List.set_cons_zero, List.set_cons_succ])
   refine wpAnyH_ready (rs := [0]) (by decide +kernel) (by simp) ?_
   refine AllReadyH.cons (o := Oper.mk (some 15) _ _ _ _ _) rfl (fun K hK => ?_) AllReadyH.nil
   go_simp
   clear hHeld
   refine hK.out _ _ (by (try dsimp only); exact KS.out _ (Below.refl _ _).drew) (fun hHeld => ?_)
   clear hK K
   (try simp only [Act.put, List.setIfInBounds_toArray, List.set_cons_zero, List.set_cons_succ])
   refine wpAnyH_ready (rs := [2]) (by decide +kernel) (by simp) ?_
   refine AllReadyH.cons (o := Oper.mk (some 17) _ _ _ _ _) rfl (fun K hK => ?_) AllReadyH.nil
   go_simp
   (go_at_call 38; refine (qtimes_any nx na ox px o1 o2 lx cx mx kx l1 c1 l2 c2 _ _ _ (HI.out.1.later (Below.refl _ _).drew) (HI.out.2.1.later (Below.refl _ _).drew) HSZ.out.1 HSZ.out.2.1).mono ?_; rintro e w4 ⟨n4, o4, l4, c4, p4, m4, k4, rfl, hr4, hb'⟩; have hb4 : Below wr.heap.size wr w4 := bnext (Below.refl _ _).drew hb'; have H4 : Hid (RatAt w4 n4 o4 l4 c4 p4 m4 k4 (((ev (p.drop (j + 1)) a : Int) : Rat) * ((a : Int) : Rat))) := hr4; clear hr4 hb')
   (try go_wp2_with fail)
   clear hHeld
   refine hK.out _ _ (by (try dsimp only); exact KS.out _ hb4) (fun hHeld => ?_)
   clear hK K
   (try simp only [Act.put, List.setIfInBounds_toArray, List.set_cons_zero, List.set_cons_succ])
   refine wpAnyH_ready (rs := [7]) (by decide +kernel) (by simp) ?_
   refine AllReadyH.cons (o := Oper.mk (some 22) _ _ _ _ _) rfl (fun K hK => ?_) AllReadyH.nil
   go_simp
   (go_at_call 18; refine (qfrom_any n3 o3 l3 c3 (mag (dig p j).natAbs) _ (HI.out.2.2.later hb4).row).mono ?_; rintro e w5 ⟨p5, m5, k5, rfl, hr5, ho5, hb'⟩; have hb5 : Below wr.heap.size wr w5 := bnext hb4 hb'; have H5 : Hid (RatAt w5 n3 o3 l3 c3 p5 m5 k5 ((dig p j : Int) : Rat)) := rat_int ⟨HI.out.2.2.sg, hr5⟩ ho5.row; have HB45 : Hid (Below w4.heap.size w4 w5) := hb'; clear hr5 ho5 hb')
   (try go_wp2_with fail)
   clear hHeld
   refine hK.out _ _ (by (try dsimp only); exact KS.out _ hb5) (fun hHeld => ?_)
   clear hK K
   (try simp only [Act.put, List.setIfInBounds_toArray, List.set_cons_zero, List.set_cons_succ])
   refine wpAnyH_ready (rs := [8]) (by decide +kernel) (by simp) ?_
   refine AllReadyH.cons (o := Oper.mk (some 23) _ _ _ _ _) rfl (fun K hK => ?_) AllReadyH.nil
   go_simp
   (go_at_call 17; refine (qplus_any n4 n3 o4 p4 o3 p5 l4 c4 m4 k4 l3 c3 m5 k5 _ _ w5 (H4.out.later HB45.out) H5.out HSZ.out.2.2.1 HSZ.out.2.2.2).mono ?_; rintro e w6 ⟨n6, o6, l6, c6, p6, m6, k6, rfl, hr6, hb'⟩; have hb6 : Below wr.heap.size wr w6 := bnext hb5 hb'; have H6 : Hid (RatAt w6 n6 o6 l6 c6 p6 m6 k6 ((ev (p.drop j) a : Int) : Rat)) := (by rw [HV.out]; exact hr6); clear hr6 hb'; obtain ⟨r0, r1, r2⟩ := HX.out _ hb6; have hfz : ∀ m, w6.frozen? ⟨rx, m, none⟩ = false := fun m => (hb6.frozen (p := ⟨rx, m, none⟩) hrx).trans (HFZ.out m))
   (try go_wp2_with fail)
   clear hHeld
   refine hK.out _ _ (by (try dsimp only); exact KS.out _ hb6) (fun hHeld => ?_)
   clear hK K
   (try simp only [Act.put, List.setIfInBounds_toArray, List.set_cons_zero, List.set_cons_succ])
   refine wpAnyH_ready (rs := [9]) (by decide +kernel) (by simp) ?_
   refine AllReadyH.cons (o := Oper.mk none _ _ _ _ _) rfl (fun K hK => ?_) AllReadyH.nil
   go_simp
   clear hHeld
   refine hK.out _ _ (by (try dsimp only); exact K2.out _ _ _ (K2.out _ _ _ (K2.out _ _ _ (KS.out _ hb6)))) (fun hHeld => ?_)
   clear hK K
   (try simp only [Act.put, List.setIfInBounds_toArray, List.set_cons_zero, List.set_cons_succ])
   refine wpAnyH_done (by decide +kernel) ?_ _
   refine NoPanic.normal ?_
   go_wp2
   go_roundw
   case rel => exact ⟨j, by omega, by go_num, ((((bnext HS.out hb6).setCell (p := ⟨rx, 0, none⟩) HRX.out _).setCell (p := ⟨rx, 1, none⟩) HRX.out _).setCell (p := ⟨rx, 2, none⟩) HRX.out _), by (have := hb6.size; simp; omega), n6, o6, l6, c6, p6, m6, k6, ⟨by simp [go_sem, r0, r1, r2], by simp [go_sem, r0, r1, r2], by simp [go_sem, r0, r1, r2]⟩, fun m => by rw [soft_far, soft_far, soft_far]; exact hfz m, H6.out.put3 ⟨r0, r1, r2⟩ _ _ _⟩
   case measure => simp [intOf]
end Go.Proofs.YtchmdfjmleoajaaGreat
namespace Go.Proofs.YtchmdfjmleoajaaGreat
open Go.RowKit
theorem num6_any (n : Int) (w : World) : Calls Tryz.prog 12 #[.int .i64 n] w fun e w' => e = .returned (.int .i64 n) ∧ w' = w := by
 go_enter Tryz.func12, Tryz.ntmps12
 go_wp2
 go_ret
 exact ⟨rfl, rfl⟩
theorem eqpoly_same (ao bo : Option Addr) (la lb ca cb : Nat) (p : List Int) (w : World) (hx : PolyAt w ao la ca p) (hy : PolyAt w bo lb cb p) (hl : la ≤ 4611686018427387904) (hlim : Lim 4611686018427387904 p) :
  Calls Tryz.prog 13 #[.slice ao la ca, .slice bo lb cb] w fun e w' => e = .returned (.bool true) ∧ Below w.heap.size w w' := by
 obtain rfl : la = lb := by rw [hx.hlen, hy.hlen]
 have hcon := eqints_same ao bo la ca cb p w hx hy hl hlim
 clear hx hy hlim
 go_enter Tryz.func13, Tryz.ntmps13
 go_wp2_with (go_at_call 34; refine hcon.mono ?_; rintro e w1 ⟨rfl, hb1⟩)
 go_ret
 exact ⟨rfl, hb1⟩
theorem heavy6_any (po : Option Addr) (pl pc : Nat) (rs : List (Bool × List Int)) (nc : Bool) (co : Option Addr) (lc cc : Nat) (K : Int) (w : World) (hp : RawsAt w po pl pc rs) (hl : pl ≤ 9223372036854775807) (c : Bool) (hc : (heavyB 9 3 pl rs || decide (3 < (lc : Int))) = c) :
  Calls Tryz.prog 4 #[.agg #[.slice po pl pc, .bool nc, .slice co lc cc, .int .i64 K]] w fun e w' => e = .returned (.bool c) ∧ Below w.heap.size w w' := by
 obtain ⟨W, hW⟩ : ∃ W, W = w.alloc (.cells #[.slice po pl pc, .bool nc, .slice co lc cc, .int .i64 K] 30) := ⟨_, rfl⟩
 have HW : Hid (Below w.heap.size w W ∧ W.heap.size = w.heap.size + 1 ∧ W.cell? ⟨w.heap.size, 1, none⟩ = some (.bool nc) ∧ W.cell? ⟨w.heap.size, 2, none⟩ = some (.slice co lc cc)) := by
  rw [hW]; exact ⟨(Below.refl _ _).alloc (Nat.le_refl _) _, by simp, by simp [go_sem], by simp [go_sem]⟩
 have HP : Hid (RawsAt W po pl pc rs) := hp.later HW.out.1
 clear hp
 cases hh : heavyB 9 3 pl rs
 ·
  rw [hh, Bool.false_or] at hc
  have HH : Hid (heavyB 9 3 pl rs = false) := hh
  have hcon2 : ∀ W', Calls Tryz.prog 23 #[.agg #[.bool nc, .slice co lc cc], .int .i64 3] W' fun e w' => e = .returned (.bool c) ∧ Below W'.heap.size W' w' := fun W' => (long_any nc co lc cc 3 W').mono fun e w' h => by rw [hc] at h; exact h
  clear hh hc
  go_enter Tryz.func4, Tryz.ntmps4
  go_wp2_with (first
   | (go_at_call 22; rw [← hW]; clear hW; refine (heavyPoly_any 9 3 po pl pc rs _ HP.out hl (by decide) false HH.out).mono ?_; rintro e w1 ⟨rfl, hb1⟩; obtain ⟨q0, q1⟩ : w1.cell? ⟨w.heap.size, 1, none⟩ = some (.bool nc) ∧ w1.cell? ⟨w.heap.size, 2, none⟩ = some (.slice co lc cc) := ⟨(hb1.cell (p := ⟨w.heap.size, 1, none⟩) (by have := HW.out.2.1; show w.heap.size < _; omega)).trans HW.out.2.2.1, (hb1.cell (p := ⟨w.heap.size, 2, none⟩) (by have := HW.out.2.1; show w.heap.size < _; omega)).trans HW.out.2.2.2⟩)
   | (go_at_call 23; refine (hcon2 _).mono ?_; rintro e w2 ⟨rfl, hb2⟩))
  go_ret
  exact ⟨rfl, bnext HW.out.1 (bnext hb1 hb2)⟩
 ·
  rw [hh, Bool.true_or] at hc
  subst hc
  have HH : Hid (heavyB 9 3 pl rs = true) := hh
  clear hh
  go_enter Tryz.func4, Tryz.ntmps4
  go_wp2_with (first
   | (go_at_call 22; rw [← hW]; clear hW; refine (heavyPoly_any 9 3 po pl pc rs _ HP.out hl (by decide) true HH.out).mono ?_; rintro e w1 ⟨rfl, hb1⟩))
  go_ret
  exact ⟨rfl, bnext HW.out.1 hb1⟩
theorem poly3_new {W : World} {n0 n1 n2 : Bool} {o0 o1 o2 : Option Addr} {l0 c0 l1 c1 l2 c2 : Nat} {a b c : Int} {t : TypeId} (h0 : IntAt W n0 o0 l0 c0 a) (h1 : IntAt W n1 o1 l1 c1 b) (h2 : IntAt W n2 o2 l2 c2 c) :
  PolyAt (W.alloc (.cells #[.bool n0, .slice o0 l0 c0, .bool n1, .slice o1 l1 c1, .bool n2, .slice o2 l2 c2] t)) (some ⟨W.heap.size, 0, none⟩) 3 3 [a, b, c] := by
 have hA : Below W.heap.size W (W.alloc (.cells #[.bool n0, .slice o0 l0 c0, .bool n1, .slice o1 l1 c1, .bool n2, .slice o2 l2 c2] t)) := (Below.refl _ _).alloc (Nat.le_refl _) _
 refine ⟨rfl, Nat.le_refl _, fun e => (by cases e), Or.inr ⟨W.heap.size, 0, rfl, fun t ht => ?_⟩⟩
 match t, ht with
 | 0, _ => exact ⟨n0, o0, l0, c0, ⟨by simp [go_sem], by simp [go_sem]⟩, h0.later hA⟩
 | 1, _ => exact ⟨n1, o1, l1, c1, ⟨by simp [go_sem], by simp [go_sem]⟩, h1.later hA⟩
 | 2, _ => exact ⟨n2, o2, l2, c2, ⟨by simp [go_sem], by simp [go_sem]⟩, h2.later hA⟩
theorem lim_small {v : Int} (h : v.natAbs < 18446744073709551616) : lim v ≤ 1 := mag_len_one h
theorem Lim.of3 {L : Nat} {a b c : Int} (h0 : lim a ≤ L) (h1 : lim b ≤ L) (h2 : lim c ≤ L) : Lim L [a, b, c] := fun t => by
 match t with
 | 0 => exact h0
 | 1 => exact h1
 | 2 => exact h2
 | n + 3 => rw [dig_past (by simp), lim_zero]; exact Nat.zero_le _
theorem wakes6_any (w : World) : Calls Tryz.prog 21 #[] w fun e w' => e = .returned (.bool true) ∧ Below w.heap.size w w' := by
 have HC : Hid (sh 3 [0, 0, 1] = [9, 6, 1] ∧ Lead [0, 0, 1] ∧ ShLim 1000000000 3 [0, 0, 1] ∧ Lim 4611686018427387904 [9, 6, 1]) := by
  refine ⟨by decide, fun _ => by decide, ShLim.of (L := 1) (C := 1) (N := 3) (Lim.of3 (lim_small (by decide)) (lim_small (by decide)) (lim_small (by decide))) (lim_small (by decide)) (by decide) (by decide), ?_⟩
  exact (Lim.of3 (L := 1) (lim_small (by decide)) (lim_small (by decide)) (lim_small (by decide))).mono (by decide)
 go_enter Tryz.func21, Tryz.ntmps21
 go_wp2_with (first
  | (go_at_call 35; have _t := HS; refine (rfrom_any 9 _ (by decide) (by decide)).mono ?_; rintro e y0 ⟨m0, p0, k0, d0, rfl, hs, ho, hb⟩; have HB0 : Hid (IntAt y0 m0 p0 k0 d0 9 ∧ Below w5.heap.size w5 y0) := ⟨ho.int hs, hb⟩; clear hs ho hb)
  | (go_at_call 35; have _t := HB0; refine (rfrom_any 6 _ (by decide) (by decide)).mono ?_; rintro e y1 ⟨m1, p1, k1, d1, rfl, hs, ho, hb⟩; have HB1 : Hid (IntAt y1 m1 p1 k1 d1 6 ∧ IntAt y1 m0 p0 k0 d0 9 ∧ Below w5.heap.size w5 y1) := ⟨ho.int hs, HB0.out.1.later hb, bnext HB0.out.2 hb⟩; clear hs ho hb)
  | (go_at_call 35; have _t := HB1; refine (rfrom_any 1 _ (by decide) (by decide)).mono ?_; rintro e y2 ⟨m2, p2, k2, d2, rfl, hs, ho, hb⟩; have HB2 : Hid (PolyAt (y2.alloc (.cells #[.bool m0, .slice p0 k0 d0, .bool m1, .slice p1 k1 d1, .bool m2, .slice p2 k2 d2] 28)) (some ⟨y2.heap.size, 0, none⟩) 3 3 [9, 6, 1] ∧ Below w5.heap.size w5 (y2.alloc (.cells #[.bool m0, .slice p0 k0 d0, .bool m1, .slice p1 k1 d1, .bool m2, .slice p2 k2 d2] 28))) := ⟨poly3_new (HB1.out.2.1.later hb) (HB1.out.1.later hb) (ho.int hs), below_alloc (bnext HB1.out.2.2 hb) (Nat.le_refl _)⟩; clear hs ho hb)
  | (go_at_call 35; have _t := HA2; refine (rfrom_any 3 _ (by decide) (by decide)).mono ?_; rintro e w4 ⟨n3, o3, l3, c3, rfl, hs, ho, hb⟩; have HA3 : Hid (PolyAt w4 (some ⟨w3.heap.size, 0, none⟩) 3 3 [0, 0, 1] ∧ IntAt w4 n3 o3 l3 c3 3 ∧ Below w.heap.size w w4) := ⟨HA2.out.1.later hb, ho.int hs, bnext HA2.out.2 hb⟩; clear hs ho hb)
  | (go_at_call 35; have _t := HA1; refine (rfrom_any 1 _ (by decide) (by decide)).mono ?_; rintro e w3 ⟨n2, o2, l2, c2, rfl, hs, ho, hb⟩; have HA2 : Hid (PolyAt (w3.alloc (.cells #[.bool n0, .slice o0 l0 c0, .bool n1, .slice o1 l1 c1, .bool n2, .slice o2 l2 c2] 28)) (some ⟨w3.heap.size, 0, none⟩) 3 3 [0, 0, 1] ∧ Below w.heap.size w (w3.alloc (.cells #[.bool n0, .slice o0 l0 c0, .bool n1, .slice o1 l1 c1, .bool n2, .slice o2 l2 c2] 28))) := ⟨poly3_new (HA1.out.2.1.later hb) (HA1.out.1.later hb) (ho.int hs), below_alloc (bnext HA1.out.2.2 hb) (Nat.le_refl _)⟩; clear hs ho hb)
  | (go_at_call 35; have _t := HA0; refine (rfrom_any 0 _ (by decide) (by decide)).mono ?_; rintro e w2 ⟨n1, o1, l1, c1, rfl, hs, ho, hb⟩; have HA1 : Hid (IntAt w2 n1 o1 l1 c1 0 ∧ IntAt w2 n0 o0 l0 c0 0 ∧ Below w.heap.size w w2) := ⟨ho.int hs, HA0.out.1.later hb, bnext HA0.out.2 hb⟩; clear hs ho hb)
  | (go_at_call 35; refine (rfrom_any 0 _ (by decide) (by decide)).mono ?_; rintro e w1 ⟨n0, o0, l0, c0, rfl, hs, ho, hb⟩; have HA0 : Hid (IntAt w1 n0 o0 l0 c0 0 ∧ Below w.heap.size w w1) := ⟨ho.int hs, hb⟩; clear hs ho hb)
  | (go_at_call 8; refine (bshift_ok (some ⟨w3.heap.size, 0, none⟩) 3 3 [0, 0, 1] n3 o3 l3 c3 3 w4 HA3.out.1 (by decide) HC.out.2.1 HA3.out.2.1 HC.out.2.2.1).mono ?_; rintro e w5 ⟨so, ls, rfl, hp5, hb5⟩; rw [HC.out.1] at hp5; have HS : Hid (PolyAt w5 so ls ls [9, 6, 1] ∧ Below w.heap.size w w5) := ⟨hp5, bnext HA3.out.2.2 hb5⟩; clear hp5 hb5 HA3 HA2 HA1 HA0)
  | (go_at_call 12; refine (num6_any 0 _).mono ?_; rintro e w6 ⟨rfl, hw6⟩; replace hw6 := hw6.symm; subst hw6)
  | (go_at_call 13; refine (eqpoly_same so _ ls 3 ls 3 [9, 6, 1] _ (HS.out.1.later HB2.out.2) HB2.out.1 (by have := HS.out.1.hlen; simp at this; omega) HC.out.2.2.2).mono ?_; rintro e w7 ⟨rfl, hb7⟩))
 go_ret
 exact ⟨rfl, bnext (bnext HS.out.2 HB2.out.2) hb7⟩
end Go.Proofs.YtchmdfjmleoajaaGreat
namespace Go.Proofs.YtchmdfjmleoajaaGreat
open Go.RowKit
def Step (n : Nat) : Prop := True
theorem step (n : Nat) : Step n := trivial
def MoveAt (w : World) (b o : Nat) : Prop :=
 ∃ (po co : Option Addr) (pl pc lc cc : Nat) (nc : Bool) (K : Int) (rs : List (Bool × List Int)) (x : List Int),
  (w.cell? ⟨b, o, none⟩ = some (.slice po pl pc) ∧ w.cell? ⟨b, o + 1, none⟩ = some (.bool nc) ∧ w.cell? ⟨b, o + 2, none⟩ = some (.slice co lc cc) ∧ w.cell? ⟨b, o + 3, none⟩ = some (.int .i64 K)) ∧
  RawsAt w po pl pc rs ∧ pc ≤ 9223372036854775807 ∧ RowAt w .u64 co lc cc x ∧ Wd 18446744073709551616 x ∧ -9223372036854775808 ≤ K ∧ K ≤ 9223372036854775807
def MovesAt (w : World) (lo : Option Addr) (n : Nat) : Prop := ∀ i, i < n → ∃ b off, lo = some ⟨b, off, none⟩ ∧ b < w.heap.size ∧ MoveAt w b (off + i * 4)
theorem MoveAt.later {w w' : World} {b o : Nat} (h : MoveAt w b o) (hb : Below w.heap.size w w') (hlt : b < w.heap.size) : MoveAt w' b o := by
 obtain ⟨po, co, pl, pc, lc, cc, nc, K, rs, x, ⟨h0, h1, h2, h3⟩, hp, hpc, hx, wx, hn⟩ := h
 exact ⟨po, co, pl, pc, lc, cc, nc, K, rs, x, ⟨(hb.cell (p := ⟨b, o, none⟩) hlt).trans h0, (hb.cell (p := ⟨b, o + 1, none⟩) hlt).trans h1, (hb.cell (p := ⟨b, o + 2, none⟩) hlt).trans h2, (hb.cell (p := ⟨b, o + 3, none⟩) hlt).trans h3⟩, hp.later hb, hpc, hx.later hb, wx, hn⟩
theorem poly_of_raws {w : World} {ao : Option Addr} {len cap L : Nat} {rs : List (Bool × List Int)} (h : RawsAt w ao len cap rs) (hm : pmayB len rs = true) (hL : ∀ r ∈ rs, r.2.length ≤ L) : ∃ p, PolyAt w ao len cap p ∧ Lim L p ∧ Lead p := by
 obtain ⟨_, hall, hlast⟩ := pmayB_true hm
 rcases Nat.eq_zero_or_pos len with h0 | h0
 ·
  subst h0
  exact ⟨[], ⟨rfl, h.hcap, h.hnil, Or.inl rfl⟩, fun t => by simp [dig, lim_zero], fun h => by simp at h⟩
 ·
  obtain ⟨b, off, h1, h2⟩ := h.get h0
  have hv : ∀ t, ∃ v, (ht : t < rs.length) → CoefAt w b (off + t * 2) v ∧ (rs[t]).2 = mag v.natAbs := by
   intro t
   by_cases ht : t < rs.length
   ·
    obtain ⟨ao', l, c, hc, hr, hw⟩ := h2 t ht
    obtain ⟨v, hi, hz⟩ := int_of_may hr hw (hall _ (List.getElem_mem ht))
    exact ⟨v, fun _ => ⟨⟨_, ao', l, c, hc, hi⟩, hz⟩⟩
   ·
    exact ⟨0, fun h => absurd h ht⟩
  have e : ∀ t, t < len → dig ((List.range len).map fun t => Classical.choose (hv t)) t = Classical.choose (hv t) := by
   intro t ht
   unfold dig
   rw [List.getD_eq_getElem?_getD, List.getElem?_map, List.getElem?_range ht]; rfl
  have hlen := h.hlen
  refine ⟨(List.range len).map fun t => Classical.choose (hv t), ⟨by simp, h.hcap, h.hnil, Or.inr ⟨b, off, h1, fun t ht => ?_⟩⟩, fun t => ?_, fun _ => ?_⟩
  ·
   rw [e t ht]
   exact (Classical.choose_spec (hv t) (by omega)).1
  ·
   by_cases ht : t < len
   ·
    rw [e t ht]
    have := (Classical.choose_spec (hv t) (by omega)).2
    unfold lim; rw [← this]
    exact hL _ (List.getElem_mem _)
   ·
    rw [dig_past (by simp; omega), lim_zero]; omega
  ·
   have hk : ((List.range len).map fun t => Classical.choose (hv t)).length - 1 = len - 1 := by simp
   rw [hk, e (len - 1) (by omega)]
   have h3 := (Classical.choose_spec (hv (len - 1)) (by omega)).2
   have h4 := hlast h0
   rw [List.getD_eq_getElem?_getD, List.getElem?_eq_getElem (by omega), Option.getD_some, h3] at h4
   intro e0
   rw [e0] at h4
   exact h4 rfl
theorem may_num6 (v : Int) : mayB (sgB v) (mag v.natAbs) = true := by
 by_cases h : v = 0
 ·
  subst h; rfl
 ·
  have h1 : mag v.natAbs ≠ [] := fun e => lim_pos h (by unfold lim; rw [e]; rfl)
  rw [mayB_last h1]
  have hc := mag_can v.natAbs
  unfold Can at hc
  rw [List.getLast?_eq_getElem?, List.getElem?_eq_getElem (by have := List.length_pos_iff.2 h1; omega)] at hc
  unfold dig
  rw [List.getD_eq_getElem?_getD, List.getElem?_eq_getElem (by have := List.length_pos_iff.2 h1; omega), Option.getD_some]
  simpa using hc
theorem PolyAt.raws {w : World} {ao : Option Addr} {len cap : Nat} {p : List Int} (h : PolyAt w ao len cap p) : RawsAt w ao len cap (p.map fun v => (sgB v, mag v.natAbs)) := by
 refine ⟨by rw [List.length_map]; exact h.hlen, h.hcap, h.hnil, ?_⟩
 rcases h.hat with h0 | ⟨b, off, h1, h2⟩
 ·
  exact Or.inl h0
 ·
  refine Or.inr ⟨b, off, h1, fun t ht => ?_⟩
  rw [List.length_map] at ht
  obtain ⟨n, o, l, c, hc, hi⟩ := h2 t (by rw [h.hlen]; exact ht)
  have hd : dig p t = p[t] := by simp [dig, ht]
  rw [hd] at hi
  rw [List.getElem_map]
  exact ⟨o, l, c, by rw [← hi.sg]; exact hc, hi.row, mag_wd _⟩
theorem pmay_poly (ao : Option Addr) (len cap : Nat) (p : List Int) (w : World) (hp : PolyAt w ao len cap p) (hl : len ≤ 1025) (hL : Lead p) (hlim : Lim 4611686018427387904 p) :
  Calls Tryz.prog 5 #[.slice ao len cap] w fun e w' => e = .returned (.bool true) ∧ Below w.heap.size w w' := by
 refine pmay_any ao len cap _ w hp.raws (by omega) ?_ true ?_
 ·
  intro r hr
  obtain ⟨v, hv, rfl⟩ := List.mem_map.1 hr
  obtain ⟨t, ht, rfl⟩ := List.getElem_of_mem hv
  have := hlim t
  rw [show dig p t = p[t] by simp [dig, ht]] at this
  exact this
 ·
  unfold pmayB
  rw [decide_eq_true hl, Bool.true_and, Bool.and_eq_true]
  refine ⟨?_, ?_⟩
  ·
   rw [List.all_eq_true]
   intro r hr
   obtain ⟨v, hv, rfl⟩ := List.mem_map.1 hr
   exact may_num6 v
  ·
   rcases Nat.eq_zero_or_pos len with h0 | h0
   ·
    rw [decide_eq_true h0]; rfl
   ·
    rw [Bool.or_eq_true]; right
    have hlen := hp.hlen
    refine decide_eq_true ?_
    rw [List.getD_eq_getElem?_getD, List.getElem?_map, List.getElem?_eq_getElem (show len - 1 < p.length by omega), Option.map_some, Option.getD_some]
    have h1 := hL (by omega)
    rw [← hlen, show dig p (len - 1) = p[len - 1] by simp [dig, show len - 1 < p.length by omega]] at h1
    intro e
    exact lim_pos h1 (by unfold lim; exact congrArg List.length e)
end Go.Proofs.YtchmdfjmleoajaaGreat
namespace Go.Proofs.YtchmdfjmleoajaaGreat
open Go.RowKit
def abs1 : List Int → Nat
 | [] => 0
 | a :: p => a.natAbs + abs1 p
theorem ev_abs (q : List Int) (a : Int) : (ev q a).natAbs ≤ abs1 q * (1 + a.natAbs) ^ q.length := by
 induction q with
 | nil => simp [ev, abs1]
 | cons b q ih =>
  simp only [ev, abs1, List.length_cons, Nat.pow_succ]
  have h1 : (b + a * ev q a).natAbs ≤ b.natAbs + a.natAbs * (ev q a).natAbs := by
   have := Int.natAbs_add_le b (a * ev q a); rw [Int.natAbs_mul] at this; exact this
  have h2 : 1 ≤ (1 + a.natAbs) ^ q.length * (1 + a.natAbs) := Nat.mul_pos (Nat.pow_pos (by omega)) (by omega)
  have h3 : a.natAbs * (ev q a).natAbs ≤ abs1 q * ((1 + a.natAbs) ^ q.length * (1 + a.natAbs)) := by
   rw [← Nat.mul_assoc, Nat.mul_comm a.natAbs]
   exact Nat.mul_le_mul ih (by omega)
  have h4 : b.natAbs * 1 ≤ b.natAbs * ((1 + a.natAbs) ^ q.length * (1 + a.natAbs)) := Nat.mul_le_mul_left _ h2
  rw [Nat.add_mul]
  omega
theorem abs1_drop (q : List Int) (i : Nat) : abs1 (q.drop i) ≤ abs1 q := by
 induction q generalizing i with
 | nil => simp [abs1]
 | cons b q ih => cases i with
  | zero => exact Nat.le_refl _
  | succ i => have := ih i; simp only [List.drop_succ_cons, abs1]; omega
theorem abs1_hor (c a : Int) (s : List Int) : abs1 (hor c a s) ≤ a.natAbs + (1 + c.natAbs) * abs1 s := by
 induction s generalizing a with
 | nil => simp [hor, abs1]
 | cons b s ih =>
  simp only [hor, abs1]
  have h1 := ih b
  have h2 : (a + c * b).natAbs ≤ a.natAbs + c.natAbs * b.natAbs := by
   have := Int.natAbs_add_le a (c * b); rw [Int.natAbs_mul] at this; exact this
  rw [Nat.mul_add, Nat.add_mul 1 c.natAbs b.natAbs]
  omega
theorem abs1_sh (c : Int) (p : List Int) : abs1 (sh c p) ≤ abs1 p * (1 + c.natAbs) ^ p.length := by
 induction p with
 | nil => simp [sh, abs1]
 | cons a p ih =>
  have h1 := abs1_hor c a (sh c p)
  simp only [sh, abs1, List.length_cons, Nat.pow_succ]
  have h2 : 1 ≤ (1 + c.natAbs) ^ p.length * (1 + c.natAbs) := Nat.mul_pos (Nat.pow_pos (by omega)) (by omega)
  have h3 : (1 + c.natAbs) * abs1 (sh c p) ≤ abs1 p * ((1 + c.natAbs) ^ p.length * (1 + c.natAbs)) := by
   rw [Nat.mul_comm (1 + c.natAbs), ← Nat.mul_assoc]
   exact Nat.mul_le_mul_right _ ih
  have h4 : a.natAbs * 1 ≤ a.natAbs * ((1 + c.natAbs) ^ p.length * (1 + c.natAbs)) := Nat.mul_le_mul_left _ h2
  rw [Nat.add_mul]
  omega
theorem abs1_le (p : List Int) (M : Nat) (h : ∀ t, (dig p t).natAbs ≤ M) : abs1 p ≤ p.length * M := by
 induction p with
 | nil => simp [abs1]
 | cons a p ih =>
  have h0 : a.natAbs ≤ M := by have := h 0; simpa [dig] using this
  have h1 := ih fun t => by have := h (t + 1); rwa [dig_cons] at this
  simp only [abs1, List.length_cons, Nat.succ_mul]
  omega
theorem dig_abs1 (p : List Int) (t : Nat) : (dig p t).natAbs ≤ abs1 p := by
 induction p generalizing t with
 | nil => simp [dig, abs1]
 | cons a p ih => cases t with
  | zero => simp [dig, abs1]
  | succ t => rw [dig_cons]; have := ih t; simp only [abs1]; omega
theorem lim_le {v : Int} {k : Nat} (h : v.natAbs < 18446744073709551616 ^ k) : lim v ≤ k := mag_len_le (by
 have : ((v.natAbs : Nat) : Int) < ((18446744073709551616 ^ k : Nat) : Int) := Int.ofNat_lt.2 h
 rw [Int.natCast_pow] at this; exact this)
theorem abs_lt {v : Int} {k : Nat} (h : lim v ≤ k) : v.natAbs < 18446744073709551616 ^ k := by
 have h1 := mag_len_lt (n := v.natAbs) rfl
 have h2 : v.natAbs < 18446744073709551616 ^ (mag v.natAbs).length := by
  have : ((v.natAbs : Nat) : Int) < ((18446744073709551616 ^ (mag v.natAbs).length : Nat) : Int) := by rw [Int.natCast_pow]; exact h1
  exact Int.ofNat_lt.1 this
 exact Nat.lt_of_lt_of_le h2 (Nat.pow_le_pow_right (by decide) h)
theorem ev_lim {q : List Int} {a : Int} {M E : Nat} (hM : abs1 q ≤ M) (hE : 1 + a.natAbs ≤ E) (hn : q.length ≤ 10) (hb : M * E ^ 10 < 18446744073709551616 ^ 400) (i : Nat) : lim (ev (q.drop i) a) ≤ 400 := by
 refine lim_le (Nat.lt_of_le_of_lt (ev_abs _ _) (Nat.lt_of_le_of_lt ?_ hb))
 refine Nat.mul_le_mul (Nat.le_trans (abs1_drop _ _) hM) ?_
 refine Nat.le_trans (Nat.pow_le_pow_left hE _) (Nat.pow_le_pow_right (by omega) ?_)
 simp; omega
structure MovF (p : List Int) (c : Int) (k : Nat) : Prop where
 shl : Lim 400 (sh c p)
 mil : Lim 400 (mir p.length p)
 stl : Lim 400 (stL k p.length p)
 shv : ∀ (n : Int), n.natAbs ≤ 3 → ∀ i, lim (ev ((sh c p).drop i) n) ≤ 400
 miv : ∀ (n : Int), n.natAbs ≤ 3 → ∀ i, lim (ev ((mir p.length p).drop i) n) ≤ 400
 stv : ∀ (n : Int), n.natAbs ≤ 3 → ∀ i, lim (ev ((stL k p.length p).drop i) n) ≤ 400
 pv : ∀ (n : Int), n.natAbs ≤ 18446744073709551616 ^ 4 → ∀ i, lim (ev (p.drop i) n) ≤ 400
theorem movF {p : List Int} {c : Int} {k : Nat} (hp : Lim 3 p) (hc : lim c ≤ 3) (hn : p.length ≤ 10) (hk : k ≤ 4) : MovF p c k := by
 have a0 : ∀ t, (dig p t).natAbs ≤ 18446744073709551616 ^ 3 := fun t => Nat.le_of_lt (abs_lt (hp t))
 have a1 : abs1 p ≤ 10 * 18446744073709551616 ^ 3 := Nat.le_trans (abs1_le p _ a0) (Nat.mul_le_mul_right _ hn)
 have c1 : 1 + c.natAbs ≤ 18446744073709551616 ^ 3 := by have := abs_lt hc; omega
 have s1 : abs1 (sh c p) ≤ 10 * 18446744073709551616 ^ 3 * (18446744073709551616 ^ 3) ^ 10 := by
  refine Nat.le_trans (abs1_sh c p) (Nat.mul_le_mul a1 ?_)
  exact Nat.le_trans (Nat.pow_le_pow_left c1 _) (Nat.pow_le_pow_right (by decide) hn)
 have m1 : abs1 (mir p.length p) ≤ 10 * 18446744073709551616 ^ 3 := by
  refine Nat.le_trans (abs1_le _ (18446744073709551616 ^ 3) fun t => ?_) (Nat.mul_le_mul_right _ (by rw [mir_len]; exact hn))
  by_cases ht : t < p.length
  ·
   rw [mir_dig _ _ _ ht]; split
   ·
    rw [Int.natAbs_neg]; exact a0 t
   ·
    exact a0 t
  ·
   rw [dig_past (by rw [mir_len]; omega)]; simp
 have t1 : abs1 (stL k p.length p) ≤ 10 * 18446744073709551616 ^ 4 := by
  refine Nat.le_trans (abs1_le _ (18446744073709551616 ^ 4) fun t => ?_) (Nat.mul_le_mul_right _ (by rw [stL_len]; exact hn))
  by_cases ht : t < p.length
  ·
   rw [stL_dig _ _ _ ht, if_pos ht, Int.natAbs_mul, Int.natAbs_natCast, Nat.pow_succ]
   refine Nat.mul_le_mul (a0 t) ?_
   have hkt : k * t ≤ 4 * 16 := Nat.mul_le_mul hk (by omega)
   exact Nat.le_trans (Nat.pow_le_pow_right (by decide) hkt) (by decide)
  ·
   rw [dig_past (by rw [stL_len]; omega)]; simp
 have e4 : ∀ n : Int, n.natAbs ≤ 3 → 1 + n.natAbs ≤ 4 := fun n h => by omega
 refine ⟨fun t => ?_, fun t => ?_, fun t => ?_, fun n h i => ?_, fun n h i => ?_, fun n h i => ?_, fun n h i => ?_⟩
 ·
  exact lim_le (Nat.lt_of_le_of_lt (Nat.le_trans (dig_abs1 _ t) s1) (by decide +kernel))
 ·
  exact lim_le (Nat.lt_of_le_of_lt (Nat.le_trans (dig_abs1 _ t) m1) (by decide +kernel))
 ·
  exact lim_le (Nat.lt_of_le_of_lt (Nat.le_trans (dig_abs1 _ t) t1) (by decide +kernel))
 ·
  exact ev_lim s1 (e4 n h) (by rw [sh_len]; exact hn) (by decide +kernel) i
 ·
  exact ev_lim m1 (e4 n h) (by rw [mir_len]; exact hn) (by decide +kernel) i
 ·
  exact ev_lim t1 (e4 n h) (by rw [stL_len]; exact hn) (by decide +kernel) i
 ·
  exact ev_lim a1 (show 1 + n.natAbs ≤ 18446744073709551616 ^ 5 from Nat.le_trans (Nat.add_le_add_left h 1) (by decide +kernel)) hn (by decide +kernel) i
end Go.Proofs.YtchmdfjmleoajaaGreat
