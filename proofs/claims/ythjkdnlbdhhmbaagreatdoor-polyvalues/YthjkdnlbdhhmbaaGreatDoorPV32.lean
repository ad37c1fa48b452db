/-
  A pack of walks and facts: QA.
-/
import Derived.Test.YthjkdnlbdhhmbaaGreatDoorPV31
set_option maxRecDepth 100000
set_option maxHeartbeats 40000000
set_option linter.unusedVariables false
set_option linter.unusedSimpArgs false
namespace Go.Proofs.YthjkdnlbdhhmbaaGreatDoor
open Go.RowKit
theorem prods_sz4 {a b a' b' : Rat} (ha : Sz a 400) (hb : Sz b 400) (ha' : Sz a' 400) (hb' : Sz b' 400) (i : Nat) (hi : i < 4) : Sz (prods a b a' b' i) 1000 := by
 obtain rfl | rfl | rfl | rfl : i = 0 ∨ i = 1 ∨ i = 2 ∨ i = 3 := by omega
 ·
  exact (ha.mul ha').mono (by decide)
 ·
  exact (ha.mul hb').mono (by decide)
 ·
  exact (hb.mul ha').mono (by decide)
 ·
  exact (hb.mul hb').mono (by decide)
theorem ptimes_big (n1 n2 n3 n4 : Bool) (o1 p1 o2 p2 o3 p3 o4 p4 : Option Addr) (l1 c1 m1 k1 l2 c2 m2 k2 l3 c3 m3 k3 l4 c4 m4 k4 : Nat) (a b a' b' : Rat) (w : World) (hx : RatAt w n1 o1 l1 c1 p1 m1 k1 a) (hy : RatAt w n2 o2 l2 c2 p2 m2 k2 b) (hx' : RatAt w n3 o3 l3 c3 p3 m3 k3 a') (hy' : RatAt w n4 o4 l4 c4 p4 m4 k4 b') (ha : Sz a 400) (hb : Sz b 400) (ha' : Sz a' 400) (hb' : Sz b' 400) :
  Calls Tryz.prog 41 #[.agg #[.bool n1, .slice o1 l1 c1, .slice p1 m1 k1, .bool n2, .slice o2 l2 c2, .slice p2 m2 k2], .agg #[.bool n3, .slice o3 l3 c3, .slice p3 m3 k3, .bool n4, .slice o4 l4 c4, .slice p4 m4 k4]] w fun e w' => SpW w w' e (loK (prods a b a' b') 4) (hiK (prods a b a' b') 4) := by
 obtain ⟨W, hW, hsz, hbW, hA, hB, hR⟩ := enter3 w [.bool n1, .slice o1 l1 c1, .slice p1 m1 k1, .bool n2, .slice o2 l2 c2, .slice p2 m2 k2] [.bool n3, .slice o3 l3 c3, .slice p3 m3 k3, .bool n4, .slice o4 l4 c4, .slice p4 m4 k4] [.bool false, .slice none 0 0, .slice none 0 0, .bool false, .slice none 0 0, .slice none 0 0] 32 32 32
 have HX : Hid ((RatAt W n1 o1 l1 c1 p1 m1 k1 a ∧ RatAt W n2 o2 l2 c2 p2 m2 k2 b) ∧ (RatAt W n3 o3 l3 c3 p3 m3 k3 a' ∧ RatAt W n4 o4 l4 c4 p4 m4 k4 b')) := ⟨⟨hx.later hbW, hy.later hbW⟩, ⟨hx'.later hbW, hy'.later hbW⟩⟩
 have HC : Hid ((Sz a 400 ∧ Sz b 400) ∧ (Sz a' 400 ∧ Sz b' 400)) := ⟨⟨ha, hb⟩, ⟨ha', hb'⟩⟩
 have HP : Hid (∀ i, i < 4 → Sz (prods a b a' b' i) 1000) := prods_sz4 ha hb ha' hb'
 have KW : Hid (∀ w' : World, Below W.heap.size W w' → w'.cell? ⟨w.heap.size, 0, none⟩ = some (.bool n1) ∧ w'.cell? ⟨w.heap.size, 1, none⟩ = some (.slice o1 l1 c1) ∧ w'.cell? ⟨w.heap.size, 2, none⟩ = some (.slice p1 m1 k1) ∧ w'.cell? ⟨w.heap.size, 3, none⟩ = some (.bool n2) ∧ w'.cell? ⟨w.heap.size, 4, none⟩ = some (.slice o2 l2 c2) ∧ w'.cell? ⟨w.heap.size, 5, none⟩ = some (.slice p2 m2 k2) ∧ w'.cell? ⟨w.heap.size + 1, 0, none⟩ = some (.bool n3) ∧ w'.cell? ⟨w.heap.size + 1, 1, none⟩ = some (.slice o3 l3 c3) ∧ w'.cell? ⟨w.heap.size + 1, 2, none⟩ = some (.slice p3 m3 k3) ∧ w'.cell? ⟨w.heap.size + 1, 3, none⟩ = some (.bool n4) ∧ w'.cell? ⟨w.heap.size + 1, 4, none⟩ = some (.slice o4 l4 c4) ∧ w'.cell? ⟨w.heap.size + 1, 5, none⟩ = some (.slice p4 m4 k4)) := fun w' h => ⟨((hA).later h (by omega)).1 0 _ rfl, ((hA).later h (by omega)).1 1 _ rfl, ((hA).later h (by omega)).1 2 _ rfl, ((hA).later h (by omega)).1 3 _ rfl, ((hA).later h (by omega)).1 4 _ rfl, ((hA).later h (by omega)).1 5 _ rfl, ((hB).later h (by omega)).1 0 _ rfl, ((hB).later h (by omega)).1 1 _ rfl, ((hB).later h (by omega)).1 2 _ rfl, ((hB).later h (by omega)).1 3 _ rfl, ((hB).later h (by omega)).1 4 _ rfl, ((hB).later h (by omega)).1 5 _ rfl⟩
 clear hx hy hx' hy' ha hb ha' hb'
 go_enter Tryz.func41, Tryz.ntmps41
 go_upto_region 1 with fail
 rw [← hW]
 clear hW
 have KR : Hid (∀ X : World, Below W.heap.size W X → ∀ vs, (fun w' : World => w'.cell? ⟨w.heap.size, 0, none⟩ = some (.bool n1) ∧ w'.cell? ⟨w.heap.size, 1, none⟩ = some (.slice o1 l1 c1) ∧ w'.cell? ⟨w.heap.size, 2, none⟩ = some (.slice p1 m1 k1) ∧ w'.cell? ⟨w.heap.size, 3, none⟩ = some (.bool n2) ∧ w'.cell? ⟨w.heap.size, 4, none⟩ = some (.slice o2 l2 c2) ∧ w'.cell? ⟨w.heap.size, 5, none⟩ = some (.slice p2 m2 k2) ∧ w'.cell? ⟨w.heap.size + 1, 0, none⟩ = some (.bool n3) ∧ w'.cell? ⟨w.heap.size + 1, 1, none⟩ = some (.slice o3 l3 c3) ∧ w'.cell? ⟨w.heap.size + 1, 2, none⟩ = some (.slice p3 m3 k3) ∧ w'.cell? ⟨w.heap.size + 1, 3, none⟩ = some (.bool n4) ∧ w'.cell? ⟨w.heap.size + 1, 4, none⟩ = some (.slice o4 l4 c4) ∧ w'.cell? ⟨w.heap.size + 1, 5, none⟩ = some (.slice p4 m4 k4)) (putl X (w.heap.size + 1 + 1) 0 vs)) := fun X h vs => by
  obtain ⟨h0, h1, h2, h3, h4, h5, h6, h7, h8, h9, h10, h11⟩ := KW.out X h
  exact ⟨(putl_off (by omega) vs 0 X).trans h0, (putl_off (by omega) vs 0 X).trans h1, (putl_off (by omega) vs 0 X).trans h2, (putl_off (by omega) vs 0 X).trans h3, (putl_off (by omega) vs 0 X).trans h4, (putl_off (by omega) vs 0 X).trans h5, (putl_off (by omega) vs 0 X).trans h6, (putl_off (by omega) vs 0 X).trans h7, (putl_off (by omega) vs 0 X).trans h8, (putl_off (by omega) vs 0 X).trans h9, (putl_off (by omega) vs 0 X).trans h10, (putl_off (by omega) vs 0 X).trans h11⟩
 refine wp_region_noPanic ?_
 refine wp_region_held_drew (S := fun w' => (w'.cell? ⟨w.heap.size, 0, none⟩ = some (.bool n1) ∧ w'.cell? ⟨w.heap.size, 1, none⟩ = some (.slice o1 l1 c1) ∧ w'.cell? ⟨w.heap.size, 2, none⟩ = some (.slice p1 m1 k1) ∧ w'.cell? ⟨w.heap.size, 3, none⟩ = some (.bool n2) ∧ w'.cell? ⟨w.heap.size, 4, none⟩ = some (.slice o2 l2 c2) ∧ w'.cell? ⟨w.heap.size, 5, none⟩ = some (.slice p2 m2 k2) ∧ w'.cell? ⟨w.heap.size + 1, 0, none⟩ = some (.bool n3) ∧ w'.cell? ⟨w.heap.size + 1, 1, none⟩ = some (.slice o3 l3 c3) ∧ w'.cell? ⟨w.heap.size + 1, 2, none⟩ = some (.slice p3 m3 k3) ∧ w'.cell? ⟨w.heap.size + 1, 3, none⟩ = some (.bool n4) ∧ w'.cell? ⟨w.heap.size + 1, 4, none⟩ = some (.slice o4 l4 c4) ∧ w'.cell? ⟨w.heap.size + 1, 5, none⟩ = some (.slice p4 m4 k4))) (by kernel_rfl) (by (try dsimp only); exact KW.out _ (Below.refl _ _).drew) (fun hHeld => ?_)
 refine wpAnyH_take (i := 0) (oi := Oper.mk (some 5) _ _ _ _ _) (v := ?_) rfl (by decide +kernel) (by decide +kernel) (by decide +kernel) (fun _ _ _ h => h) (Or.inl ⟨by rfl, ?_⟩) (by assumption) ?_
 rotate_left
 ·
  (intro w hSw; (try dsimp only at hSw); go_simp <;> (try with_reducible rfl))
 (try simp only [Act.put, List.setIfInBounds_toArray, List.set_cons_zero, List.set_cons_succ])
 refine wpAnyH_take (i := 1) (oi := Oper.mk (some 6) _ _ _ _ _) (v := ?_) rfl (by decide +kernel) (by decide +kernel) (by decide +kernel) (fun _ _ _ h => h) (Or.inl ⟨by rfl, ?_⟩) (by assumption) ?_
 rotate_left
 ·
  (intro w hSw; (try dsimp only at hSw); go_simp <;> (try with_reducible rfl))
 (try simp only [Act.put, List.setIfInBounds_toArray, List.set_cons_zero, List.set_cons_succ])
 refine wpAnyH_take (i := 2) (oi := Oper.mk (some 7) _ _ _ _ _) (v := ?_) rfl (by decide +kernel) (by decide +kernel) (by decide +kernel) (fun _ _ _ h => h) (Or.inl ⟨by rfl, ?_⟩) (by assumption) ?_
 rotate_left
 ·
  (intro w hSw; (try dsimp only at hSw); go_simp <;> (try with_reducible rfl))
 (try simp only [Act.put, List.setIfInBounds_toArray, List.set_cons_zero, List.set_cons_succ])
 refine wpAnyH_take (i := 3) (oi := Oper.mk (some 8) _ _ _ _ _) (v := ?_) rfl (by decide +kernel) (by decide +kernel) (by decide +kernel) (fun _ _ _ h => h) (Or.inl ⟨by rfl, ?_⟩) (by assumption) ?_
 rotate_left
 ·
  (intro w hSw; (try dsimp only at hSw); go_simp <;> (try with_reducible rfl))
 (try simp only [Act.put, List.setIfInBounds_toArray, List.set_cons_zero, List.set_cons_succ])
 refine wpAnyH_take (i := 5) (oi := Oper.mk (some 10) _ _ _ _ _) (v := ?_) rfl (by decide +kernel) (by decide +kernel) (by decide +kernel) (fun _ _ _ h => h) (Or.inl ⟨by rfl, ?_⟩) (by assumption) ?_
 rotate_left
 ·
  (intro w hSw; (try dsimp only at hSw); go_simp <;> (try with_reducible rfl))
 (try simp only [Act.put, List.setIfInBounds_toArray, List.set_cons_zero, List.set_cons_succ])
 refine wpAnyH_take (i := 6) (oi := Oper.mk (some 11) _ _ _ _ _) (v := ?_) rfl (by decide +kernel) (by decide +kernel) (by decide +kernel) (fun _ _ _ h => h) (Or.inl ⟨by rfl, ?_⟩) (by assumption) ?_
 rotate_left
 ·
  (intro w hSw; (try dsimp only at hSw); go_simp <;> (try with_reducible rfl))
 (try simp only [Act.put, List.setIfInBounds_toArray, List.set_cons_zero, List.set_cons_succ])
 refine wpAnyH_take (i := 7) (oi := Oper.mk (some 12) _ _ _ _ _) (v := ?_) rfl (by decide +kernel) (by decide +kernel) (by decide +kernel) (fun _ _ _ h => h) (Or.inl ⟨by rfl, ?_⟩) (by assumption) ?_
 rotate_left
 ·
  (intro w hSw; (try dsimp only at hSw); go_simp <;> (try with_reducible rfl))
 (try simp only [Act.put, List.setIfInBounds_toArray, List.set_cons_zero, List.set_cons_succ])
 refine wpAnyH_take (i := 8) (oi := Oper.mk (some 13) _ _ _ _ _) (v := ?_) rfl (by decide +kernel) (by decide +kernel) (by decide +kernel) (fun _ _ _ h => h) (Or.inl ⟨by rfl, ?_⟩) (by assumption) ?_
 rotate_left
 ·
  (intro w hSw; (try dsimp only at hSw); go_simp <;> (try with_reducible rfl))
 (try simp only [Act.put, List.setIfInBounds_toArray, List.set_cons_zero, List.set_cons_succ])
 refine wpAnyH_take (i := 10) (oi := Oper.mk (some 15) _ _ _ _ _) (v := ?_) rfl (by decide +kernel) (by decide +kernel) (by decide +kernel) (fun _ _ _ h => h) (Or.inl ⟨by rfl, ?_⟩) (by assumption) ?_
 rotate_left
 ·
  (intro w hSw; (try dsimp only at hSw); go_simp <;> (try with_reducible rfl))
 (try simp only [Act.put, List.setIfInBounds_toArray, List.set_cons_zero, List.set_cons_succ])
 refine wpAnyH_take (i := 11) (oi := Oper.mk (some 16) _ _ _ _ _) (v := ?_) rfl (by decide +kernel) (by decide +kernel) (by decide +kernel) (fun _ _ _ h => h) (Or.inl ⟨by rfl, ?_⟩) (by assumption) ?_
 rotate_left
 ·
  (intro w hSw; (try dsimp only at hSw); go_simp <;> (try with_reducible rfl))
 (try simp only [Act.put, List.setIfInBounds_toArray, List.set_cons_zero, List.set_cons_succ])
 refine wpAnyH_take (i := 12) (oi := Oper.mk (some 17) _ _ _ _ _) (v := ?_) rfl (by decide +kernel) (by decide +kernel) (by decide +kernel) (fun _ _ _ h => h) (Or.inl ⟨by rfl, ?_⟩) (by assumption) ?_
 rotate_left
 ·
  (intro w hSw; (try dsimp only at hSw); go_simp <;> (try with_reducible rfl))
 (try simp only [Act.put, List.setIfInBounds_toArray, List.set_cons_zero, List.set_cons_succ])
 refine wpAnyH_take (i := 13) (oi := Oper.mk (some 18) _ _ _ _ _) (v := ?_) rfl (by decide +kernel) (by decide +kernel) (by decide +kernel) (fun _ _ _ h => h) (Or.inl ⟨by rfl, ?_⟩) (by assumption) ?_
 rotate_left
 ·
  (intro w hSw; (try dsimp only at hSw); go_simp <;> (try with_reducible rfl))
 (try simp only [Act.put, List.setIfInBounds_toArray, List.set_cons_zero, List.set_cons_succ])
 refine wpAnyH_take (i := 15) (oi := Oper.mk (some 20) _ _ _ _ _) (v := ?_) rfl (by decide +kernel) (by decide +kernel) (by decide +kernel) (fun _ _ _ h => h) (Or.inl ⟨by rfl, ?_⟩) (by assumption) ?_
 rotate_left
 ·
  (intro w hSw; (try dsimp only at hSw); go_simp <;> (try with_reducible rfl))
 (try simp only [Act.put, List.setIfInBounds_toArray, List.set_cons_zero, List.set_cons_succ])
 refine wpAnyH_take (i := 16) (oi := Oper.mk (some 21) _ _ _ _ _) (v := ?_) rfl (by decide +kernel) (by decide +kernel) (by decide +kernel) (fun _ _ _ h => h) (Or.inl ⟨by rfl, ?_⟩) (by assumption) ?_
 rotate_left
 ·
  (intro w hSw; (try dsimp only at hSw); go_simp <;> (try with_reducible rfl))
 (try simp only [Act.put, List.setIfInBounds_toArray, List.set_cons_zero, List.set_cons_succ])
 refine wpAnyH_take (i := 17) (oi := Oper.mk (some 22) _ _ _ _ _) (v := ?_) rfl (by decide +kernel) (by decide +kernel) (by decide +kernel) (fun _ _ _ h => h) (Or.inl ⟨by rfl, ?_⟩) (by assumption) ?_
 rotate_left
 ·
  (intro w hSw; (try dsimp only at hSw); go_simp <;> (try with_reducible rfl))
 (try simp only [Act.put, List.setIfInBounds_toArray, List.set_cons_zero, List.set_cons_succ])
 refine wpAnyH_take (i := 18) (oi := Oper.mk (some 23) _ _ _ _ _) (v := ?_) rfl (by decide +kernel) (by decide +kernel) (by decide +kernel) (fun _ _ _ h => h) (Or.inl ⟨by rfl, ?_⟩) (by assumption) ?_
 rotate_left
 ·
  (intro w hSw; (try dsimp only at hSw); go_simp <;> (try with_reducible rfl))
 (try simp only [Act.put, List.setIfInBounds_toArray, List.set_cons_zero, List.set_cons_succ])
 refine wpAnyH_ready (rs := [4]) (by decide +kernel) (by simp) ?_
 refine AllReadyH.cons (o := Oper.mk (some 9) _ _ _ _ _) rfl (fun K hK => ?_) AllReadyH.nil
 go_simp
 (go_at_call 36; refine (qtimes_any n1 n3 o1 p1 o3 p3 l1 c1 m1 k1 l3 c3 m3 k3 a a' _ (HX.out.1.1.later (Below.refl _ _).drew) (HX.out.2.1.later (Below.refl _ _).drew) (HC.out.1.1.mono (by decide)) (HC.out.2.1.mono (by decide))).mono ?_; rintro e f1 ⟨n11, o11, l11, c11, p11, m11, k11, rfl, hr, hb⟩; have H1 : Hid (RatAt f1 n11 o11 l11 c11 p11 m11 k11 (a * a')) := hr; clear hr; have hbF1 : Below W.heap.size W f1 := bnext (Below.refl _ _).drew hb; clear hb)
 (try go_wp2_with fail)
 clear hHeld
 refine hK.out _ _ (by (try dsimp only); first | exact KW.out _ (Below.refl _ _).drew | exact KW.out _ (by assumption)) (fun hHeld => ?_)
 clear hK K
 (try simp only [Act.put, List.setIfInBounds_toArray, List.set_cons_zero, List.set_cons_succ])
 refine wpAnyH_ready (rs := [9]) (by decide +kernel) (by simp) ?_
 refine AllReadyH.cons (o := Oper.mk (some 14) _ _ _ _ _) rfl (fun K hK => ?_) AllReadyH.nil
 go_simp
 (go_at_call 36; refine (qtimes_any n1 n4 o1 p1 o4 p4 l1 c1 m1 k1 l4 c4 m4 k4 a b' _ (HX.out.1.1.later hbF1) (HX.out.2.2.later hbF1) (HC.out.1.1.mono (by decide)) (HC.out.2.2.mono (by decide))).mono ?_; rintro e f2 ⟨n12, o12, l12, c12, p12, m12, k12, rfl, hr, hb⟩; have H2 : Hid (RatAt f2 n11 o11 l11 c11 p11 m11 k11 (a * a') ∧ RatAt f2 n12 o12 l12 c12 p12 m12 k12 (a * b')) := ⟨H1.out.later hb, hr⟩; clear hr; have hbF2 : Below W.heap.size W f2 := bnext hbF1 hb; clear hb)
 (try go_wp2_with fail)
 clear hHeld
 refine hK.out _ _ (by (try dsimp only); first | exact KW.out _ (Below.refl _ _).drew | exact KW.out _ (by assumption)) (fun hHeld => ?_)
 clear hK K
 (try simp only [Act.put, List.setIfInBounds_toArray, List.set_cons_zero, List.set_cons_succ])
 refine wpAnyH_ready (rs := [14]) (by decide +kernel) (by simp) ?_
 refine AllReadyH.cons (o := Oper.mk (some 19) _ _ _ _ _) rfl (fun K hK => ?_) AllReadyH.nil
 go_simp
 (go_at_call 36; refine (qtimes_any n2 n3 o2 p2 o3 p3 l2 c2 m2 k2 l3 c3 m3 k3 b a' _ (HX.out.1.2.later hbF2) (HX.out.2.1.later hbF2) (HC.out.1.2.mono (by decide)) (HC.out.2.1.mono (by decide))).mono ?_; rintro e f3 ⟨n13, o13, l13, c13, p13, m13, k13, rfl, hr, hb⟩; have H3 : Hid (RatAt f3 n11 o11 l11 c11 p11 m11 k11 (a * a') ∧ RatAt f3 n12 o12 l12 c12 p12 m12 k12 (a * b') ∧ RatAt f3 n13 o13 l13 c13 p13 m13 k13 (b * a')) := ⟨H2.out.1.later hb, H2.out.2.later hb, hr⟩; clear hr; have hbF3 : Below W.heap.size W f3 := bnext hbF2 hb; clear hb)
 (try go_wp2_with fail)
 clear hHeld
 refine hK.out _ _ (by (try dsimp only); first | exact KW.out _ (Below.refl _ _).drew | exact KW.out _ (by assumption)) (fun hHeld => ?_)
 clear hK K
 (try simp only [Act.put, List.setIfInBounds_toArray, List.set_cons_zero, List.set_cons_succ])
 refine wpAnyH_ready (rs := [19]) (by decide +kernel) (by simp) ?_
 refine AllReadyH.cons (o := Oper.mk (some 24) _ _ _ _ _) rfl (fun K hK => ?_) AllReadyH.nil
 go_simp
 (go_at_call 36; refine (qtimes_any n2 n4 o2 p2 o4 p4 l2 c2 m2 k2 l4 c4 m4 k4 b b' _ (HX.out.1.2.later hbF3) (HX.out.2.2.later hbF3) (HC.out.1.2.mono (by decide)) (HC.out.2.2.mono (by decide))).mono ?_; rintro e f4 ⟨n14, o14, l14, c14, p14, m14, k14, rfl, hr, hb⟩; have H4 : Hid (RatAt f4 n11 o11 l11 c11 p11 m11 k11 (a * a') ∧ RatAt f4 n12 o12 l12 c12 p12 m12 k12 (a * b') ∧ RatAt f4 n13 o13 l13 c13 p13 m13 k13 (b * a') ∧ RatAt f4 n14 o14 l14 c14 p14 m14 k14 (b * b')) := ⟨H3.out.1.later hb, H3.out.2.1.later hb, H3.out.2.2.later hb, hr⟩; clear hr; have hbF4 : Below W.heap.size W f4 := bnext hbF3 hb; clear hb)
 (try go_wp2_with fail)
 clear hHeld
 refine hK.out _ _ (by (try dsimp only); first | exact KW.out _ (Below.refl _ _).drew | exact KW.out _ (by assumption)) (fun hHeld => ?_)
 clear hK K
 (try simp only [Act.put, List.setIfInBounds_toArray, List.set_cons_zero, List.set_cons_succ])
 have hbs := four_build n11 n12 n13 n14 o11 p11 o12 p12 o13 p13 o14 p14 l11 c11 m11 k11 l12 c12 m12 k12 l13 c13 m13 k13 l14 c14 m14 k14
 refine wpAnyH_ready (rs := [20]) (by decide +kernel) (by simp) ?_
 refine AllReadyH.cons (o := Oper.mk (some 25) _ _ _ _ _) rfl (fun K hK => ?_) AllReadyH.nil
 go_simp
 clear hHeld
 refine hK.out _ _ (by (try dsimp only); exact KW.out _ (below_alloc hbF4 (Nat.le_refl _))) (fun hHeld => ?_)
 clear hK K
 (try simp only [Act.put, List.setIfInBounds_toArray, List.set_cons_zero, List.set_cons_succ])
 clear hbs
 have hst : Below f4.heap.size f4 (f4.alloc (.cells #[.bool n11, .slice o11 l11 c11, .slice p11 m11 k11, .bool n12, .slice o12 l12 c12, .slice p12 m12 k12, .bool n13, .slice o13 l13 c13, .slice p13 m13 k13, .bool n14, .slice o14 l14 c14, .slice p14 m14 k14] 30)) := (Below.refl _ _).alloc (Nat.le_refl _) _
 have HG : Hid (Bx (f4.alloc (.cells #[.bool n11, .slice o11 l11 c11, .slice p11 m11 k11, .bool n12, .slice o12 l12 c12, .slice p12 m12 k12, .bool n13, .slice o13 l13 c13, .slice p13 m13 k13, .bool n14, .slice o14 l14 c14, .slice p14 m14 k14] 30)) f4.heap.size [.bool n11, .slice o11 l11 c11, .slice p11 m11 k11, .bool n12, .slice o12 l12 c12, .slice p12 m12 k12, .bool n13, .slice o13 l13 c13, .slice p13 m13 k13, .bool n14, .slice o14 l14 c14, .slice p14 m14 k14]) := Bx.new _ _ _
 have HRL : Hid (RList (f4.alloc (.cells #[.bool n11, .slice o11 l11 c11, .slice p11 m11 k11, .bool n12, .slice o12 l12 c12, .slice p12 m12 k12, .bool n13, .slice o13 l13 c13, .slice p13 m13 k13, .bool n14, .slice o14 l14 c14, .slice p14 m14 k14] 30)) f4.heap.size 4 (prods a b a' b')) := fun i hi => by
   have hg := HG.out
   obtain rfl | rfl | rfl | rfl : i = 0 ∨ i = 1 ∨ i = 2 ∨ i = 3 := by omega
   ·
    exact ⟨n11, o11, l11, c11, p11, m11, k11, ⟨hg.1 0 _ rfl, hg.1 1 _ rfl, hg.1 2 _ rfl⟩, H4.out.1.later hst⟩
   ·
    exact ⟨n12, o12, l12, c12, p12, m12, k12, ⟨hg.1 3 _ rfl, hg.1 4 _ rfl, hg.1 5 _ rfl⟩, H4.out.2.1.later hst⟩
   ·
    exact ⟨n13, o13, l13, c13, p13, m13, k13, ⟨hg.1 6 _ rfl, hg.1 7 _ rfl, hg.1 8 _ rfl⟩, H4.out.2.2.1.later hst⟩
   ·
    exact ⟨n14, o14, l14, c14, p14, m14, k14, ⟨hg.1 9 _ rfl, hg.1 10 _ rfl, hg.1 11 _ rfl⟩, H4.out.2.2.2.later hst⟩
 refine wpAnyH_ready (rs := [21]) (by decide +kernel) (by simp) ?_
 refine AllReadyH.cons (o := Oper.mk (some 26) _ _ _ _ _) rfl (fun K hK => ?_) AllReadyH.nil
 go_simp
 (go_at_call 64; refine (pround_any f4.heap.size 4 4 (prods a b a' b') _ HRL.out (by decide) (by decide) HP.out).mono ?_; rintro e f5 ⟨n5, o5, l5, c5, p5, m5, k5, n6, o6, l6, c6, p6, m6, k6, rfl, hr, hr', hb⟩; have H5 : Hid (RatAt f5 n5 o5 l5 c5 p5 m5 k5 (loK (prods a b a' b') 4) ∧ RatAt f5 n6 o6 l6 c6 p6 m6 k6 (hiK (prods a b a' b') 4)) := ⟨hr, hr'⟩; clear hr hr'; have hbF5 : Below W.heap.size W f5 := bnext (below_alloc hbF4 (Nat.le_refl _)) hb; clear hb)
 (try go_wp2_with fail)
 clear hHeld
 refine hK.out _ _ (by (try dsimp only); first | exact KW.out _ (Below.refl _ _).drew | exact KW.out _ (by assumption)) (fun hHeld => ?_)
 clear hK K
 (try simp only [Act.put, List.setIfInBounds_toArray, List.set_cons_zero, List.set_cons_succ])
 have hF := hR.later hbF5 (by omega); have g6 := hF.2; have g0 := hF.1 0 _ rfl; have g1 := hF.1 1 _ rfl; have g2 := hF.1 2 _ rfl; have g3 := hF.1 3 _ rfl; have g4 := hF.1 4 _ rfl; have g5 := hF.1 5 _ rfl; clear hF
 refine wpAnyH_ready (rs := [22]) (by decide +kernel) (by simp) ?_
 refine AllReadyH.cons (o := Oper.mk none _ _ _ _ _) rfl (fun K hK => ?_) AllReadyH.nil
 go_simp
 clear hHeld
 refine hK.out _ _ (by (try dsimp only); exact KR.out _ hbF5 [.bool n5, .slice o5 l5 c5, .slice p5 m5 k5, .bool n6, .slice o6 l6 c6, .slice p6 m6 k6]) (fun hHeld => ?_)
 clear hK K
 (try simp only [Act.put, List.setIfInBounds_toArray, List.set_cons_zero, List.set_cons_succ])
 refine wpAnyH_done (by decide +kernel) ?_ _
 refine NoPanic.normal ?_
 go_wp2
 exact bodyPost_ret (v := .agg #[.bool n5, .slice o5 l5 c5, .slice p5 m5 k5, .bool n6, .slice o6 l6 c6, .slice p6 m6 k6]) (by simp [results, Tryz.results41, go_sem, g0, g1, g2, g3, g4, g5]) rfl
  ⟨_, _, _, _, _, _, _, _, _, _, _, _, _, _, rfl, (hR.later hbF5 (by omega)).rat (by simp [NoWord]) (ws := [.bool n5, .slice o5 l5 c5, .slice p5 m5 k5, .bool n6, .slice o6 l6 c6, .slice p6 m6 k6]) rfl H5.out.1, (hR.later hbF5 (by omega)).rat (by simp [NoWord]) (ws := [.bool n5, .slice o5 l5 c5, .slice p5 m5 k5, .bool n6, .slice o6 l6 c6, .slice p6 m6 k6]) rfl H5.out.2, putl_below (r := w.heap.size + 1 + 1) (by omega) [.bool n5, .slice o5 l5 c5, .slice p5 m5 k5, .bool n6, .slice o6 l6 c6, .slice p6 m6 k6] 0 _ (bnext hbW hbF5)⟩
theorem from_rat {w : World} {n : Bool} {o bo : Option Addr} {l c lb cb : Nat} {v : Int} (h : IntAt w n o l c v) (hr : RowAt w .u64 bo lb cb (mag 1)) : RatAt w n o l c bo lb cb (v : Rat) := ⟨h, hr⟩
theorem Vars.put3 {w W : World} {L : List (Nat × List Value)} (h : Vars w W L) (k : Nat) {r : Nat} {x y z : Value} (hk : L[k]? = some (r, [x, y, z])) (u v t : Value) : Vars w (((W.setCell ⟨r, 0, none⟩ u).setCell ⟨r, 1, none⟩ v).setCell ⟨r, 2, none⟩ t) (L.set k (r, [u, v, t])) := by
 have hlk : k < L.length := (List.getElem?_eq_some_iff.1 hk).1
 have h1 := h.set k 0 hk rfl u
 have h2 := h1.set k 1 (r := r) (vs := [u, y, z]) (x := y) (by rw [List.getElem?_set_self hlk]; rfl) rfl v
 have h3 := h2.set k 2 (r := r) (vs := [u, v, z]) (x := z) (by rw [List.getElem?_set_self (by simpa using hlk)]; rfl) rfl t
 rw [List.set_set, List.set_set] at h3
 exact h3
theorem RatAt.setThree {z : World} {n : Bool} {o p : Option Addr} {l c m k r : Nat} {q : Rat} {n0 : Bool} {x1 x2 : Option Addr} {a1 b1 a2 b2 : Nat} (h : RatAt z n o l c p m k q) (hb : Bx z r [.bool n0, .slice x1 a1 b1, .slice x2 a2 b2]) (u0 u1 u2 : Value) : RatAt (((z.setCell ⟨r, 0, none⟩ u0).setCell ⟨r, 1, none⟩ u1).setCell ⟨r, 2, none⟩ u2) n o l c p m k q := by
 have b0 := hb.set1 (j := 0) (v := u0) rfl
 have b1 := b0.set1 (j := 1) (v := u1) rfl
 exact ((h.setOne (hb.1 0 _ rfl) (fun z e => by cases e) u0).setOne (b0.1 1 _ rfl) (fun z e => by cases e) u1).setOne (b1.1 2 _ rfl) (fun z e => by cases e) u2
theorem dig_getE {p : List Int} {j : Nat} (h : j < p.length) : dig p j = p[j] := by unfold dig; rw [List.getD_eq_getElem?_getD, List.getElem?_eq_getElem h]; rfl
theorem evQ_drop (p : List Int) (a : Rat) (j : Nat) (h : j < p.length) : evQ (p.drop (j + 1)) a * a + ((dig p j : Int) : Rat) = evQ (p.drop j) a := by
 rw [List.drop_eq_getElem_cons h, dig_getE h]
 show _ = ((p[j] : Int) : Rat) + a * evQ (p.drop (j + 1)) a
 rw [Rat.add_comm, Rat.mul_comm]
theorem ev_drop_sz {p : List Int} {x : Rat} (hp : Lim 3 p) (hl : p.length ≤ 11) (hx : Sz x 2) (k : Nat) : Sz (evQ (p.drop k) x) 800 := by
 have h0 : x.den ^ ((p.drop k).length - 1) ≠ 0 := Nat.pos_iff_ne_zero.1 (Nat.pow_pos (Nat.pos_iff_ne_zero.2 x.den_nz))
 have hn : lim x.num ≤ 5 := Nat.le_trans hx.1 (by decide)
 have hd : lim (x.den : Int) ≤ 5 := Nat.le_trans hx.2 (by decide)
 have hl2 : (p.drop k).length ≤ 11 := by rw [List.length_drop]; omega
 rw [homo_rat (p.drop k) x (x.den ^ ((p.drop k).length - 1)) (by rw [Int.natCast_pow]) h0]
 refine Sz.make h0 ?_ ?_
 ·
  have h1 := homo_lim5 x.num (x.den : Int) hn hd (p.drop k) (drop_lim hp) hl2
  unfold lim at h1; omega
 ·
  have h1 := lim_powK5 (x.den : Int) ((p.drop k).length - 1) hd
  unfold lim at h1
  rw [← Int.natCast_pow, Int.natAbs_natCast] at h1
  omega
theorem reval_any (ao : Option Addr) (len cap : Nat) (p : List Int) (na : Bool) (o1 o2 : Option Addr) (l1 c1 l2 c2 : Nat) (a : Rat) (w : World) (hp : PolyAt w ao len cap p) (hx : RatAt w na o1 l1 c1 o2 l2 c2 a) (ha : Sz a 2) (hl : len ≤ 11) (hlp : Lim 3 p) :
  Calls Tryz.prog 13 #[.slice ao len cap, .agg #[.bool na, .slice o1 l1 c1, .slice o2 l2 c2]] w fun e w' => SomeR w w' e (evQ p a) := by
 have HR : Hid (PolyAt w ao len cap p ∧ RatAt w na o1 l1 c1 o2 l2 c2 a ∧ Sz a 2 ∧ len = p.length ∧ Lim 3 p) := ⟨hp, hx, ha, hp.hlen, hlp⟩
 have HSZ : Hid (∀ k, Sz (evQ (p.drop k) a) 800) := fun k => ev_drop_sz hlp (by have := hp.hlen; omega) ha k
 obtain ⟨W, hW⟩ : ∃ W, W = (w.alloc (.cells #[.bool na, .slice o1 l1 c1, .slice o2 l2 c2] 30)).alloc (.cells #[.bool false, .slice none 0 0, .slice none 0 0] 30) := ⟨_, rfl⟩
 have HWE : Hid (W = (w.alloc (.cells #[.bool na, .slice o1 l1 c1, .slice o2 l2 c2] 30)).alloc (.cells #[.bool false, .slice none 0 0, .slice none 0 0] 30)) := hW
 have HV0 : Hid (Vars w W [(w.heap.size + 1, [.bool false, .slice none 0 0, .slice none 0 0]), (w.heap.size, [.bool na, .slice o1 l1 c1, .slice o2 l2 c2])]) := by
  rw [hW]
  exact ((Vars.nil w).alloc rfl [.bool na, .slice o1 l1 c1, .slice o2 l2 c2] _).alloc (by simp) [.bool false, .slice none 0 0, .slice none 0 0] _
 clear hW hp hx ha hlp
 go_enter Tryz.func13, Tryz.ntmps13
 go_wp2_with (go_at_call 34; rw [← HWE.out]; refine (qint_any 0 W (by decide) (by decide)).mono ?_; rintro e w1 ⟨nx, ox, lx, cx, px, mx, kx, rfl, h1, hb1⟩; have H1 : Hid (Vars w w1 [(w.heap.size + 1, [.bool false, .slice none 0 0, .slice none 0 0]), (w.heap.size, [.bool na, .slice o1 l1 c1, .slice o2 l2 c2])] ∧ RatAt w1 nx ox lx cx px mx kx ((0 : Int) : Rat)) := ⟨HV0.out.later hb1, h1⟩; clear h1 hb1)
 obtain ⟨V, hV⟩ : ∃ V, V = w1.alloc (.cells #[.bool nx, .slice ox lx cx, .slice px mx kx] 30) := ⟨_, rfl⟩
 obtain ⟨r5, hr5⟩ : ∃ r5, r5 = w1.heap.size := ⟨_, rfl⟩
 have HV : Hid (Vars w V [(r5, [.bool nx, .slice ox lx cx, .slice px mx kx]), (w.heap.size + 1, [.bool false, .slice none 0 0, .slice none 0 0]), (w.heap.size, [.bool na, .slice o1 l1 c1, .slice o2 l2 c2])] ∧ RatAt V nx ox lx cx px mx kx ((0 : Int) : Rat)) := by
  rw [hV]
  exact ⟨H1.out.1.alloc hr5 [.bool nx, .slice ox lx cx, .slice px mx kx] _, H1.out.2.later ((Below.refl _ _).alloc (Nat.le_refl _) _)⟩
 rw [← hV]
 (try simp only [← hr5])
 clear hV hr5 H1 HWE HV0
 go_loopw [6] (fun i wr => ∃ k : Nat, k ≤ len ∧ i = .int .i64 ((k : Int) - 1) ∧ ∃ nx ox lx cx px mx kx, Hid (Vars w wr [(r5, [.bool nx, .slice ox lx cx, .slice px mx kx]), (w.heap.size + 1, [.bool false, .slice none 0 0, .slice none 0 0]), (w.heap.size, [.bool na, .slice o1 l1 c1, .slice o2 l2 c2])] ∧ RatAt wr nx ox lx cx px mx kx (evQ (p.drop k) a))) (fun i _ => (intOf i + 1).toNat)
 case atStart =>
  refine ⟨len, Nat.le_refl _, rfl, nx, ox, lx, cx, px, mx, kx, HV.out.1, ?_⟩
  have e1 : p.drop len = [] := by rw [HR.out.2.2.2.1, List.drop_length]
  rw [e1]
  exact HV.out.2
 case round =>
  obtain ⟨k, hk, rfl, nx, ox, lx, cx, px, mx, kx, HS⟩ := hrel
  by_cases hk0 : k = 0
  ·
   subst hk0
   have x0 := HS.out.1.cell 0 0 rfl rfl
   have x1 := HS.out.1.cell 0 1 rfl rfl
   have x2 := HS.out.1.cell 0 2 rfl rfl
   have y0 := HS.out.1.cell 1 0 rfl rfl
   have y1 := HS.out.1.cell 1 1 rfl rfl
   have y2 := HS.out.1.cell 1 2 rfl rfl
   have yf := HS.out.1.soft 1 rfl
   go_wp2
   have hX := HS.out.2.setThree (HS.out.1.box 1 _ _ rfl).1 (.bool nx) (.slice ox lx cx) (.slice px mx kx)
   rw [List.drop_zero] at hX
   exact bodyPost_ret (v := .agg #[.bool nx, .slice ox lx cx, .slice px mx kx]) (by simp [results, Tryz.results13, go_sem, y0, y1, y2, yf]) rfl
    ⟨_, _, _, _, _, _, _, rfl, hX, (HS.out.1.put3 1 rfl (.bool nx) (.slice ox lx cx) (.slice px mx kx)).below⟩
  ·
   obtain ⟨j, rfl⟩ : ∃ j, k = j + 1 := ⟨k - 1, by omega⟩
   have hki : ((j + 1 : Nat) : Int) - 1 = (j : Int) := by omega
   rw [hki]
   have hjp : j < p.length := by rw [← HR.out.2.2.2.1]; omega
   obtain ⟨bb, off, n3, o3, l3, c3, rfl, f0, f1, hi3⟩ := HR.out.1.at (show j < len by omega)
   have HP : Hid (∀ w', Below w.heap.size w w' → w'.cell? ⟨bb, off + j * 2, none⟩ = some (.bool n3) ∧ w'.cell? ⟨bb, off + j * 2 + 1, none⟩ = some (.slice o3 l3 c3) ∧ IntAt w' n3 o3 l3 c3 (dig p j)) := fun w' hb => ⟨(hb.cell (p := ⟨bb, off + j * 2, none⟩) (cell_lt f0)).trans f0, (hb.cell (p := ⟨bb, off + j * 2 + 1, none⟩) (cell_lt f1)).trans f1, hi3.later hb⟩
   have HZ : Hid (Sz (evQ (p.drop (j + 1)) a) 1000) := (HSZ.out (j + 1)).mono (by decide)
   have HZ2 : Hid (Sz (evQ (p.drop (j + 1)) a * a) 1000 ∧ Sz ((dig p j : Int) : Rat) 1000 ∧ evQ (p.drop (j + 1)) a * a + ((dig p j : Int) : Rat) = evQ (p.drop j) a) := by
    refine ⟨((HSZ.out (j + 1)).mul HR.out.2.2.1).mono (by decide), ⟨?_, ?_⟩, evQ_drop p a j hjp⟩
    ·
     exact Nat.le_trans (HR.out.2.2.2.2 j) (by decide)
    ·
     show (mag 1).length ≤ 1000; decide
   have HJ : Hid (j + 1 ≤ len ∧ j < p.length) := ⟨hk, hjp⟩
   have z1 : (0 : Int) ≤ (j : Int) := by omega
   have z2 : (j : Int) < (len : Int) := by omega
   clear hi3 f0 f1 hk0 hki hjp hk
   go_wp2
   refine wp_region_noPanic ?_
   refine HeldT.start (S := fun w' => (w'.cell? ⟨r5, 0, none⟩ = some (.bool nx) ∧ w'.cell? ⟨r5, 1, none⟩ = some (.slice ox lx cx) ∧ w'.cell? ⟨r5, 2, none⟩ = some (.slice px mx kx) ∧ w'.cell? ⟨w.heap.size, 0, none⟩ = some (.bool na) ∧ w'.cell? ⟨w.heap.size, 1, none⟩ = some (.slice o1 l1 c1) ∧ w'.cell? ⟨w.heap.size, 2, none⟩ = some (.slice o2 l2 c2) ∧ w'.cell? ⟨bb, off + j * 2, none⟩ = some (.bool n3) ∧ w'.cell? ⟨bb, off + j * 2 + 1, none⟩ = some (.slice o3 l3 c3))) [9] (by kernel_rfl) (by (try dsimp only); exact (show _ from ⟨(HS.out.1.later (Below.refl _ _).drew).cell 0 0 rfl rfl, (HS.out.1.later (Below.refl _ _).drew).cell 0 1 rfl rfl, (HS.out.1.later (Below.refl _ _).drew).cell 0 2 rfl rfl, (HS.out.1.later (Below.refl _ _).drew).cell 2 0 rfl rfl, (HS.out.1.later (Below.refl _ _).drew).cell 2 1 rfl rfl, (HS.out.1.later (Below.refl _ _).drew).cell 2 2 rfl rfl, (HP.out _ (HS.out.1.later (Below.refl _ _).drew).below).1, (HP.out _ (HS.out.1.later (Below.refl _ _).drew).below).2.1⟩)) (fun hHeld => ?_)
   refine HeldT.take (i := 0) (oi := Oper.mk (some 15) _ _ _ _ _) (v := ?_) rfl (by decide +kernel) (by decide +kernel) (by decide +kernel) (by decide +kernel) (fun _ _ _ h => h) (Or.inl ⟨by rfl, ?_⟩) (by assumption) ?_
   rotate_left
   ·
    (intro w hSw; (try dsimp only at hSw); go_simp <;> (try with_reducible rfl))
   (try simp only [Act.put, List.setIfInBounds_toArray, List.set_cons_zero, List.set_cons_succ])
   refine HeldT.take (i := 1) (oi := Oper.mk (some 16) _ _ _ _ _) (v := ?_) rfl (by decide +kernel) (by decide +kernel) (by decide +kernel) (by decide +kernel) (fun _ _ _ h => h) (Or.inl ⟨by rfl, ?_⟩) (by assumption) ?_
   rotate_left
   ·
    (intro w hSw; (try dsimp only at hSw); go_simp <;> (try with_reducible rfl))
   (try simp only [Act.put, List.setIfInBounds_toArray, List.set_cons_zero, List.set_cons_succ])
   refine HeldT.take (i := 3) (oi := Oper.mk (some 18) _ _ _ _ _) (v := ?_) rfl (by decide +kernel) (by decide +kernel) (by decide +kernel) (by decide +kernel) (fun _ _ _ h => h) (Or.inl ⟨by rfl, ?_⟩) (by assumption) ?_
   rotate_left
   ·
    (intro w hSw; (try dsimp only at hSw); go_simp <;> (try with_reducible rfl))
   (try simp only [Act.put, List.setIfInBounds_toArray, List.set_cons_zero, List.set_cons_succ])
   refine HeldT.take (i := 4) (oi := Oper.mk (some 19) _ _ _ _ _) (v := ?_) rfl (by decide +kernel) (by decide +kernel) (by decide +kernel) (by decide +kernel) (fun _ _ _ h => h) (Or.inl ⟨by rfl, ?_⟩) (by assumption) ?_
   rotate_left
   ·
    (intro w hSw; (try dsimp only at hSw); go_simp <;> (try with_reducible rfl))
   (try simp only [Act.put, List.setIfInBounds_toArray, List.set_cons_zero, List.set_cons_succ])
   refine HeldT.take (i := 5) (oi := Oper.mk (some 20) _ _ _ _ _) (v := ?_) rfl (by decide +kernel) (by decide +kernel) (by decide +kernel) (by decide +kernel) (fun _ _ _ h => h) (Or.inl ⟨by rfl, ?_⟩) (by assumption) ?_
   rotate_left
   ·
    (intro w hSw; (try dsimp only at hSw); go_simp <;> (try with_reducible rfl))
   (try simp only [Act.put, List.setIfInBounds_toArray, List.set_cons_zero, List.set_cons_succ])
   refine HeldT.take (i := 6) (oi := Oper.mk (some 21) _ _ _ _ _) (v := ?_) rfl (by decide +kernel) (by decide +kernel) (by decide +kernel) (by decide +kernel) (fun _ _ _ h => h) (Or.inl ⟨by rfl, ?_⟩) (by assumption) ?_
   rotate_left
   ·
    (intro w hSw; (try dsimp only at hSw); go_simp <;> (try with_reducible rfl))
   (try simp only [Act.put, List.setIfInBounds_toArray, List.set_cons_zero, List.set_cons_succ])
   refine HeldT.ready (rs := [2]) (by decide +kernel) (by simp) ?_
   refine AllT.cons (o := Oper.mk (some 17) _ _ _ _ _) rfl (fun K hK => ?_) AllT.nil
   go_simp
   (go_at_call 36; refine (qtimes_any nx na ox px o1 o2 lx cx mx kx l1 c1 l2 c2 (evQ (p.drop (j + 1)) a) a _ (HS.out.2.later (Below.refl _ _).drew) ((HR.out.2.1.later HS.out.1.below).later (Below.refl _ _).drew) HZ.out (HR.out.2.2.1.mono (by decide))).mono ?_; rintro e y1 ⟨n5, o5, l5, c5, p5, m5, k5, rfl, h5, hb⟩; have H1 : Hid (Vars w y1 [(r5, [.bool nx, .slice ox lx cx, .slice px mx kx]), (w.heap.size + 1, [.bool false, .slice none 0 0, .slice none 0 0]), (w.heap.size, [.bool na, .slice o1 l1 c1, .slice o2 l2 c2])] ∧ RatAt y1 n5 o5 l5 c5 p5 m5 k5 (evQ (p.drop (j + 1)) a * a)) := ⟨(HS.out.1.later (Below.refl _ _).drew).later hb, h5⟩; clear h5 hb)
   (try go_wp2_with fail)
   clear hHeld
   refine hK.out _ _ (by (try dsimp only); exact ⟨(H1.out.1).cell 0 0 rfl rfl, (H1.out.1).cell 0 1 rfl rfl, (H1.out.1).cell 0 2 rfl rfl, (H1.out.1).cell 2 0 rfl rfl, (H1.out.1).cell 2 1 rfl rfl, (H1.out.1).cell 2 2 rfl rfl, (HP.out _ (H1.out.1).below).1, (HP.out _ (H1.out.1).below).2.1⟩) (fun hHeld => ?_)
   clear hK K
   (try simp only [Act.put, List.setIfInBounds_toArray, List.set_cons_zero, List.set_cons_succ])
   refine HeldT.ready (rs := [7]) (by decide +kernel) (by simp) ?_
   refine AllT.cons (o := Oper.mk (some 22) _ _ _ _ _) rfl (fun K hK => ?_) AllT.nil
   go_simp
   (go_at_call 37; refine (qfrom_any n3 o3 l3 c3 (mag (dig p j).natAbs) _ (HP.out _ H1.out.1.below).2.2.row).mono ?_; rintro e y2 ⟨bo, lb, cb, rfl, _, hq, hb⟩; have H2 : Hid (Vars w y2 [(r5, [.bool nx, .slice ox lx cx, .slice px mx kx]), (w.heap.size + 1, [.bool false, .slice none 0 0, .slice none 0 0]), (w.heap.size, [.bool na, .slice o1 l1 c1, .slice o2 l2 c2])] ∧ RatAt y2 n5 o5 l5 c5 p5 m5 k5 (evQ (p.drop (j + 1)) a * a) ∧ RatAt y2 n3 o3 l3 c3 bo lb cb ((dig p j : Int) : Rat)) := ⟨H1.out.1.later hb, H1.out.2.later hb, from_rat ((HP.out _ H1.out.1.below).2.2.later hb) hq.row⟩; clear hq hb)
   (try go_wp2_with fail)
   clear hHeld
   refine hK.out _ _ (by (try dsimp only); exact ⟨(H2.out.1).cell 0 0 rfl rfl, (H2.out.1).cell 0 1 rfl rfl, (H2.out.1).cell 0 2 rfl rfl, (H2.out.1).cell 2 0 rfl rfl, (H2.out.1).cell 2 1 rfl rfl, (H2.out.1).cell 2 2 rfl rfl, (HP.out _ (H2.out.1).below).1, (HP.out _ (H2.out.1).below).2.1⟩) (fun hHeld => ?_)
   clear hK K
   (try simp only [Act.put, List.setIfInBounds_toArray, List.set_cons_zero, List.set_cons_succ])
   refine HeldT.ready (rs := [8]) (by decide +kernel) (by simp) ?_
   refine AllT.cons (o := Oper.mk (some 23) _ _ _ _ _) rfl (fun K hK => ?_) AllT.nil
   go_simp
   (go_at_call 35; refine (qplus_any n5 n3 o5 p5 o3 bo l5 c5 m5 k5 l3 c3 lb cb (evQ (p.drop (j + 1)) a * a) ((dig p j : Int) : Rat) _ H2.out.2.1 H2.out.2.2 HZ2.out.1 HZ2.out.2.1).mono ?_; rw [HZ2.out.2.2]; rintro e y3 ⟨n6, o6, l6, c6, p6, m6, k6, rfl, h6, hb⟩; have H3 : Hid (Vars w y3 [(r5, [.bool nx, .slice ox lx cx, .slice px mx kx]), (w.heap.size + 1, [.bool false, .slice none 0 0, .slice none 0 0]), (w.heap.size, [.bool na, .slice o1 l1 c1, .slice o2 l2 c2])] ∧ RatAt y3 n6 o6 l6 c6 p6 m6 k6 (evQ (p.drop j) a)) := ⟨H2.out.1.later hb, h6⟩; clear h6 hb)
   (try go_wp2_with fail)
   clear hHeld
   refine hK.out _ _ (by (try dsimp only); exact ⟨(H3.out.1).cell 0 0 rfl rfl, (H3.out.1).cell 0 1 rfl rfl, (H3.out.1).cell 0 2 rfl rfl, (H3.out.1).cell 2 0 rfl rfl, (H3.out.1).cell 2 1 rfl rfl, (H3.out.1).cell 2 2 rfl rfl, (HP.out _ (H3.out.1).below).1, (HP.out _ (H3.out.1).below).2.1⟩) (fun hHeld => ?_)
   clear hK K
   (try simp only [Act.put, List.setIfInBounds_toArray, List.set_cons_zero, List.set_cons_succ])
   have u0 := H3.out.1.cell 0 0 rfl rfl
   have u1 := H3.out.1.cell 0 1 rfl rfl
   have u2 := H3.out.1.cell 0 2 rfl rfl
   have uf := H3.out.1.soft 0 rfl
   clear hHeld
   refine HeldT.ready (rs := [9]) (by decide +kernel) (by simp) ?_
   refine AllT.store (o := Oper.mk none _ _ _ _ _) rfl (by decide +kernel) (fun K hK => ?_) AllT.nil
   go_simp
   refine hK.out _ _ ?_
   clear hK K
   (try simp only [Act.put, List.setIfInBounds_toArray, List.set_cons_zero, List.set_cons_succ])
   refine HeldT.done (by decide +kernel) ?_ _
   refine NoPanic.normal ?_
   go_wp2
   go_roundw
   case rel => exact ⟨j, by have := HJ.out.1; omega, by go_num, n6, o6, l6, c6, p6, m6, k6, H3.out.1.put3 0 rfl (.bool n6) (.slice o6 l6 c6) (.slice p6 m6 k6), H3.out.2.setThree (H3.out.1.box 0 _ _ rfl).1 (.bool n6) (.slice o6 l6 c6) (.slice p6 m6 k6)⟩
   case measure => simp [intOf]
end Go.Proofs.YthjkdnlbdhhmbaaGreatDoor
