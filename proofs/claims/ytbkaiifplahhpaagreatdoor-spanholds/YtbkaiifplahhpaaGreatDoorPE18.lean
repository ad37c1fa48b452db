/-
  A pack of walks and facts: TF.
-/
import Derived.Test.YtbkaiifplahhpaaGreatDoorPE17
set_option maxRecDepth 100000
set_option maxHeartbeats 40000000
set_option linter.unusedVariables false
set_option linter.unusedSimpArgs false
namespace Go.Proofs.YtbkaiifplahhpaaGreatDoor
open Go.RowKit
def loK (x : Nat → Rat) : Nat → Rat
 | 0 => x 0
 | k + 1 => minQ (loK x k) (x k)
def hiK (x : Nat → Rat) : Nat → Rat
 | 0 => x 0
 | k + 1 => maxQ (hiK x k) (x k)
theorem loK_sz {x : Nat → Rat} {n : Nat} (h : ∀ i, i < 4 → Sz (x i) n) : ∀ k, k ≤ 4 → Sz (loK x k) n
 | 0, _ => h 0 (by decide)
 | k + 1, hk => (loK_sz h k (by omega)).min (h k (by omega))
theorem hiK_sz {x : Nat → Rat} {n : Nat} (h : ∀ i, i < 4 → Sz (x i) n) : ∀ k, k ≤ 4 → Sz (hiK x k) n
 | 0, _ => h 0 (by decide)
 | k + 1, hk => (hiK_sz h k (by omega)).max (h k (by omega))
theorem sround_any (n1 n2 n3 n4 : Bool) (o1 p1 o2 p2 o3 p3 o4 p4 : Option Addr) (l1 c1 m1 k1 l2 c2 m2 k2 l3 c3 m3 k3 l4 c4 m4 k4 : Nat) (x : Nat → Rat) (w : World) (hx1 : RatAt w n1 o1 l1 c1 p1 m1 k1 (x 0)) (hx2 : RatAt w n2 o2 l2 c2 p2 m2 k2 (x 1)) (hx3 : RatAt w n3 o3 l3 c3 p3 m3 k3 (x 2)) (hx4 : RatAt w n4 o4 l4 c4 p4 m4 k4 (x 3)) (hs : ∀ i, i < 4 → Sz (x i) 10000) (hT0 : TabAt 0 Lib.deBruijn64tab w) :
  Calls Tryz.prog 47 #[.agg #[.bool n1, .slice o1 l1 c1, .slice p1 m1 k1, .bool n2, .slice o2 l2 c2, .slice p2 m2 k2, .bool n3, .slice o3 l3 c3, .slice p3 m3 k3, .bool n4, .slice o4 l4 c4, .slice p4 m4 k4]] w fun e w' => SpOut w w' e (loK x 4) (hiK x 4) := by
 obtain ⟨W, hW, hsz, hbW, hA, hR⟩ := enter2 w [.bool n1, .slice o1 l1 c1, .slice p1 m1 k1, .bool n2, .slice o2 l2 c2, .slice p2 m2 k2, .bool n3, .slice o3 l3 c3, .slice p3 m3 k3, .bool n4, .slice o4 l4 c4, .slice p4 m4 k4] [.bool false, .slice none 0 0, .slice none 0 0, .bool false, .slice none 0 0, .slice none 0 0] 74 30
 have HX : Hid ((RatAt W n1 o1 l1 c1 p1 m1 k1 (x 0) ∧ RatAt W n2 o2 l2 c2 p2 m2 k2 (x 1) ∧ RatAt W n3 o3 l3 c3 p3 m3 k3 (x 2) ∧ RatAt W n4 o4 l4 c4 p4 m4 k4 (x 3)) ∧ TabAt 0 Lib.deBruijn64tab W) := ⟨⟨hx1.later hbW, hx2.later hbW, hx3.later hbW, hx4.later hbW⟩, tab_later hT0 hbW⟩
 have HS : Hid ((∀ k, k ≤ 4 → Sz (loK x k) 10000 ∧ Sz (hiK x k) 10000) ∧ ∀ i, i < 4 → Sz (x i) 10000) := ⟨fun k h => ⟨loK_sz hs k h, hiK_sz hs k h⟩, hs⟩
 have KW : Hid (∀ w' : World, Below W.heap.size W w' → w'.cell? ⟨w.heap.size, 0, none⟩ = some (.bool n1) ∧ w'.cell? ⟨w.heap.size, 1, none⟩ = some (.slice o1 l1 c1) ∧ w'.cell? ⟨w.heap.size, 2, none⟩ = some (.slice p1 m1 k1)) := fun w' h => ⟨(hA.later h (by omega)).1 0 _ rfl, (hA.later h (by omega)).1 1 _ rfl, (hA.later h (by omega)).1 2 _ rfl⟩
 clear hx1 hx2 hx3 hx4 hs hT0
 go_enter Tryz.func47, Tryz.ntmps47
 go_upto_region 1 with fail
 rw [← hW]
 clear hW
 go_cut [3, 4] (fun s3 s4 wx => ∃ r3 r4, s3 = .pointer (some ⟨r3, 0, none⟩) ∧ s4 = .pointer (some ⟨r4, 0, none⟩) ∧ Bx wx r3 [.bool n1, .slice o1 l1 c1, .slice p1 m1 k1] ∧ Bx wx r4 [.bool n1, .slice o1 l1 c1, .slice p1 m1 k1] ∧ r3 ≠ r4 ∧ W.heap.size ≤ r3 ∧ W.heap.size ≤ r4 ∧ Below W.heap.size W wx)
 case first =>
  refine wp_region_noPanic ?_
  have hbV : Below W.heap.size W W.drew := ((Below.refl _ _)).drew
  refine wp_region_held_drew (S := fun w' => (w'.cell? ⟨w.heap.size, 0, none⟩ = some (.bool n1) ∧ w'.cell? ⟨w.heap.size, 1, none⟩ = some (.slice o1 l1 c1) ∧ w'.cell? ⟨w.heap.size, 2, none⟩ = some (.slice p1 m1 k1))) (by kernel_rfl) (by (try dsimp only); exact KW.out _ hbV) (fun hHeld => ?_)
  clear hHeld
  generalize W.drew = V at *
  have hHeld : V.cell? ⟨w.heap.size, 0, none⟩ = some (.bool n1) ∧ V.cell? ⟨w.heap.size, 1, none⟩ = some (.slice o1 l1 c1) ∧ V.cell? ⟨w.heap.size, 2, none⟩ = some (.slice p1 m1 k1) := KW.out _ hbV
  all_goals (
   refine wpAnyH_take (i := 0) (oi := Oper.mk (some 7) _ _ _ _ _) (v := ?_) rfl (by kernel_rfl) (by kernel_rfl) (by kernel_rfl) (fun _ _ _ h => h) (Or.inl ⟨by rfl, ?_⟩) (by assumption) ?_
   rotate_left
   ·
    (intro w hSw; (try dsimp only at hSw); go_simp <;> (try with_reducible rfl))
   (try simp only [Act.put, List.setIfInBounds_toArray, List.set_cons_zero, List.set_cons_succ]))
  all_goals (
   refine wpAnyH_take (i := 1) (oi := Oper.mk (some 8) _ _ _ _ _) (v := ?_) rfl (by kernel_rfl) (by kernel_rfl) (by kernel_rfl) (fun _ _ _ h => h) (Or.inl ⟨by rfl, ?_⟩) (by assumption) ?_
   rotate_left
   ·
    (intro w hSw; (try dsimp only at hSw); go_simp <;> (try with_reducible rfl))
   (try simp only [Act.put, List.setIfInBounds_toArray, List.set_cons_zero, List.set_cons_succ]))
  all_goals (
   refine wpAnyH_take (i := 2) (oi := Oper.mk (some 9) _ _ _ _ _) (v := ?_) rfl (by kernel_rfl) (by kernel_rfl) (by kernel_rfl) (fun _ _ _ h => h) (Or.inl ⟨by rfl, ?_⟩) (by assumption) ?_
   rotate_left
   ·
    (intro w hSw; (try dsimp only at hSw); go_simp <;> (try with_reducible rfl))
   (try simp only [Act.put, List.setIfInBounds_toArray, List.set_cons_zero, List.set_cons_succ]))
  all_goals (
   refine wpAnyH_take (i := 3) (oi := Oper.mk (some 10) _ _ _ _ _) (v := ?_) rfl (by kernel_rfl) (by kernel_rfl) (by kernel_rfl) (fun _ _ _ h => h) (Or.inl ⟨by rfl, ?_⟩) (by assumption) ?_
   rotate_left
   ·
    (intro w hSw; (try dsimp only at hSw); go_simp <;> (try with_reducible rfl))
   (try simp only [Act.put, List.setIfInBounds_toArray, List.set_cons_zero, List.set_cons_succ]))
  all_goals repeat' (first
   | (have _g := FA; clear _g; have _g := FB; clear _g; refine wpAnyH_ready (rs := [6]) (by kernel_rfl) (by simp) ?_; refine (AllReadyH.cons (o := Oper.mk none _ _ _ _ _) rfl (fun K hK => ?_) AllReadyH.nil))
   | ((fail_if_success (have _g := FA)); have _g := FB; clear _g; refine wpAnyH_ready (rs := [4]) (by kernel_rfl) (by simp) ?_; refine (AllReadyH.cons (o := Oper.mk (some 3) _ _ _ _ _) rfl (fun K hK => ?_) AllReadyH.nil); (go_simp; clear hHeld; have hst : Below V.heap.size V (V.alloc (.cells #[.bool false, .slice none 0 0, .slice none 0 0] 28)) := (Below.refl _ _).alloc (Nat.le_refl _) _; have FA : Hid (Bx (V.alloc (.cells #[.bool false, .slice none 0 0, .slice none 0 0] 28)) V.heap.size [.bool false, .slice none 0 0, .slice none 0 0]) := Bx.new _ _ _; obtain ⟨rA, hrA⟩ : ∃ r, r = V.heap.size := ⟨_, rfl⟩; have hzA : W.heap.size ≤ rA := (by rw [hrA]; exact hbV.size); (try (have hAB : rA ≠ rB := (by have q := FB.out.lt; omega))); (try replace FB : Hid (Bx (V.alloc (.cells #[.bool false, .slice none 0 0, .slice none 0 0] 28)) rB [.bool false, .slice none 0 0, .slice none 0 0]) := FB.out.later hst FB.out.lt); replace hbV : Below W.heap.size W (V.alloc (.cells #[.bool false, .slice none 0 0, .slice none 0 0] 28)) := below_alloc hbV (Nat.le_refl _); clear hst; refine hK.out _ _ (by (try dsimp only); exact KW.out _ hbV) (fun hHeld => ?_); clear hK K hHeld; (try simp only [Act.put, List.setIfInBounds_toArray, List.set_cons_zero, List.set_cons_succ]); rw [← hrA] at FA ⊢; clear hrA; generalize V.alloc (.cells #[.bool false, .slice none 0 0, .slice none 0 0] 28) = V at *; have hHeld : V.cell? ⟨w.heap.size, 0, none⟩ = some (.bool n1) ∧ V.cell? ⟨w.heap.size, 1, none⟩ = some (.slice o1 l1 c1) ∧ V.cell? ⟨w.heap.size, 2, none⟩ = some (.slice p1 m1 k1) := KW.out _ hbV))
   | (have _g := FA; clear _g; (fail_if_success (have _g := FB)); refine wpAnyH_ready (rs := [5]) (by kernel_rfl) (by simp) ?_; refine (AllReadyH.cons (o := Oper.mk (some 4) _ _ _ _ _) rfl (fun K hK => ?_) AllReadyH.nil); (go_simp; clear hHeld; have hst : Below V.heap.size V (V.alloc (.cells #[.bool false, .slice none 0 0, .slice none 0 0] 28)) := (Below.refl _ _).alloc (Nat.le_refl _) _; have FB : Hid (Bx (V.alloc (.cells #[.bool false, .slice none 0 0, .slice none 0 0] 28)) V.heap.size [.bool false, .slice none 0 0, .slice none 0 0]) := Bx.new _ _ _; obtain ⟨rB, hrB⟩ : ∃ r, r = V.heap.size := ⟨_, rfl⟩; have hzB : W.heap.size ≤ rB := (by rw [hrB]; exact hbV.size); (try (have hAB : rA ≠ rB := (by have q := FA.out.lt; omega))); (try replace FA : Hid (Bx (V.alloc (.cells #[.bool false, .slice none 0 0, .slice none 0 0] 28)) rA [.bool false, .slice none 0 0, .slice none 0 0]) := FA.out.later hst FA.out.lt); replace hbV : Below W.heap.size W (V.alloc (.cells #[.bool false, .slice none 0 0, .slice none 0 0] 28)) := below_alloc hbV (Nat.le_refl _); clear hst; refine hK.out _ _ (by (try dsimp only); exact KW.out _ hbV) (fun hHeld => ?_); clear hK K hHeld; (try simp only [Act.put, List.setIfInBounds_toArray, List.set_cons_zero, List.set_cons_succ]); rw [← hrB] at FB ⊢; clear hrB; generalize V.alloc (.cells #[.bool false, .slice none 0 0, .slice none 0 0] 28) = V at *; have hHeld : V.cell? ⟨w.heap.size, 0, none⟩ = some (.bool n1) ∧ V.cell? ⟨w.heap.size, 1, none⟩ = some (.slice o1 l1 c1) ∧ V.cell? ⟨w.heap.size, 2, none⟩ = some (.slice p1 m1 k1) := KW.out _ hbV))
   | ((fail_if_success (have _g := FA)); (fail_if_success (have _g := FB)); refine wpAnyH_ready (rs := [4, 5]) (by kernel_rfl) (by simp) ?_; refine (AllReadyH.cons (o := Oper.mk (some 3) _ _ _ _ _) rfl (fun K hK => ?_) (AllReadyH.cons (o := Oper.mk (some 4) _ _ _ _ _) rfl (fun K hK => ?_) AllReadyH.nil)); (go_simp; clear hHeld; have hst : Below V.heap.size V (V.alloc (.cells #[.bool false, .slice none 0 0, .slice none 0 0] 28)) := (Below.refl _ _).alloc (Nat.le_refl _) _; have FA : Hid (Bx (V.alloc (.cells #[.bool false, .slice none 0 0, .slice none 0 0] 28)) V.heap.size [.bool false, .slice none 0 0, .slice none 0 0]) := Bx.new _ _ _; obtain ⟨rA, hrA⟩ : ∃ r, r = V.heap.size := ⟨_, rfl⟩; have hzA : W.heap.size ≤ rA := (by rw [hrA]; exact hbV.size); (try (have hAB : rA ≠ rB := (by have q := FB.out.lt; omega))); (try replace FB : Hid (Bx (V.alloc (.cells #[.bool false, .slice none 0 0, .slice none 0 0] 28)) rB [.bool false, .slice none 0 0, .slice none 0 0]) := FB.out.later hst FB.out.lt); replace hbV : Below W.heap.size W (V.alloc (.cells #[.bool false, .slice none 0 0, .slice none 0 0] 28)) := below_alloc hbV (Nat.le_refl _); clear hst; refine hK.out _ _ (by (try dsimp only); exact KW.out _ hbV) (fun hHeld => ?_); clear hK K hHeld; (try simp only [Act.put, List.setIfInBounds_toArray, List.set_cons_zero, List.set_cons_succ]); rw [← hrA] at FA ⊢; clear hrA; generalize V.alloc (.cells #[.bool false, .slice none 0 0, .slice none 0 0] 28) = V at *; have hHeld : V.cell? ⟨w.heap.size, 0, none⟩ = some (.bool n1) ∧ V.cell? ⟨w.heap.size, 1, none⟩ = some (.slice o1 l1 c1) ∧ V.cell? ⟨w.heap.size, 2, none⟩ = some (.slice p1 m1 k1) := KW.out _ hbV); rotate_left; (go_simp; clear hHeld; have hst : Below V.heap.size V (V.alloc (.cells #[.bool false, .slice none 0 0, .slice none 0 0] 28)) := (Below.refl _ _).alloc (Nat.le_refl _) _; have FB : Hid (Bx (V.alloc (.cells #[.bool false, .slice none 0 0, .slice none 0 0] 28)) V.heap.size [.bool false, .slice none 0 0, .slice none 0 0]) := Bx.new _ _ _; obtain ⟨rB, hrB⟩ : ∃ r, r = V.heap.size := ⟨_, rfl⟩; have hzB : W.heap.size ≤ rB := (by rw [hrB]; exact hbV.size); (try (have hAB : rA ≠ rB := (by have q := FA.out.lt; omega))); (try replace FA : Hid (Bx (V.alloc (.cells #[.bool false, .slice none 0 0, .slice none 0 0] 28)) rA [.bool false, .slice none 0 0, .slice none 0 0]) := FA.out.later hst FA.out.lt); replace hbV : Below W.heap.size W (V.alloc (.cells #[.bool false, .slice none 0 0, .slice none 0 0] 28)) := below_alloc hbV (Nat.le_refl _); clear hst; refine hK.out _ _ (by (try dsimp only); exact KW.out _ hbV) (fun hHeld => ?_); clear hK K hHeld; (try simp only [Act.put, List.setIfInBounds_toArray, List.set_cons_zero, List.set_cons_succ]); rw [← hrB] at FB ⊢; clear hrB; generalize V.alloc (.cells #[.bool false, .slice none 0 0, .slice none 0 0] 28) = V at *; have hHeld : V.cell? ⟨w.heap.size, 0, none⟩ = some (.bool n1) ∧ V.cell? ⟨w.heap.size, 1, none⟩ = some (.slice o1 l1 c1) ∧ V.cell? ⟨w.heap.size, 2, none⟩ = some (.slice p1 m1 k1) := KW.out _ hbV); rotate_left))
  all_goals (have bf := FA.out.2; have b0 := FA.out.1 0 _ rfl; have b1 := FA.out.1 1 _ rfl; have b2 := FA.out.1 2 _ rfl; go_simp; clear hHeld bf b0 b1 b2; (try replace FB : Hid (Bx (((V.setCell ⟨rA, 0, none⟩ (.bool n1)).setCell ⟨rA, 1, none⟩ (.slice o1 l1 c1)).setCell ⟨rA, 2, none⟩ (.slice p1 m1 k1)) rB [.bool false, .slice none 0 0, .slice none 0 0]) := FB.out.off (ws := [.bool n1, .slice o1 l1 c1, .slice p1 m1 k1]) (by first | assumption | exact Ne.symm (by assumption) | omega) 0); have BA : Hid (Bx (((V.setCell ⟨rA, 0, none⟩ (.bool n1)).setCell ⟨rA, 1, none⟩ (.slice o1 l1 c1)).setCell ⟨rA, 2, none⟩ (.slice p1 m1 k1)) rA [.bool n1, .slice o1 l1 c1, .slice p1 m1 k1]) := FA.out.put (ws := [.bool n1, .slice o1 l1 c1, .slice p1 m1 k1]) rfl; clear FA; replace hbV : Below W.heap.size W (((V.setCell ⟨rA, 0, none⟩ (.bool n1)).setCell ⟨rA, 1, none⟩ (.slice o1 l1 c1)).setCell ⟨rA, 2, none⟩ (.slice p1 m1 k1)) := putl_below hzA [.bool n1, .slice o1 l1 c1, .slice p1 m1 k1] 0 _ hbV; refine hK.out _ _ (by (try dsimp only); exact KW.out _ hbV) (fun hHeld => ?_); clear hK K hHeld; (try simp only [Act.put, List.setIfInBounds_toArray, List.set_cons_zero, List.set_cons_succ]); generalize (((V.setCell ⟨rA, 0, none⟩ (.bool n1)).setCell ⟨rA, 1, none⟩ (.slice o1 l1 c1)).setCell ⟨rA, 2, none⟩ (.slice p1 m1 k1)) = V at *; have hHeld : V.cell? ⟨w.heap.size, 0, none⟩ = some (.bool n1) ∧ V.cell? ⟨w.heap.size, 1, none⟩ = some (.slice o1 l1 c1) ∧ V.cell? ⟨w.heap.size, 2, none⟩ = some (.slice p1 m1 k1) := KW.out _ hbV)
  all_goals repeat' (first
   | (have _g := FB; clear _g; refine wpAnyH_ready (rs := [7]) (by kernel_rfl) (by simp) ?_; refine (AllReadyH.cons (o := Oper.mk none _ _ _ _ _) rfl (fun K hK => ?_) AllReadyH.nil))
   | ((fail_if_success (have _g := FB)); refine wpAnyH_ready (rs := [5]) (by kernel_rfl) (by simp) ?_; refine (AllReadyH.cons (o := Oper.mk (some 4) _ _ _ _ _) rfl (fun K hK => ?_) AllReadyH.nil); (go_simp; clear hHeld; have hst : Below V.heap.size V (V.alloc (.cells #[.bool false, .slice none 0 0, .slice none 0 0] 28)) := (Below.refl _ _).alloc (Nat.le_refl _) _; have FB : Hid (Bx (V.alloc (.cells #[.bool false, .slice none 0 0, .slice none 0 0] 28)) V.heap.size [.bool false, .slice none 0 0, .slice none 0 0]) := Bx.new _ _ _; obtain ⟨rB, hrB⟩ : ∃ r, r = V.heap.size := ⟨_, rfl⟩; have hzB : W.heap.size ≤ rB := (by rw [hrB]; exact hbV.size); have hBBA : rB ≠ rA := (by have q := BA.out.lt; omega); replace BA : Hid (Bx (V.alloc (.cells #[.bool false, .slice none 0 0, .slice none 0 0] 28)) rA [.bool n1, .slice o1 l1 c1, .slice p1 m1 k1]) := BA.out.later hst BA.out.lt; replace hbV : Below W.heap.size W (V.alloc (.cells #[.bool false, .slice none 0 0, .slice none 0 0] 28)) := below_alloc hbV (Nat.le_refl _); clear hst; refine hK.out _ _ (by (try dsimp only); exact KW.out _ hbV) (fun hHeld => ?_); clear hK K hHeld; (try simp only [Act.put, List.setIfInBounds_toArray, List.set_cons_zero, List.set_cons_succ]); rw [← hrB] at FB ⊢; clear hrB; generalize V.alloc (.cells #[.bool false, .slice none 0 0, .slice none 0 0] 28) = V at *; have hHeld : V.cell? ⟨w.heap.size, 0, none⟩ = some (.bool n1) ∧ V.cell? ⟨w.heap.size, 1, none⟩ = some (.slice o1 l1 c1) ∧ V.cell? ⟨w.heap.size, 2, none⟩ = some (.slice p1 m1 k1) := KW.out _ hbV)))
  all_goals (have bf := FB.out.2; have b0 := FB.out.1 0 _ rfl; have b1 := FB.out.1 1 _ rfl; have b2 := FB.out.1 2 _ rfl; go_simp; clear hHeld bf b0 b1 b2; replace BA : Hid (Bx (((V.setCell ⟨rB, 0, none⟩ (.bool n1)).setCell ⟨rB, 1, none⟩ (.slice o1 l1 c1)).setCell ⟨rB, 2, none⟩ (.slice p1 m1 k1)) rA [.bool n1, .slice o1 l1 c1, .slice p1 m1 k1]) := BA.out.off (ws := [.bool n1, .slice o1 l1 c1, .slice p1 m1 k1]) (by first | assumption | exact Ne.symm (by assumption) | omega) 0; have BB : Hid (Bx (((V.setCell ⟨rB, 0, none⟩ (.bool n1)).setCell ⟨rB, 1, none⟩ (.slice o1 l1 c1)).setCell ⟨rB, 2, none⟩ (.slice p1 m1 k1)) rB [.bool n1, .slice o1 l1 c1, .slice p1 m1 k1]) := FB.out.put (ws := [.bool n1, .slice o1 l1 c1, .slice p1 m1 k1]) rfl; clear FB; replace hbV : Below W.heap.size W (((V.setCell ⟨rB, 0, none⟩ (.bool n1)).setCell ⟨rB, 1, none⟩ (.slice o1 l1 c1)).setCell ⟨rB, 2, none⟩ (.slice p1 m1 k1)) := putl_below hzB [.bool n1, .slice o1 l1 c1, .slice p1 m1 k1] 0 _ hbV; refine hK.out _ _ (by (try dsimp only); exact KW.out _ hbV) (fun hHeld => ?_); clear hK K hHeld; (try simp only [Act.put, List.setIfInBounds_toArray, List.set_cons_zero, List.set_cons_succ]); generalize (((V.setCell ⟨rB, 0, none⟩ (.bool n1)).setCell ⟨rB, 1, none⟩ (.slice o1 l1 c1)).setCell ⟨rB, 2, none⟩ (.slice p1 m1 k1)) = V at *; have hHeld : V.cell? ⟨w.heap.size, 0, none⟩ = some (.bool n1) ∧ V.cell? ⟨w.heap.size, 1, none⟩ = some (.slice o1 l1 c1) ∧ V.cell? ⟨w.heap.size, 2, none⟩ = some (.slice p1 m1 k1) := KW.out _ hbV)
  all_goals (refine wpAnyH_done (by kernel_rfl) ?_ _; refine NoPanic.normal ?_)
  all_goals (go_wp2; go_meet; exact ⟨_, _, rfl, rfl, BA.out, BB.out, hAB, hzA, hzB, hbV⟩)
 case rest =>
  obtain ⟨r3, r4, rfl, rfl, hb3, hb4, h34, hz3, hz4, hbX⟩ := hcut
  obtain ⟨X, hX⟩ : ∃ X, X = wc := ⟨_, rfl⟩
  rw [← hX] at hb3 hb4 hbX
  rw [← hX]
  clear hX
  have H0 : Hid (Bx X r3 [.bool n1, .slice o1 l1 c1, .slice p1 m1 k1] ∧ Bx X r4 [.bool n1, .slice o1 l1 c1, .slice p1 m1 k1] ∧ Below W.heap.size W X) := ⟨hb3, hb4, hbX⟩
  have pA := hA.later hbX (by omega)
  have z0 := pA.1 0 _ rfl; have z1 := pA.1 1 _ rfl; have z2 := pA.1 2 _ rfl; have z3 := pA.1 3 _ rfl; have z4 := pA.1 4 _ rfl; have z5 := pA.1 5 _ rfl; have z6 := pA.1 6 _ rfl; have z7 := pA.1 7 _ rfl; have z8 := pA.1 8 _ rfl; have z9 := pA.1 9 _ rfl; have z10 := pA.1 10 _ rfl; have z11 := pA.1 11 _ rfl
  clear pA hb3 hb4 hbX
  go_wp2
  go_loopw [12] (fun i wr => ∃ k : Nat, ∃ n7 o7 l7 c7 p7 m7 k7 n8 o8 l8 c8 p8 m8 k8, i = .int .i64 (k : Int) ∧ k ≤ 4 ∧ Hid (Bx wr r3 [.bool n7, .slice o7 l7 c7, .slice p7 m7 k7] ∧ Bx wr r4 [.bool n8, .slice o8 l8 c8, .slice p8 m8 k8] ∧ RatAt wr n7 o7 l7 c7 p7 m7 k7 (loK x k) ∧ RatAt wr n8 o8 l8 c8 p8 m8 k8 (hiK x k)) ∧ Below W.heap.size W wr) (fun i _ => 4 - (intOf i).toNat)
  case atStart =>
   exact ⟨0, n1, o1, l1, c1, p1, m1, k1, n1, o1, l1, c1, p1, m1, k1, rfl, by decide, ⟨H0.out.1, H0.out.2.1, HX.out.1.1.later H0.out.2.2, HX.out.1.1.later H0.out.2.2⟩, H0.out.2.2⟩
  case round =>
   obtain ⟨k, n7, o7, l7, c7, p7, m7, k7, n8, o8, l8, c8, p8, m8, k8, rfl, hk, HK, hbr⟩ := hrel
   obtain ⟨Y, hY⟩ : ∃ Y, Y = wr := ⟨_, rfl⟩
   rw [← hY] at HK hbr
   rw [← hY]
   clear hY H0 z0 z1 z2 z3 z4 z5 z6 z7 z8 z9 z10 z11
   by_cases hk4 : k < 4
   ·
    have hk4' : (k : Int) < 4 := by omega
    go_upto_region 4 with fail
    go_cut [6] from 13 to 21 (fun s6 wx => ∃ r6 n9 o9 l9 c9 p9 m9 k9, s6 = .pointer (some ⟨r6, 0, none⟩) ∧ Bx wx r6 [.bool n9, .slice o9 l9 c9, .slice p9 m9 k9] ∧ RatAt wx n9 o9 l9 c9 p9 m9 k9 (x k) ∧ Y.heap.size ≤ r6 ∧ Below Y.heap.size Y wx)
    case first =>
     obtain rfl | rfl | rfl | rfl : k = 0 ∨ k = 1 ∨ k = 2 ∨ k = 3 := by omega
     ·
      have i1 : ∀ w, (Instr.index 74 (.agg #[.bool n1, .slice o1 l1 c1, .slice p1 m1 k1, .bool n2, .slice o2 l2 c2, .slice p2 m2 k2, .bool n3, .slice o3 l3 c3, .slice p3 m3 k3, .bool n4, .slice o4 l4 c4, .slice p4 m4 k4]) (.int .i64 0)).run Tryz.prog w = .ok (.agg #[.bool n1, .slice o1 l1 c1, .slice p1 m1 k1]) w := fun _ => by kernel_rfl
      have i2 : ∀ w, (Instr.index 74 (.agg #[.bool n1, .slice o1 l1 c1, .slice p1 m1 k1, .bool n2, .slice o2 l2 c2, .slice p2 m2 k2, .bool n3, .slice o3 l3 c3, .slice p3 m3 k3, .bool n4, .slice o4 l4 c4, .slice p4 m4 k4]) (.int .i64 ((0 : Nat) : Int))).run Tryz.prog w = .ok (.agg #[.bool n1, .slice o1 l1 c1, .slice p1 m1 k1]) w := fun _ => by kernel_rfl
      go_wp2
      go_meet
      exact ⟨_, _, _, _, _, _, _, _, rfl, Bx.new _ _ _, (HX.out.1.1.later hbr).later ((Below.refl _ _).alloc (Nat.le_refl _) _), Nat.le_refl _, (Below.refl _ _).alloc (Nat.le_refl _) _⟩
     ·
      have i1 : ∀ w, (Instr.index 74 (.agg #[.bool n1, .slice o1 l1 c1, .slice p1 m1 k1, .bool n2, .slice o2 l2 c2, .slice p2 m2 k2, .bool n3, .slice o3 l3 c3, .slice p3 m3 k3, .bool n4, .slice o4 l4 c4, .slice p4 m4 k4]) (.int .i64 1)).run Tryz.prog w = .ok (.agg #[.bool n2, .slice o2 l2 c2, .slice p2 m2 k2]) w := fun _ => by kernel_rfl
      have i2 : ∀ w, (Instr.index 74 (.agg #[.bool n1, .slice o1 l1 c1, .slice p1 m1 k1, .bool n2, .slice o2 l2 c2, .slice p2 m2 k2, .bool n3, .slice o3 l3 c3, .slice p3 m3 k3, .bool n4, .slice o4 l4 c4, .slice p4 m4 k4]) (.int .i64 ((1 : Nat) : Int))).run Tryz.prog w = .ok (.agg #[.bool n2, .slice o2 l2 c2, .slice p2 m2 k2]) w := fun _ => by kernel_rfl
      go_wp2
      go_meet
      exact ⟨_, _, _, _, _, _, _, _, rfl, Bx.new _ _ _, (HX.out.1.2.1.later hbr).later ((Below.refl _ _).alloc (Nat.le_refl _) _), Nat.le_refl _, (Below.refl _ _).alloc (Nat.le_refl _) _⟩
     ·
      have i1 : ∀ w, (Instr.index 74 (.agg #[.bool n1, .slice o1 l1 c1, .slice p1 m1 k1, .bool n2, .slice o2 l2 c2, .slice p2 m2 k2, .bool n3, .slice o3 l3 c3, .slice p3 m3 k3, .bool n4, .slice o4 l4 c4, .slice p4 m4 k4]) (.int .i64 2)).run Tryz.prog w = .ok (.agg #[.bool n3, .slice o3 l3 c3, .slice p3 m3 k3]) w := fun _ => by kernel_rfl
      have i2 : ∀ w, (Instr.index 74 (.agg #[.bool n1, .slice o1 l1 c1, .slice p1 m1 k1, .bool n2, .slice o2 l2 c2, .slice p2 m2 k2, .bool n3, .slice o3 l3 c3, .slice p3 m3 k3, .bool n4, .slice o4 l4 c4, .slice p4 m4 k4]) (.int .i64 ((2 : Nat) : Int))).run Tryz.prog w = .ok (.agg #[.bool n3, .slice o3 l3 c3, .slice p3 m3 k3]) w := fun _ => by kernel_rfl
      go_wp2
      go_meet
      exact ⟨_, _, _, _, _, _, _, _, rfl, Bx.new _ _ _, (HX.out.1.2.2.1.later hbr).later ((Below.refl _ _).alloc (Nat.le_refl _) _), Nat.le_refl _, (Below.refl _ _).alloc (Nat.le_refl _) _⟩
     ·
      have i1 : ∀ w, (Instr.index 74 (.agg #[.bool n1, .slice o1 l1 c1, .slice p1 m1 k1, .bool n2, .slice o2 l2 c2, .slice p2 m2 k2, .bool n3, .slice o3 l3 c3, .slice p3 m3 k3, .bool n4, .slice o4 l4 c4, .slice p4 m4 k4]) (.int .i64 3)).run Tryz.prog w = .ok (.agg #[.bool n4, .slice o4 l4 c4, .slice p4 m4 k4]) w := fun _ => by kernel_rfl
      have i2 : ∀ w, (Instr.index 74 (.agg #[.bool n1, .slice o1 l1 c1, .slice p1 m1 k1, .bool n2, .slice o2 l2 c2, .slice p2 m2 k2, .bool n3, .slice o3 l3 c3, .slice p3 m3 k3, .bool n4, .slice o4 l4 c4, .slice p4 m4 k4]) (.int .i64 ((3 : Nat) : Int))).run Tryz.prog w = .ok (.agg #[.bool n4, .slice o4 l4 c4, .slice p4 m4 k4]) w := fun _ => by kernel_rfl
      go_wp2
      go_meet
      exact ⟨_, _, _, _, _, _, _, _, rfl, Bx.new _ _ _, (HX.out.1.2.2.2.later hbr).later ((Below.refl _ _).alloc (Nat.le_refl _) _), Nat.le_refl _, (Below.refl _ _).alloc (Nat.le_refl _) _⟩
    case rest =>
     obtain ⟨r6, n9, o9, l9, c9, p9, m9, k9, rfl, hb6, h9, hz6, hbY⟩ := hcut
     obtain ⟨Z, hZ⟩ : ∃ Z, Z = wc := ⟨_, rfl⟩
     rw [← hZ] at hb6 h9 hbY
     rw [← hZ]
     clear hZ
     have BA : Hid (Bx Z r3 [.bool n7, .slice o7 l7 c7, .slice p7 m7 k7]) := HK.out.1.later hbY HK.out.1.lt
     have BB : Hid (Bx Z r4 [.bool n8, .slice o8 l8 c8, .slice p8 m8 k8]) := HK.out.2.1.later hbY HK.out.2.1.lt
     have B6 : Hid (Bx Z r6 [.bool n9, .slice o9 l9 c9, .slice p9 m9 k9]) := hb6
     have H7 : Hid (RatAt Z n7 o7 l7 c7 p7 m7 k7 (loK x k)) := HK.out.2.2.1.later hbY
     have H8 : Hid (RatAt Z n8 o8 l8 c8 p8 m8 k8 (hiK x k)) := HK.out.2.2.2.later hbY
     have H9 : Hid (RatAt Z n9 o9 l9 c9 p9 m9 k9 (x k)) := h9
     have h36 : r3 ≠ r6 := by have := HK.out.1.lt; omega
     have h46 : r4 ≠ r6 := by have := HK.out.2.1.lt; omega
     have hbZ := bnext hbr hbY
     clear hb6 h9 HK hbY
     go_upto_region 5 with fail
     refine wp_region_noPanic ?_
     have hbV : Below W.heap.size W Z.drew := (hbZ).drew
     replace BA : Hid (Bx Z.drew r3 [.bool n7, .slice o7 l7 c7, .slice p7 m7 k7]) := BA.out.later (Below.refl _ _).drew BA.out.lt
     replace BB : Hid (Bx Z.drew r4 [.bool n8, .slice o8 l8 c8, .slice p8 m8 k8]) := BB.out.later (Below.refl _ _).drew BB.out.lt
     replace B6 : Hid (Bx Z.drew r6 [.bool n9, .slice o9 l9 c9, .slice p9 m9 k9]) := B6.out.later (Below.refl _ _).drew B6.out.lt
     replace H7 : Hid (RatAt Z.drew n7 o7 l7 c7 p7 m7 k7 (loK x k)) := H7.out.later (Below.refl _ _).drew
     replace H8 : Hid (RatAt Z.drew n8 o8 l8 c8 p8 m8 k8 (hiK x k)) := H8.out.later (Below.refl _ _).drew
     replace H9 : Hid (RatAt Z.drew n9 o9 l9 c9 p9 m9 k9 (x k)) := H9.out.later (Below.refl _ _).drew
     refine wp_region_held_drew (S := fun w' => (w'.cell? ⟨r6, 0, none⟩ = some (.bool n9) ∧ w'.cell? ⟨r6, 1, none⟩ = some (.slice o9 l9 c9) ∧ w'.cell? ⟨r6, 2, none⟩ = some (.slice p9 m9 k9))) (by kernel_rfl) (by (try dsimp only); exact ⟨B6.out.1 0 _ rfl, B6.out.1 1 _ rfl, B6.out.1 2 _ rfl⟩) (fun hHeld => ?_)
     clear hHeld
     generalize Z.drew = V at *
     have hHeld : V.cell? ⟨r6, 0, none⟩ = some (.bool n9) ∧ V.cell? ⟨r6, 1, none⟩ = some (.slice o9 l9 c9) ∧ V.cell? ⟨r6, 2, none⟩ = some (.slice p9 m9 k9) := ⟨B6.out.1 0 _ rfl, B6.out.1 1 _ rfl, B6.out.1 2 _ rfl⟩
     all_goals (
      refine wpAnyH_take (i := 1) (oi := Oper.mk (some 16) _ _ _ _ _) (v := ?_) rfl (by kernel_rfl) (by kernel_rfl) (by kernel_rfl) (fun _ _ _ h => h) (Or.inl ⟨by rfl, ?_⟩) (by assumption) ?_
      rotate_left
      ·
       (intro w hSw; (try dsimp only at hSw); go_simp <;> (try with_reducible rfl))
      (try simp only [Act.put, List.setIfInBounds_toArray, List.set_cons_zero, List.set_cons_succ]))
     all_goals (
      refine wpAnyH_take (i := 4) (oi := Oper.mk (some 19) _ _ _ _ _) (v := ?_) rfl (by kernel_rfl) (by kernel_rfl) (by kernel_rfl) (fun _ _ _ h => h) (Or.inl ⟨by rfl, ?_⟩) (by assumption) ?_
      rotate_left
      ·
       (intro w hSw; (try dsimp only at hSw); go_simp <;> (try with_reducible rfl))
      (try simp only [Act.put, List.setIfInBounds_toArray, List.set_cons_zero, List.set_cons_succ]))
     all_goals repeat' (first
      | (have _g := DA; clear _g; have _g := DB; clear _g; refine wpAnyH_ready (rs := [2]) (by kernel_rfl) (by simp) ?_; refine (AllReadyH.cons (o := Oper.mk (some 17) _ _ _ _ _) rfl (fun K hK => ?_) AllReadyH.nil))
      | ((fail_if_success (have _g := DA)); have _g := DB; clear _g; refine wpAnyH_ready (rs := [0]) (by kernel_rfl) (by simp) ?_; refine (AllReadyH.cons (o := Oper.mk (some 15) _ _ _ _ _) rfl (fun K hK => ?_) AllReadyH.nil); (have b0 := BA.out.1 0 _ rfl; have b1 := BA.out.1 1 _ rfl; have b2 := BA.out.1 2 _ rfl; go_simp; clear hHeld b0 b1 b2; refine hK.out _ _ (by (try dsimp only); exact ⟨B6.out.1 0 _ rfl, B6.out.1 1 _ rfl, B6.out.1 2 _ rfl⟩) (fun hHeld => ?_); clear hK K hHeld; (try simp only [Act.put, List.setIfInBounds_toArray, List.set_cons_zero, List.set_cons_succ]); have hHeld : V.cell? ⟨r6, 0, none⟩ = some (.bool n9) ∧ V.cell? ⟨r6, 1, none⟩ = some (.slice o9 l9 c9) ∧ V.cell? ⟨r6, 2, none⟩ = some (.slice p9 m9 k9) := ⟨B6.out.1 0 _ rfl, B6.out.1 1 _ rfl, B6.out.1 2 _ rfl⟩; have DA : True := trivial))
      | ((fail_if_success (have _g := DA)); (fail_if_success (have _g := DB)); refine wpAnyH_ready (rs := [0, 3]) (by kernel_rfl) (by simp) ?_; refine (AllReadyH.cons (o := Oper.mk (some 15) _ _ _ _ _) rfl (fun K hK => ?_) (AllReadyH.cons (o := Oper.mk (some 18) _ _ _ _ _) rfl (fun K hK => ?_) AllReadyH.nil)); (have b0 := BA.out.1 0 _ rfl; have b1 := BA.out.1 1 _ rfl; have b2 := BA.out.1 2 _ rfl; go_simp; clear hHeld b0 b1 b2; refine hK.out _ _ (by (try dsimp only); exact ⟨B6.out.1 0 _ rfl, B6.out.1 1 _ rfl, B6.out.1 2 _ rfl⟩) (fun hHeld => ?_); clear hK K hHeld; (try simp only [Act.put, List.setIfInBounds_toArray, List.set_cons_zero, List.set_cons_succ]); have hHeld : V.cell? ⟨r6, 0, none⟩ = some (.bool n9) ∧ V.cell? ⟨r6, 1, none⟩ = some (.slice o9 l9 c9) ∧ V.cell? ⟨r6, 2, none⟩ = some (.slice p9 m9 k9) := ⟨B6.out.1 0 _ rfl, B6.out.1 1 _ rfl, B6.out.1 2 _ rfl⟩; have DA : True := trivial); rotate_left; (have b0 := BB.out.1 0 _ rfl; have b1 := BB.out.1 1 _ rfl; have b2 := BB.out.1 2 _ rfl; go_simp; clear hHeld b0 b1 b2; refine hK.out _ _ (by (try dsimp only); exact ⟨B6.out.1 0 _ rfl, B6.out.1 1 _ rfl, B6.out.1 2 _ rfl⟩) (fun hHeld => ?_); clear hK K hHeld; (try simp only [Act.put, List.setIfInBounds_toArray, List.set_cons_zero, List.set_cons_succ]); have hHeld : V.cell? ⟨r6, 0, none⟩ = some (.bool n9) ∧ V.cell? ⟨r6, 1, none⟩ = some (.slice o9 l9 c9) ∧ V.cell? ⟨r6, 2, none⟩ = some (.slice p9 m9 k9) := ⟨B6.out.1 0 _ rfl, B6.out.1 1 _ rfl, B6.out.1 2 _ rfl⟩; have DB : True := trivial); rotate_left)
      | (have _g := DA; clear _g; (fail_if_success (have _g := DB)); refine wpAnyH_ready (rs := [2, 3]) (by kernel_rfl) (by simp) ?_; refine (AllReadyH.cons (o := Oper.mk (some 17) _ _ _ _ _) rfl (fun K hK => ?_) (AllReadyH.cons (o := Oper.mk (some 18) _ _ _ _ _) rfl (fun K hK => ?_) AllReadyH.nil)); rotate_left; (have b0 := BB.out.1 0 _ rfl; have b1 := BB.out.1 1 _ rfl; have b2 := BB.out.1 2 _ rfl; go_simp; clear hHeld b0 b1 b2; refine hK.out _ _ (by (try dsimp only); exact ⟨B6.out.1 0 _ rfl, B6.out.1 1 _ rfl, B6.out.1 2 _ rfl⟩) (fun hHeld => ?_); clear hK K hHeld; (try simp only [Act.put, List.setIfInBounds_toArray, List.set_cons_zero, List.set_cons_succ]); have hHeld : V.cell? ⟨r6, 0, none⟩ = some (.bool n9) ∧ V.cell? ⟨r6, 1, none⟩ = some (.slice o9 l9 c9) ∧ V.cell? ⟨r6, 2, none⟩ = some (.slice p9 m9 k9) := ⟨B6.out.1 0 _ rfl, B6.out.1 1 _ rfl, B6.out.1 2 _ rfl⟩; have DB : True := trivial); rotate_left))
     all_goals (go_simp; (go_at_call 52; refine (sless_any n7 n9 o7 p7 o9 p9 l7 c7 m7 k7 l9 c9 m9 k9 (loK x k) (x k) _ H7.out H9.out (HS.out.1 k hk).1 (HS.out.2 k hk4) (tab_later HX.out.2 hbV)).mono ?_; rintro e V ⟨n10, o10, l10, c10, p10, m10, k10, rfl, hr, hb⟩; have H10 : Hid (RatAt V n10 o10 l10 c10 p10 m10 k10 (loK x (k + 1))) := hr; clear hr; replace BA : Hid (Bx V r3 [.bool n7, .slice o7 l7 c7, .slice p7 m7 k7]) := BA.out.later hb BA.out.lt; replace BB : Hid (Bx V r4 [.bool n8, .slice o8 l8 c8, .slice p8 m8 k8]) := BB.out.later hb BB.out.lt; replace B6 : Hid (Bx V r6 [.bool n9, .slice o9 l9 c9, .slice p9 m9 k9]) := B6.out.later hb B6.out.lt; replace H7 : Hid (RatAt V n7 o7 l7 c7 p7 m7 k7 (loK x k)) := H7.out.later hb; replace H8 : Hid (RatAt V n8 o8 l8 c8 p8 m8 k8 (hiK x k)) := H8.out.later hb; replace H9 : Hid (RatAt V n9 o9 l9 c9 p9 m9 k9 (x k)) := H9.out.later hb; replace hbV : Below W.heap.size W V := bnext hbV hb; clear hb); (try go_wp2_with fail); clear hHeld; refine hK.out _ _ (by (try dsimp only); exact ⟨B6.out.1 0 _ rfl, B6.out.1 1 _ rfl, B6.out.1 2 _ rfl⟩) (fun hHeld => ?_); clear hK K; (try simp only [Act.put, List.setIfInBounds_toArray, List.set_cons_zero, List.set_cons_succ]))
     all_goals repeat' (first
      | (have _g := DA; clear _g; have _g := DB; clear _g; refine wpAnyH_ready (rs := [5]) (by kernel_rfl) (by simp) ?_; refine (AllReadyH.cons (o := Oper.mk (some 20) _ _ _ _ _) rfl (fun K hK => ?_) AllReadyH.nil))
      | (have _g := DA; clear _g; (fail_if_success (have _g := DB)); refine wpAnyH_ready (rs := [3]) (by kernel_rfl) (by simp) ?_; refine (AllReadyH.cons (o := Oper.mk (some 18) _ _ _ _ _) rfl (fun K hK => ?_) AllReadyH.nil); (have b0 := BB.out.1 0 _ rfl; have b1 := BB.out.1 1 _ rfl; have b2 := BB.out.1 2 _ rfl; go_simp; clear hHeld b0 b1 b2; refine hK.out _ _ (by (try dsimp only); exact ⟨B6.out.1 0 _ rfl, B6.out.1 1 _ rfl, B6.out.1 2 _ rfl⟩) (fun hHeld => ?_); clear hK K hHeld; (try simp only [Act.put, List.setIfInBounds_toArray, List.set_cons_zero, List.set_cons_succ]); have hHeld : V.cell? ⟨r6, 0, none⟩ = some (.bool n9) ∧ V.cell? ⟨r6, 1, none⟩ = some (.slice o9 l9 c9) ∧ V.cell? ⟨r6, 2, none⟩ = some (.slice p9 m9 k9) := ⟨B6.out.1 0 _ rfl, B6.out.1 1 _ rfl, B6.out.1 2 _ rfl⟩; have DB : True := trivial)))
     all_goals (go_simp; (go_at_call 51; refine (sgreater_any n8 n9 o8 p8 o9 p9 l8 c8 m8 k8 l9 c9 m9 k9 (hiK x k) (x k) _ H8.out H9.out (HS.out.1 k hk).2 (HS.out.2 k hk4) (tab_later HX.out.2 hbV)).mono ?_; rintro e V ⟨n11, o11, l11, c11, p11, m11, k11, rfl, hr, hb⟩; have H11 : Hid (RatAt V n11 o11 l11 c11 p11 m11 k11 (hiK x (k + 1))) := hr; clear hr; replace BA : Hid (Bx V r3 [.bool n7, .slice o7 l7 c7, .slice p7 m7 k7]) := BA.out.later hb BA.out.lt; replace BB : Hid (Bx V r4 [.bool n8, .slice o8 l8 c8, .slice p8 m8 k8]) := BB.out.later hb BB.out.lt; replace B6 : Hid (Bx V r6 [.bool n9, .slice o9 l9 c9, .slice p9 m9 k9]) := B6.out.later hb B6.out.lt; replace H7 : Hid (RatAt V n7 o7 l7 c7 p7 m7 k7 (loK x k)) := H7.out.later hb; replace H8 : Hid (RatAt V n8 o8 l8 c8 p8 m8 k8 (hiK x k)) := H8.out.later hb; replace H9 : Hid (RatAt V n9 o9 l9 c9 p9 m9 k9 (x k)) := H9.out.later hb; replace H10 : Hid (RatAt V n10 o10 l10 c10 p10 m10 k10 (loK x (k + 1))) := H10.out.later hb; replace hbV : Below W.heap.size W V := bnext hbV hb; clear hb); (try go_wp2_with fail); clear hHeld; refine hK.out _ _ (by (try dsimp only); exact ⟨B6.out.1 0 _ rfl, B6.out.1 1 _ rfl, B6.out.1 2 _ rfl⟩) (fun hHeld => ?_); clear hK K; (try simp only [Act.put, List.setIfInBounds_toArray, List.set_cons_zero, List.set_cons_succ]))
     all_goals repeat' (first
      | (have _g := DA; clear _g; have _g := DB; clear _g; refine wpAnyH_ready (rs := [6]) (by kernel_rfl) (by simp) ?_; refine (AllReadyH.cons (o := Oper.mk none _ _ _ _ _) rfl (fun K hK => ?_) AllReadyH.nil)))
     all_goals (have bf := BA.out.2; have b0 := BA.out.1 0 _ rfl; have b1 := BA.out.1 1 _ rfl; have b2 := BA.out.1 2 _ rfl; go_simp; clear hHeld bf b0 b1 b2; replace BB : Hid (Bx (((V.setCell ⟨r3, 0, none⟩ (.bool n10)).setCell ⟨r3, 1, none⟩ (.slice o10 l10 c10)).setCell ⟨r3, 2, none⟩ (.slice p10 m10 k10)) r4 [.bool n8, .slice o8 l8 c8, .slice p8 m8 k8]) := BB.out.off (ws := [.bool n10, .slice o10 l10 c10, .slice p10 m10 k10]) (by first | assumption | exact Ne.symm (by assumption) | omega) 0; replace B6 : Hid (Bx (((V.setCell ⟨r3, 0, none⟩ (.bool n10)).setCell ⟨r3, 1, none⟩ (.slice o10 l10 c10)).setCell ⟨r3, 2, none⟩ (.slice p10 m10 k10)) r6 [.bool n9, .slice o9 l9 c9, .slice p9 m9 k9]) := B6.out.off (ws := [.bool n10, .slice o10 l10 c10, .slice p10 m10 k10]) (by first | assumption | exact Ne.symm (by assumption) | omega) 0; replace H7 : Hid (RatAt (((V.setCell ⟨r3, 0, none⟩ (.bool n10)).setCell ⟨r3, 1, none⟩ (.slice o10 l10 c10)).setCell ⟨r3, 2, none⟩ (.slice p10 m10 k10)) n7 o7 l7 c7 p7 m7 k7 (loK x k)) := BA.out.rat (by simp [NoWord]) (ws := [.bool n10, .slice o10 l10 c10, .slice p10 m10 k10]) rfl H7.out; replace H8 : Hid (RatAt (((V.setCell ⟨r3, 0, none⟩ (.bool n10)).setCell ⟨r3, 1, none⟩ (.slice o10 l10 c10)).setCell ⟨r3, 2, none⟩ (.slice p10 m10 k10)) n8 o8 l8 c8 p8 m8 k8 (hiK x k)) := BA.out.rat (by simp [NoWord]) (ws := [.bool n10, .slice o10 l10 c10, .slice p10 m10 k10]) rfl H8.out; replace H9 : Hid (RatAt (((V.setCell ⟨r3, 0, none⟩ (.bool n10)).setCell ⟨r3, 1, none⟩ (.slice o10 l10 c10)).setCell ⟨r3, 2, none⟩ (.slice p10 m10 k10)) n9 o9 l9 c9 p9 m9 k9 (x k)) := BA.out.rat (by simp [NoWord]) (ws := [.bool n10, .slice o10 l10 c10, .slice p10 m10 k10]) rfl H9.out; replace H10 : Hid (RatAt (((V.setCell ⟨r3, 0, none⟩ (.bool n10)).setCell ⟨r3, 1, none⟩ (.slice o10 l10 c10)).setCell ⟨r3, 2, none⟩ (.slice p10 m10 k10)) n10 o10 l10 c10 p10 m10 k10 (loK x (k + 1))) := BA.out.rat (by simp [NoWord]) (ws := [.bool n10, .slice o10 l10 c10, .slice p10 m10 k10]) rfl H10.out; replace H11 : Hid (RatAt (((V.setCell ⟨r3, 0, none⟩ (.bool n10)).setCell ⟨r3, 1, none⟩ (.slice o10 l10 c10)).setCell ⟨r3, 2, none⟩ (.slice p10 m10 k10)) n11 o11 l11 c11 p11 m11 k11 (hiK x (k + 1))) := BA.out.rat (by simp [NoWord]) (ws := [.bool n10, .slice o10 l10 c10, .slice p10 m10 k10]) rfl H11.out; have BC : Hid (Bx (((V.setCell ⟨r3, 0, none⟩ (.bool n10)).setCell ⟨r3, 1, none⟩ (.slice o10 l10 c10)).setCell ⟨r3, 2, none⟩ (.slice p10 m10 k10)) r3 [.bool n10, .slice o10 l10 c10, .slice p10 m10 k10]) := BA.out.put (ws := [.bool n10, .slice o10 l10 c10, .slice p10 m10 k10]) rfl; clear BA; replace hbV : Below W.heap.size W (((V.setCell ⟨r3, 0, none⟩ (.bool n10)).setCell ⟨r3, 1, none⟩ (.slice o10 l10 c10)).setCell ⟨r3, 2, none⟩ (.slice p10 m10 k10)) := putl_below (show W.heap.size ≤ r3 by omega) [.bool n10, .slice o10 l10 c10, .slice p10 m10 k10] 0 _ hbV; refine hK.out _ _ (by (try dsimp only); exact ⟨B6.out.1 0 _ rfl, B6.out.1 1 _ rfl, B6.out.1 2 _ rfl⟩) (fun hHeld => ?_); clear hK K hHeld; (try simp only [Act.put, List.setIfInBounds_toArray, List.set_cons_zero, List.set_cons_succ]); generalize (((V.setCell ⟨r3, 0, none⟩ (.bool n10)).setCell ⟨r3, 1, none⟩ (.slice o10 l10 c10)).setCell ⟨r3, 2, none⟩ (.slice p10 m10 k10)) = V at *; have hHeld : V.cell? ⟨r6, 0, none⟩ = some (.bool n9) ∧ V.cell? ⟨r6, 1, none⟩ = some (.slice o9 l9 c9) ∧ V.cell? ⟨r6, 2, none⟩ = some (.slice p9 m9 k9) := ⟨B6.out.1 0 _ rfl, B6.out.1 1 _ rfl, B6.out.1 2 _ rfl⟩)
     all_goals repeat' (first
      | (have _g := DA; clear _g; have _g := DB; clear _g; refine wpAnyH_ready (rs := [7]) (by kernel_rfl) (by simp) ?_; refine (AllReadyH.cons (o := Oper.mk none _ _ _ _ _) rfl (fun K hK => ?_) AllReadyH.nil)))
     all_goals (have bf := BB.out.2; have b0 := BB.out.1 0 _ rfl; have b1 := BB.out.1 1 _ rfl; have b2 := BB.out.1 2 _ rfl; go_simp; clear hHeld bf b0 b1 b2; replace B6 : Hid (Bx (((V.setCell ⟨r4, 0, none⟩ (.bool n11)).setCell ⟨r4, 1, none⟩ (.slice o11 l11 c11)).setCell ⟨r4, 2, none⟩ (.slice p11 m11 k11)) r6 [.bool n9, .slice o9 l9 c9, .slice p9 m9 k9]) := B6.out.off (ws := [.bool n11, .slice o11 l11 c11, .slice p11 m11 k11]) (by first | assumption | exact Ne.symm (by assumption) | omega) 0; replace H7 : Hid (RatAt (((V.setCell ⟨r4, 0, none⟩ (.bool n11)).setCell ⟨r4, 1, none⟩ (.slice o11 l11 c11)).setCell ⟨r4, 2, none⟩ (.slice p11 m11 k11)) n7 o7 l7 c7 p7 m7 k7 (loK x k)) := BB.out.rat (by simp [NoWord]) (ws := [.bool n11, .slice o11 l11 c11, .slice p11 m11 k11]) rfl H7.out; replace H8 : Hid (RatAt (((V.setCell ⟨r4, 0, none⟩ (.bool n11)).setCell ⟨r4, 1, none⟩ (.slice o11 l11 c11)).setCell ⟨r4, 2, none⟩ (.slice p11 m11 k11)) n8 o8 l8 c8 p8 m8 k8 (hiK x k)) := BB.out.rat (by simp [NoWord]) (ws := [.bool n11, .slice o11 l11 c11, .slice p11 m11 k11]) rfl H8.out; replace H9 : Hid (RatAt (((V.setCell ⟨r4, 0, none⟩ (.bool n11)).setCell ⟨r4, 1, none⟩ (.slice o11 l11 c11)).setCell ⟨r4, 2, none⟩ (.slice p11 m11 k11)) n9 o9 l9 c9 p9 m9 k9 (x k)) := BB.out.rat (by simp [NoWord]) (ws := [.bool n11, .slice o11 l11 c11, .slice p11 m11 k11]) rfl H9.out; replace H10 : Hid (RatAt (((V.setCell ⟨r4, 0, none⟩ (.bool n11)).setCell ⟨r4, 1, none⟩ (.slice o11 l11 c11)).setCell ⟨r4, 2, none⟩ (.slice p11 m11 k11)) n10 o10 l10 c10 p10 m10 k10 (loK x (k + 1))) := BB.out.rat (by simp [NoWord]) (ws := [.bool n11, .slice o11 l11 c11, .slice p11 m11 k11]) rfl H10.out; replace H11 : Hid (RatAt (((V.setCell ⟨r4, 0, none⟩ (.bool n11)).setCell ⟨r4, 1, none⟩ (.slice o11 l11 c11)).setCell ⟨r4, 2, none⟩ (.slice p11 m11 k11)) n11 o11 l11 c11 p11 m11 k11 (hiK x (k + 1))) := BB.out.rat (by simp [NoWord]) (ws := [.bool n11, .slice o11 l11 c11, .slice p11 m11 k11]) rfl H11.out; replace BC : Hid (Bx (((V.setCell ⟨r4, 0, none⟩ (.bool n11)).setCell ⟨r4, 1, none⟩ (.slice o11 l11 c11)).setCell ⟨r4, 2, none⟩ (.slice p11 m11 k11)) r3 [.bool n10, .slice o10 l10 c10, .slice p10 m10 k10]) := BC.out.off (ws := [.bool n11, .slice o11 l11 c11, .slice p11 m11 k11]) (by first | assumption | exact Ne.symm (by assumption) | omega) 0; have BD : Hid (Bx (((V.setCell ⟨r4, 0, none⟩ (.bool n11)).setCell ⟨r4, 1, none⟩ (.slice o11 l11 c11)).setCell ⟨r4, 2, none⟩ (.slice p11 m11 k11)) r4 [.bool n11, .slice o11 l11 c11, .slice p11 m11 k11]) := BB.out.put (ws := [.bool n11, .slice o11 l11 c11, .slice p11 m11 k11]) rfl; clear BB; replace hbV : Below W.heap.size W (((V.setCell ⟨r4, 0, none⟩ (.bool n11)).setCell ⟨r4, 1, none⟩ (.slice o11 l11 c11)).setCell ⟨r4, 2, none⟩ (.slice p11 m11 k11)) := putl_below (show W.heap.size ≤ r4 by omega) [.bool n11, .slice o11 l11 c11, .slice p11 m11 k11] 0 _ hbV; refine hK.out _ _ (by (try dsimp only); exact ⟨B6.out.1 0 _ rfl, B6.out.1 1 _ rfl, B6.out.1 2 _ rfl⟩) (fun hHeld => ?_); clear hK K hHeld; (try simp only [Act.put, List.setIfInBounds_toArray, List.set_cons_zero, List.set_cons_succ]); generalize (((V.setCell ⟨r4, 0, none⟩ (.bool n11)).setCell ⟨r4, 1, none⟩ (.slice o11 l11 c11)).setCell ⟨r4, 2, none⟩ (.slice p11 m11 k11)) = V at *; have hHeld : V.cell? ⟨r6, 0, none⟩ = some (.bool n9) ∧ V.cell? ⟨r6, 1, none⟩ = some (.slice o9 l9 c9) ∧ V.cell? ⟨r6, 2, none⟩ = some (.slice p9 m9 k9) := ⟨B6.out.1 0 _ rfl, B6.out.1 1 _ rfl, B6.out.1 2 _ rfl⟩)
     all_goals (refine wpAnyH_done (by kernel_rfl) ?_ _; refine NoPanic.normal ?_)
     all_goals (go_wp2; go_roundw)
     all_goals (first
      | exact ⟨k + 1, n10, o10, l10, c10, p10, m10, k10, n11, o11, l11, c11, p11, m11, k11, congrArg (Value.int .i64) (by omega), by omega, ⟨BC.out, BD.out, H10.out, H11.out⟩, hbV⟩
      | ((simp [intOf]) <;> omega))
   ·
    obtain rfl : k = 4 := by omega
    have e0 := HK.out.1.1 0 _ rfl; have e1 := HK.out.1.1 1 _ rfl; have e2 := HK.out.1.1 2 _ rfl
    have d0 := HK.out.2.1.1 0 _ rfl; have d1 := HK.out.2.1.1 1 _ rfl; have d2 := HK.out.2.1.1 2 _ rfl
    go_wp2_with (go_at_call 53; refine (sbetween_any n7 n8 o7 p7 o8 p8 l7 c7 m7 k7 l8 c8 m8 k8 (loK x 4) (hiK x 4) _ HK.out.2.2.1 HK.out.2.2.2 ((HS.out.1 4 (by decide)).1.mono (by decide)) ((HS.out.1 4 (by decide)).2.mono (by decide))).mono ?_; rintro e z ⟨n5, o5, l5, c5, p5, m5, k5, n6, o6, l6, c6, p6, m6, k6, rfl, hn⟩; have HN : Hid (NewSp Y z n5 n6 o5 p5 o6 p6 l5 c5 m5 k5 l6 c6 m6 k6 (loK x 4) (hiK x 4)) := hn; have HZ : Hid (Below W.heap.size W z) := bnext hbr hn.2.2.2; clear hn; have hzz := hbr.size; have hF := hR.later HZ.out (by omega); have g6 := hF.2; have g0 := hF.1 0 _ rfl; have g1 := hF.1 1 _ rfl; have g2 := hF.1 2 _ rfl; have g3 := hF.1 3 _ rfl; have g4 := hF.1 4 _ rfl; have g5 := hF.1 5 _ rfl; clear hF)
    exact bodyPost_ret (v := .agg #[.bool n5, .slice o5 l5 c5, .slice p5 m5 k5, .bool n6, .slice o6 l6 c6, .slice p6 m6 k6]) (by simp [results, Tryz.results47, go_sem, g0, g1, g2, g3, g4, g5]) rfl
     ⟨_, _, _, _, _, _, _, _, _, _, _, _, _, _, rfl, ⟨HN.out.1.1, (putl_own (r := w.heap.size + 1) (by omega) [.bool n5, .slice o5 l5 c5, .slice p5 m5 k5, .bool n6, .slice o6 l6 c6, .slice p6 m6 k6] 0 _ HN.out.1.2.1).mono (by omega), (putl_own (r := w.heap.size + 1) (by omega) [.bool n5, .slice o5 l5 c5, .slice p5 m5 k5, .bool n6, .slice o6 l6 c6, .slice p6 m6 k6] 0 _ HN.out.1.2.2.1).mono (by omega), HN.out.1.2.2.2⟩, ⟨HN.out.2.1.1, (putl_own (r := w.heap.size + 1) (by omega) [.bool n5, .slice o5 l5 c5, .slice p5 m5 k5, .bool n6, .slice o6 l6 c6, .slice p6 m6 k6] 0 _ HN.out.2.1.2.1).mono (by omega), (putl_own (r := w.heap.size + 1) (by omega) [.bool n5, .slice o5 l5 c5, .slice p5 m5 k5, .bool n6, .slice o6 l6 c6, .slice p6 m6 k6] 0 _ HN.out.2.1.2.2.1).mono (by omega), HN.out.2.1.2.2.2⟩, HN.out.2.2.1, putl_below (r := w.heap.size + 1) (by omega) [.bool n5, .slice o5 l5 c5, .slice p5 m5 k5, .bool n6, .slice o6 l6 c6, .slice p6 m6 k6] 0 _ (bnext hbW HZ.out)⟩
def prods (a b a' b' : Rat) : Nat → Rat
 | 0 => a * a'
 | 1 => a * b'
 | 2 => b * a'
 | _ => b * b'
theorem smul_any (n1 n2 n3 n4 : Bool) (o1 p1 o2 p2 o3 p3 o4 p4 : Option Addr) (l1 c1 m1 k1 l2 c2 m2 k2 l3 c3 m3 k3 l4 c4 m4 k4 : Nat) (a b a' b' : Rat) (w : World) (hx : RatAt w n1 o1 l1 c1 p1 m1 k1 a) (hy : RatAt w n2 o2 l2 c2 p2 m2 k2 b) (hx' : RatAt w n3 o3 l3 c3 p3 m3 k3 a') (hy' : RatAt w n4 o4 l4 c4 p4 m4 k4 b') (ha : Sz a 1000) (hb : Sz b 1000) (ha' : Sz a' 1000) (hb' : Sz b' 1000) (hc : cmpQ a b ≤ 0) (hc' : cmpQ a' b' ≤ 0) (hT0 : TabAt 0 Lib.deBruijn64tab w) :
  Calls Tryz.prog 19 #[.agg #[.bool n1, .slice o1 l1 c1, .slice p1 m1 k1, .bool n2, .slice o2 l2 c2, .slice p2 m2 k2], .agg #[.bool n3, .slice o3 l3 c3, .slice p3 m3 k3, .bool n4, .slice o4 l4 c4, .slice p4 m4 k4]] w fun e w' => SpErr w w' e (loK (prods a b a' b') 4) (hiK (prods a b a' b') 4) := by
 obtain ⟨W, hW, hsz, hbW, hA, hB, hR⟩ := enter3 w [.bool n1, .slice o1 l1 c1, .slice p1 m1 k1, .bool n2, .slice o2 l2 c2, .slice p2 m2 k2] [.bool n3, .slice o3 l3 c3, .slice p3 m3 k3, .bool n4, .slice o4 l4 c4, .slice p4 m4 k4] [.bool false, .slice none 0 0, .slice none 0 0, .bool false, .slice none 0 0, .slice none 0 0] 30 30 30
 have HX : Hid ((RatAt W n1 o1 l1 c1 p1 m1 k1 a ∧ RatAt W n2 o2 l2 c2 p2 m2 k2 b) ∧ (RatAt W n3 o3 l3 c3 p3 m3 k3 a' ∧ RatAt W n4 o4 l4 c4 p4 m4 k4 b') ∧ TabAt 0 Lib.deBruijn64tab W) := ⟨⟨hx.later hbW, hy.later hbW⟩, ⟨hx'.later hbW, hy'.later hbW⟩, tab_later hT0 hbW⟩
 have HC : Hid ((Sz a 1000 ∧ Sz b 1000 ∧ cmpQ a b ≤ 0) ∧ (Sz a' 1000 ∧ Sz b' 1000 ∧ cmpQ a' b' ≤ 0)) := ⟨⟨ha, hb, hc⟩, ⟨ha', hb', hc'⟩⟩
 have HP : Hid (∀ i, i < 4 → Sz (prods a b a' b' i) 10000) := fun i hi => by
  obtain rfl | rfl | rfl | rfl : i = 0 ∨ i = 1 ∨ i = 2 ∨ i = 3 := by omega
  ·
   exact (ha.mul ha').mono (by decide)
  ·
   exact (ha.mul hb').mono (by decide)
  ·
   exact (hb.mul ha').mono (by decide)
  ·
   exact (hb.mul hb').mono (by decide)
 clear hx hy hx' hy' ha hb ha' hb' hc hc' hT0
 go_enter Tryz.func19, Tryz.ntmps19
 go_upto_region 4 with (go_at_call 42; rw [← hW]; refine (scheckBoth_good n1 n2 n3 n4 o1 p1 o2 p2 o3 p3 o4 p4 l1 c1 m1 k1 l2 c2 m2 k2 l3 c3 m3 k3 l4 c4 m4 k4 a b a' b' _ HX.out.1.1 HX.out.1.2 HX.out.2.1.1 HX.out.2.1.2 (HC.out.1.1.mono (by decide)) (HC.out.1.2.1.mono (by decide)) (HC.out.2.1.mono (by decide)) (HC.out.2.2.1.mono (by decide)) HC.out.1.2.2 HC.out.2.2.2 HX.out.2.2).mono ?_; rintro e y ⟨rfl, hb1⟩)
 clear hW
 obtain ⟨Y, hY⟩ : ∃ Y, Y = y := ⟨_, rfl⟩
 subst hY
 have HY : Hid (Below W.heap.size W Y) := hb1
 clear hb1
 have hzY := HY.out.size
 have KY : Hid (∀ w' : World, Below Y.heap.size Y w' → w'.cell? ⟨w.heap.size, 0, none⟩ = some (.bool n1) ∧ w'.cell? ⟨w.heap.size, 1, none⟩ = some (.slice o1 l1 c1) ∧ w'.cell? ⟨w.heap.size, 2, none⟩ = some (.slice p1 m1 k1) ∧ w'.cell? ⟨w.heap.size, 3, none⟩ = some (.bool n2) ∧ w'.cell? ⟨w.heap.size, 4, none⟩ = some (.slice o2 l2 c2) ∧ w'.cell? ⟨w.heap.size, 5, none⟩ = some (.slice p2 m2 k2) ∧ w'.cell? ⟨w.heap.size + 1, 0, none⟩ = some (.bool n3) ∧ w'.cell? ⟨w.heap.size + 1, 1, none⟩ = some (.slice o3 l3 c3) ∧ w'.cell? ⟨w.heap.size + 1, 2, none⟩ = some (.slice p3 m3 k3) ∧ w'.cell? ⟨w.heap.size + 1, 3, none⟩ = some (.bool n4) ∧ w'.cell? ⟨w.heap.size + 1, 4, none⟩ = some (.slice o4 l4 c4) ∧ w'.cell? ⟨w.heap.size + 1, 5, none⟩ = some (.slice p4 m4 k4)) := fun w' h => ⟨((hA.later HY.out (by omega)).later h (by omega)).1 0 _ rfl, ((hA.later HY.out (by omega)).later h (by omega)).1 1 _ rfl, ((hA.later HY.out (by omega)).later h (by omega)).1 2 _ rfl, ((hA.later HY.out (by omega)).later h (by omega)).1 3 _ rfl, ((hA.later HY.out (by omega)).later h (by omega)).1 4 _ rfl, ((hA.later HY.out (by omega)).later h (by omega)).1 5 _ rfl, ((hB.later HY.out (by omega)).later h (by omega)).1 0 _ rfl, ((hB.later HY.out (by omega)).later h (by omega)).1 1 _ rfl, ((hB.later HY.out (by omega)).later h (by omega)).1 2 _ rfl, ((hB.later HY.out (by omega)).later h (by omega)).1 3 _ rfl, ((hB.later HY.out (by omega)).later h (by omega)).1 4 _ rfl, ((hB.later HY.out (by omega)).later h (by omega)).1 5 _ rfl⟩
 have KR : Hid (∀ X : World, Below Y.heap.size Y X → ∀ vs, (fun w' : World => w'.cell? ⟨w.heap.size, 0, none⟩ = some (.bool n1) ∧ w'.cell? ⟨w.heap.size, 1, none⟩ = some (.slice o1 l1 c1) ∧ w'.cell? ⟨w.heap.size, 2, none⟩ = some (.slice p1 m1 k1) ∧ w'.cell? ⟨w.heap.size, 3, none⟩ = some (.bool n2) ∧ w'.cell? ⟨w.heap.size, 4, none⟩ = some (.slice o2 l2 c2) ∧ w'.cell? ⟨w.heap.size, 5, none⟩ = some (.slice p2 m2 k2) ∧ w'.cell? ⟨w.heap.size + 1, 0, none⟩ = some (.bool n3) ∧ w'.cell? ⟨w.heap.size + 1, 1, none⟩ = some (.slice o3 l3 c3) ∧ w'.cell? ⟨w.heap.size + 1, 2, none⟩ = some (.slice p3 m3 k3) ∧ w'.cell? ⟨w.heap.size + 1, 3, none⟩ = some (.bool n4) ∧ w'.cell? ⟨w.heap.size + 1, 4, none⟩ = some (.slice o4 l4 c4) ∧ w'.cell? ⟨w.heap.size + 1, 5, none⟩ = some (.slice p4 m4 k4)) (putl X (w.heap.size + 1 + 1) 0 vs)) := fun X h vs => by
  obtain ⟨h0, h1, h2, h3, h4, h5, h6, h7, h8, h9, h10, h11⟩ := KY.out X h
  exact ⟨(putl_off (by omega) vs 0 X).trans h0, (putl_off (by omega) vs 0 X).trans h1, (putl_off (by omega) vs 0 X).trans h2, (putl_off (by omega) vs 0 X).trans h3, (putl_off (by omega) vs 0 X).trans h4, (putl_off (by omega) vs 0 X).trans h5, (putl_off (by omega) vs 0 X).trans h6, (putl_off (by omega) vs 0 X).trans h7, (putl_off (by omega) vs 0 X).trans h8, (putl_off (by omega) vs 0 X).trans h9, (putl_off (by omega) vs 0 X).trans h10, (putl_off (by omega) vs 0 X).trans h11⟩
 refine wp_region_noPanic ?_
 refine wp_region_held_drew (S := fun w' => (w'.cell? ⟨w.heap.size, 0, none⟩ = some (.bool n1) ∧ w'.cell? ⟨w.heap.size, 1, none⟩ = some (.slice o1 l1 c1) ∧ w'.cell? ⟨w.heap.size, 2, none⟩ = some (.slice p1 m1 k1) ∧ w'.cell? ⟨w.heap.size, 3, none⟩ = some (.bool n2) ∧ w'.cell? ⟨w.heap.size, 4, none⟩ = some (.slice o2 l2 c2) ∧ w'.cell? ⟨w.heap.size, 5, none⟩ = some (.slice p2 m2 k2) ∧ w'.cell? ⟨w.heap.size + 1, 0, none⟩ = some (.bool n3) ∧ w'.cell? ⟨w.heap.size + 1, 1, none⟩ = some (.slice o3 l3 c3) ∧ w'.cell? ⟨w.heap.size + 1, 2, none⟩ = some (.slice p3 m3 k3) ∧ w'.cell? ⟨w.heap.size + 1, 3, none⟩ = some (.bool n4) ∧ w'.cell? ⟨w.heap.size + 1, 4, none⟩ = some (.slice o4 l4 c4) ∧ w'.cell? ⟨w.heap.size + 1, 5, none⟩ = some (.slice p4 m4 k4))) (by kernel_rfl) (by (try dsimp only); exact KY.out _ (Below.refl _ _).drew) (fun hHeld => ?_)
 refine wpAnyH_take (i := 0) (oi := Oper.mk (some 14) _ _ _ _ _) (v := ?_) rfl (by kernel_rfl) (by kernel_rfl) (by kernel_rfl) (fun _ _ _ h => h) (Or.inl ⟨by rfl, ?_⟩) (by assumption) ?_
 rotate_left
 ·
  (intro w hSw; (try dsimp only at hSw); go_simp <;> (try with_reducible rfl))
 (try simp only [Act.put, List.setIfInBounds_toArray, List.set_cons_zero, List.set_cons_succ])
 refine wpAnyH_take (i := 1) (oi := Oper.mk (some 15) _ _ _ _ _) (v := ?_) rfl (by kernel_rfl) (by kernel_rfl) (by kernel_rfl) (fun _ _ _ h => h) (Or.inl ⟨by rfl, ?_⟩) (by assumption) ?_
 rotate_left
 ·
  (intro w hSw; (try dsimp only at hSw); go_simp <;> (try with_reducible rfl))
 (try simp only [Act.put, List.setIfInBounds_toArray, List.set_cons_zero, List.set_cons_succ])
 refine wpAnyH_take (i := 2) (oi := Oper.mk (some 16) _ _ _ _ _) (v := ?_) rfl (by kernel_rfl) (by kernel_rfl) (by kernel_rfl) (fun _ _ _ h => h) (Or.inl ⟨by rfl, ?_⟩) (by assumption) ?_
 rotate_left
 ·
  (intro w hSw; (try dsimp only at hSw); go_simp <;> (try with_reducible rfl))
 (try simp only [Act.put, List.setIfInBounds_toArray, List.set_cons_zero, List.set_cons_succ])
 refine wpAnyH_take (i := 3) (oi := Oper.mk (some 17) _ _ _ _ _) (v := ?_) rfl (by kernel_rfl) (by kernel_rfl) (by kernel_rfl) (fun _ _ _ h => h) (Or.inl ⟨by rfl, ?_⟩) (by assumption) ?_
 rotate_left
 ·
  (intro w hSw; (try dsimp only at hSw); go_simp <;> (try with_reducible rfl))
 (try simp only [Act.put, List.setIfInBounds_toArray, List.set_cons_zero, List.set_cons_succ])
 refine wpAnyH_take (i := 5) (oi := Oper.mk (some 19) _ _ _ _ _) (v := ?_) rfl (by kernel_rfl) (by kernel_rfl) (by kernel_rfl) (fun _ _ _ h => h) (Or.inl ⟨by rfl, ?_⟩) (by assumption) ?_
 rotate_left
 ·
  (intro w hSw; (try dsimp only at hSw); go_simp <;> (try with_reducible rfl))
 (try simp only [Act.put, List.setIfInBounds_toArray, List.set_cons_zero, List.set_cons_succ])
 refine wpAnyH_take (i := 6) (oi := Oper.mk (some 20) _ _ _ _ _) (v := ?_) rfl (by kernel_rfl) (by kernel_rfl) (by kernel_rfl) (fun _ _ _ h => h) (Or.inl ⟨by rfl, ?_⟩) (by assumption) ?_
 rotate_left
 ·
  (intro w hSw; (try dsimp only at hSw); go_simp <;> (try with_reducible rfl))
 (try simp only [Act.put, List.setIfInBounds_toArray, List.set_cons_zero, List.set_cons_succ])
 refine wpAnyH_take (i := 7) (oi := Oper.mk (some 21) _ _ _ _ _) (v := ?_) rfl (by kernel_rfl) (by kernel_rfl) (by kernel_rfl) (fun _ _ _ h => h) (Or.inl ⟨by rfl, ?_⟩) (by assumption) ?_
 rotate_left
 ·
  (intro w hSw; (try dsimp only at hSw); go_simp <;> (try with_reducible rfl))
 (try simp only [Act.put, List.setIfInBounds_toArray, List.set_cons_zero, List.set_cons_succ])
 refine wpAnyH_take (i := 8) (oi := Oper.mk (some 22) _ _ _ _ _) (v := ?_) rfl (by kernel_rfl) (by kernel_rfl) (by kernel_rfl) (fun _ _ _ h => h) (Or.inl ⟨by rfl, ?_⟩) (by assumption) ?_
 rotate_left
 ·
  (intro w hSw; (try dsimp only at hSw); go_simp <;> (try with_reducible rfl))
 (try simp only [Act.put, List.setIfInBounds_toArray, List.set_cons_zero, List.set_cons_succ])
 refine wpAnyH_take (i := 10) (oi := Oper.mk (some 24) _ _ _ _ _) (v := ?_) rfl (by kernel_rfl) (by kernel_rfl) (by kernel_rfl) (fun _ _ _ h => h) (Or.inl ⟨by rfl, ?_⟩) (by assumption) ?_
 rotate_left
 ·
  (intro w hSw; (try dsimp only at hSw); go_simp <;> (try with_reducible rfl))
 (try simp only [Act.put, List.setIfInBounds_toArray, List.set_cons_zero, List.set_cons_succ])
 refine wpAnyH_take (i := 11) (oi := Oper.mk (some 25) _ _ _ _ _) (v := ?_) rfl (by kernel_rfl) (by kernel_rfl) (by kernel_rfl) (fun _ _ _ h => h) (Or.inl ⟨by rfl, ?_⟩) (by assumption) ?_
 rotate_left
 ·
  (intro w hSw; (try dsimp only at hSw); go_simp <;> (try with_reducible rfl))
 (try simp only [Act.put, List.setIfInBounds_toArray, List.set_cons_zero, List.set_cons_succ])
 refine wpAnyH_take (i := 12) (oi := Oper.mk (some 26) _ _ _ _ _) (v := ?_) rfl (by kernel_rfl) (by kernel_rfl) (by kernel_rfl) (fun _ _ _ h => h) (Or.inl ⟨by rfl, ?_⟩) (by assumption) ?_
 rotate_left
 ·
  (intro w hSw; (try dsimp only at hSw); go_simp <;> (try with_reducible rfl))
 (try simp only [Act.put, List.setIfInBounds_toArray, List.set_cons_zero, List.set_cons_succ])
 refine wpAnyH_take (i := 13) (oi := Oper.mk (some 27) _ _ _ _ _) (v := ?_) rfl (by kernel_rfl) (by kernel_rfl) (by kernel_rfl) (fun _ _ _ h => h) (Or.inl ⟨by rfl, ?_⟩) (by assumption) ?_
 rotate_left
 ·
  (intro w hSw; (try dsimp only at hSw); go_simp <;> (try with_reducible rfl))
 (try simp only [Act.put, List.setIfInBounds_toArray, List.set_cons_zero, List.set_cons_succ])
 refine wpAnyH_take (i := 15) (oi := Oper.mk (some 29) _ _ _ _ _) (v := ?_) rfl (by kernel_rfl) (by kernel_rfl) (by kernel_rfl) (fun _ _ _ h => h) (Or.inl ⟨by rfl, ?_⟩) (by assumption) ?_
 rotate_left
 ·
  (intro w hSw; (try dsimp only at hSw); go_simp <;> (try with_reducible rfl))
 (try simp only [Act.put, List.setIfInBounds_toArray, List.set_cons_zero, List.set_cons_succ])
 refine wpAnyH_take (i := 16) (oi := Oper.mk (some 30) _ _ _ _ _) (v := ?_) rfl (by kernel_rfl) (by kernel_rfl) (by kernel_rfl) (fun _ _ _ h => h) (Or.inl ⟨by rfl, ?_⟩) (by assumption) ?_
 rotate_left
 ·
  (intro w hSw; (try dsimp only at hSw); go_simp <;> (try with_reducible rfl))
 (try simp only [Act.put, List.setIfInBounds_toArray, List.set_cons_zero, List.set_cons_succ])
 refine wpAnyH_take (i := 17) (oi := Oper.mk (some 31) _ _ _ _ _) (v := ?_) rfl (by kernel_rfl) (by kernel_rfl) (by kernel_rfl) (fun _ _ _ h => h) (Or.inl ⟨by rfl, ?_⟩) (by assumption) ?_
 rotate_left
 ·
  (intro w hSw; (try dsimp only at hSw); go_simp <;> (try with_reducible rfl))
 (try simp only [Act.put, List.setIfInBounds_toArray, List.set_cons_zero, List.set_cons_succ])
 refine wpAnyH_take (i := 18) (oi := Oper.mk (some 32) _ _ _ _ _) (v := ?_) rfl (by kernel_rfl) (by kernel_rfl) (by kernel_rfl) (fun _ _ _ h => h) (Or.inl ⟨by rfl, ?_⟩) (by assumption) ?_
 rotate_left
 ·
  (intro w hSw; (try dsimp only at hSw); go_simp <;> (try with_reducible rfl))
 (try simp only [Act.put, List.setIfInBounds_toArray, List.set_cons_zero, List.set_cons_succ])
 refine wpAnyH_ready (rs := [4]) (by kernel_rfl) (by simp) ?_
 refine AllReadyH.cons (o := Oper.mk (some 18) _ _ _ _ _) rfl (fun K hK => ?_) AllReadyH.nil
 go_simp
 (go_at_call 48; refine (stimes_any n1 n3 o1 p1 o3 p3 l1 c1 m1 k1 l3 c3 m3 k3 a a' _ (HX.out.1.1.later (bnext HY.out (Below.refl _ _).drew)) (HX.out.2.1.1.later (bnext HY.out (Below.refl _ _).drew)) HC.out.1.1 HC.out.2.1 (tab_later HX.out.2.2 (bnext HY.out (Below.refl _ _).drew))).mono ?_; rintro e f1 ⟨n11, o11, l11, c11, p11, m11, k11, rfl, hr, hb⟩; have H1 : Hid (RatAt f1 n11 o11 l11 c11 p11 m11 k11 (a * a')) := hr; clear hr; have hbF1 : Below Y.heap.size Y f1 := bnext (Below.refl _ _).drew hb; clear hb)
 (try go_wp2_with fail)
 clear hHeld
 refine hK.out _ _ (by (try dsimp only); first | exact KY.out _ (Below.refl _ _).drew | exact KY.out _ (by assumption)) (fun hHeld => ?_)
 clear hK K
 (try simp only [Act.put, List.setIfInBounds_toArray, List.set_cons_zero, List.set_cons_succ])
 refine wpAnyH_ready (rs := [9]) (by kernel_rfl) (by simp) ?_
 refine AllReadyH.cons (o := Oper.mk (some 23) _ _ _ _ _) rfl (fun K hK => ?_) AllReadyH.nil
 go_simp
 (go_at_call 48; refine (stimes_any n1 n4 o1 p1 o4 p4 l1 c1 m1 k1 l4 c4 m4 k4 a b' _ (HX.out.1.1.later (bnext HY.out hbF1)) (HX.out.2.1.2.later (bnext HY.out hbF1)) HC.out.1.1 HC.out.2.2.1 (tab_later HX.out.2.2 (bnext HY.out hbF1))).mono ?_; rintro e f2 ⟨n12, o12, l12, c12, p12, m12, k12, rfl, hr, hb⟩; have H2 : Hid (RatAt f2 n11 o11 l11 c11 p11 m11 k11 (a * a') ∧ RatAt f2 n12 o12 l12 c12 p12 m12 k12 (a * b')) := ⟨H1.out.later hb, hr⟩; clear hr; have hbF2 : Below Y.heap.size Y f2 := bnext hbF1 hb; clear hb)
 (try go_wp2_with fail)
 clear hHeld
 refine hK.out _ _ (by (try dsimp only); first | exact KY.out _ (Below.refl _ _).drew | exact KY.out _ (by assumption)) (fun hHeld => ?_)
 clear hK K
 (try simp only [Act.put, List.setIfInBounds_toArray, List.set_cons_zero, List.set_cons_succ])
 refine wpAnyH_ready (rs := [14]) (by kernel_rfl) (by simp) ?_
 refine AllReadyH.cons (o := Oper.mk (some 28) _ _ _ _ _) rfl (fun K hK => ?_) AllReadyH.nil
 go_simp
 (go_at_call 48; refine (stimes_any n2 n3 o2 p2 o3 p3 l2 c2 m2 k2 l3 c3 m3 k3 b a' _ (HX.out.1.2.later (bnext HY.out hbF2)) (HX.out.2.1.1.later (bnext HY.out hbF2)) HC.out.1.2.1 HC.out.2.1 (tab_later HX.out.2.2 (bnext HY.out hbF2))).mono ?_; rintro e f3 ⟨n13, o13, l13, c13, p13, m13, k13, rfl, hr, hb⟩; have H3 : Hid (RatAt f3 n11 o11 l11 c11 p11 m11 k11 (a * a') ∧ RatAt f3 n12 o12 l12 c12 p12 m12 k12 (a * b') ∧ RatAt f3 n13 o13 l13 c13 p13 m13 k13 (b * a')) := ⟨H2.out.1.later hb, H2.out.2.later hb, hr⟩; clear hr; have hbF3 : Below Y.heap.size Y f3 := bnext hbF2 hb; clear hb)
 (try go_wp2_with fail)
 clear hHeld
 refine hK.out _ _ (by (try dsimp only); first | exact KY.out _ (Below.refl _ _).drew | exact KY.out _ (by assumption)) (fun hHeld => ?_)
 clear hK K
 (try simp only [Act.put, List.setIfInBounds_toArray, List.set_cons_zero, List.set_cons_succ])
 refine wpAnyH_ready (rs := [19]) (by kernel_rfl) (by simp) ?_
 refine AllReadyH.cons (o := Oper.mk (some 33) _ _ _ _ _) rfl (fun K hK => ?_) AllReadyH.nil
 go_simp
 (go_at_call 48; refine (stimes_any n2 n4 o2 p2 o4 p4 l2 c2 m2 k2 l4 c4 m4 k4 b b' _ (HX.out.1.2.later (bnext HY.out hbF3)) (HX.out.2.1.2.later (bnext HY.out hbF3)) HC.out.1.2.1 HC.out.2.2.1 (tab_later HX.out.2.2 (bnext HY.out hbF3))).mono ?_; rintro e f4 ⟨n14, o14, l14, c14, p14, m14, k14, rfl, hr, hb⟩; have H4 : Hid (RatAt f4 n11 o11 l11 c11 p11 m11 k11 (a * a') ∧ RatAt f4 n12 o12 l12 c12 p12 m12 k12 (a * b') ∧ RatAt f4 n13 o13 l13 c13 p13 m13 k13 (b * a') ∧ RatAt f4 n14 o14 l14 c14 p14 m14 k14 (b * b')) := ⟨H3.out.1.later hb, H3.out.2.1.later hb, H3.out.2.2.later hb, hr⟩; clear hr; have hbF4 : Below Y.heap.size Y f4 := bnext hbF3 hb; clear hb)
 (try go_wp2_with fail)
 clear hHeld
 refine hK.out _ _ (by (try dsimp only); first | exact KY.out _ (Below.refl _ _).drew | exact KY.out _ (by assumption)) (fun hHeld => ?_)
 clear hK K
 (try simp only [Act.put, List.setIfInBounds_toArray, List.set_cons_zero, List.set_cons_succ])
 refine wpAnyH_take (i := 20) (oi := Oper.mk (some 34) _ _ _ _ _) (v := ?_) rfl (by kernel_rfl) (by kernel_rfl) (by kernel_rfl) (fun _ _ _ h => h) (Or.inl ⟨by rfl, ?_⟩) (by assumption) ?_
 rotate_left
 ·
  (intro w hSw; (try dsimp only at hSw); go_simp <;> (try with_reducible rfl))
 (try simp only [Act.put, List.setIfInBounds_toArray, List.set_cons_zero, List.set_cons_succ])
 refine wpAnyH_ready (rs := [21]) (by kernel_rfl) (by simp) ?_
 refine AllReadyH.cons (o := Oper.mk (some 35) _ _ _ _ _) rfl (fun K hK => ?_) AllReadyH.nil
 go_simp
 (go_at_call 47; refine (sround_any n11 n12 n13 n14 o11 p11 o12 p12 o13 p13 o14 p14 l11 c11 m11 k11 l12 c12 m12 k12 l13 c13 m13 k13 l14 c14 m14 k14 (prods a b a' b') _ H4.out.1 H4.out.2.1 H4.out.2.2.1 H4.out.2.2.2 HP.out (tab_later HX.out.2.2 (bnext HY.out hbF4))).mono ?_; rintro e f5 ⟨n5, o5, l5, c5, p5, m5, k5, n6, o6, l6, c6, p6, m6, k6, rfl, hn⟩; have hb := hn.2.2.2; have H5 : Hid (NewSp f4 f5 n5 n6 o5 p5 o6 p6 l5 c5 m5 k5 l6 c6 m6 k6 (loK (prods a b a' b') 4) (hiK (prods a b a' b') 4)) := hn; clear hn; have hbF5 : Below Y.heap.size Y f5 := bnext hbF4 hb; clear hb)
 (try go_wp2_with fail)
 clear hHeld
 refine hK.out _ _ (by (try dsimp only); first | exact KY.out _ (Below.refl _ _).drew | exact KY.out _ (by assumption)) (fun hHeld => ?_)
 clear hK K
 (try simp only [Act.put, List.setIfInBounds_toArray, List.set_cons_zero, List.set_cons_succ])
 have hbW5 := bnext HY.out hbF5
 have hF := hR.later hbW5 (by omega); have g6 := hF.2; have g0 := hF.1 0 _ rfl; have g1 := hF.1 1 _ rfl; have g2 := hF.1 2 _ rfl; have g3 := hF.1 3 _ rfl; have g4 := hF.1 4 _ rfl; have g5 := hF.1 5 _ rfl; clear hF
 refine wpAnyH_ready (rs := [22]) (by kernel_rfl) (by simp) ?_
 refine AllReadyH.cons (o := Oper.mk none _ _ _ _ _) rfl (fun K hK => ?_) AllReadyH.nil
 go_simp
 clear hHeld
 refine hK.out _ _ (by (try dsimp only); exact KR.out _ hbF5 [.bool n5, .slice o5 l5 c5, .slice p5 m5 k5, .bool n6, .slice o6 l6 c6, .slice p6 m6 k6]) (fun hHeld => ?_)
 clear hK K
 (try simp only [Act.put, List.setIfInBounds_toArray, List.set_cons_zero, List.set_cons_succ])
 refine wpAnyH_take (i := 23) (oi := Oper.mk (some 5) _ _ _ _ _) (v := ?_) rfl (by kernel_rfl) (by kernel_rfl) (by kernel_rfl) (fun _ _ _ h => h) (Or.inl ⟨by rfl, ?_⟩) (by assumption) ?_
 rotate_left
 ·
  (intro w hSw; (try dsimp only at hSw); go_simp <;> (try with_reducible rfl))
 (try simp only [Act.put, List.setIfInBounds_toArray, List.set_cons_zero, List.set_cons_succ])
 refine wpAnyH_done (by kernel_rfl) ?_ _
 refine NoPanic.normal ?_
 go_wp2
 have hz4 := hbF4.size
 exact bodyPost_ret (v := .tuple #[.agg #[.bool n5, .slice o5 l5 c5, .slice p5 m5 k5, .bool n6, .slice o6 l6 c6, .slice p6 m6 k6], .int .i64 0]) (by simp [results, Tryz.results19, go_sem, g0, g1, g2, g3, g4, g5]) rfl
  ⟨_, _, _, _, _, _, _, _, _, _, _, _, _, _, rfl, ⟨H5.out.1.1, (putl_own (r := w.heap.size + 1 + 1) (by omega) [.bool n5, .slice o5 l5 c5, .slice p5 m5 k5, .bool n6, .slice o6 l6 c6, .slice p6 m6 k6] 0 _ H5.out.1.2.1).mono (by omega), (putl_own (r := w.heap.size + 1 + 1) (by omega) [.bool n5, .slice o5 l5 c5, .slice p5 m5 k5, .bool n6, .slice o6 l6 c6, .slice p6 m6 k6] 0 _ H5.out.1.2.2.1).mono (by omega), H5.out.1.2.2.2⟩, ⟨H5.out.2.1.1, (putl_own (r := w.heap.size + 1 + 1) (by omega) [.bool n5, .slice o5 l5 c5, .slice p5 m5 k5, .bool n6, .slice o6 l6 c6, .slice p6 m6 k6] 0 _ H5.out.2.1.2.1).mono (by omega), (putl_own (r := w.heap.size + 1 + 1) (by omega) [.bool n5, .slice o5 l5 c5, .slice p5 m5 k5, .bool n6, .slice o6 l6 c6, .slice p6 m6 k6] 0 _ H5.out.2.1.2.2.1).mono (by omega), H5.out.2.1.2.2.2⟩, H5.out.2.2.1, putl_below (r := w.heap.size + 1 + 1) (by omega) [.bool n5, .slice o5 l5 c5, .slice p5 m5 k5, .bool n6, .slice o6 l6 c6, .slice p6 m6 k6] 0 _ (bnext hbW hbW5)⟩
end Go.Proofs.YtbkaiifplahhpaaGreatDoor
