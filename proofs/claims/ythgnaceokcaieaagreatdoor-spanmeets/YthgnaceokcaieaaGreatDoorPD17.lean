/-
  A pack of walks and facts: TC.
-/
import Derived.Test.YthgnaceokcaieaaGreatDoorPD16
import Derived.Deep.DeepCutAuto
set_option maxRecDepth 100000
set_option maxHeartbeats 40000000
set_option linter.unusedVariables false
set_option linter.unusedSimpArgs false
namespace Go.Proofs.YthgnaceokcaieaaGreatDoor
open Go.RowKit
def NewSp (w w' : World) (n1 n2 : Bool) (o1 p1 o2 p2 : Option Addr) (l1 c1 m1 k1 l2 c2 m2 k2 : Nat) (a b : Rat) : Prop :=
 (n1 = sgB (a).num ∧ Own w.heap.size w' .u64 71 o1 l1 c1 (mag (a).num.natAbs) ∧ Own w.heap.size w' .u64 71 p1 m1 k1 (mag (a).den) ∧ Parted o1 p1) ∧ (n2 = sgB (b).num ∧ Own w.heap.size w' .u64 71 o2 l2 c2 (mag (b).num.natAbs) ∧ Own w.heap.size w' .u64 71 p2 m2 k2 (mag (b).den) ∧ Parted o2 p2) ∧ (Parted o1 o2 ∧ Parted o1 p2 ∧ Parted p1 o2 ∧ Parted p1 p2) ∧ Below w.heap.size w w'
theorem NewSp.lo {w w' : World} {n1 n2 : Bool} {o1 p1 o2 p2 : Option Addr} {l1 c1 m1 k1 l2 c2 m2 k2 : Nat} {a b : Rat} (h : NewSp w w' n1 n2 o1 p1 o2 p2 l1 c1 m1 k1 l2 c2 m2 k2 a b) : RatAt w' n1 o1 l1 c1 p1 m1 k1 a := ⟨h.1.2.1.int h.1.1, h.1.2.2.1.row⟩
theorem NewSp.hi {w w' : World} {n1 n2 : Bool} {o1 p1 o2 p2 : Option Addr} {l1 c1 m1 k1 l2 c2 m2 k2 : Nat} {a b : Rat} (h : NewSp w w' n1 n2 o1 p1 o2 p2 l1 c1 m1 k1 l2 c2 m2 k2 a b) : RatAt w' n2 o2 l2 c2 p2 m2 k2 b := ⟨h.2.1.2.1.int h.2.1.1, h.2.1.2.2.1.row⟩
def SpOut (w w' : World) (e : Ending) (a b : Rat) : Prop := ∃ n1 o1 l1 c1 p1 m1 k1 n2 o2 l2 c2 p2 m2 k2, e = .returned (.agg #[.bool n1, .slice o1 l1 c1, .slice p1 m1 k1, .bool n2, .slice o2 l2 c2, .slice p2 m2 k2]) ∧ NewSp w w' n1 n2 o1 p1 o2 p2 l1 c1 m1 k1 l2 c2 m2 k2 a b
def SpErr (w w' : World) (e : Ending) (a b : Rat) : Prop := ∃ n1 o1 l1 c1 p1 m1 k1 n2 o2 l2 c2 p2 m2 k2, e = .returned (.tuple #[.agg #[.bool n1, .slice o1 l1 c1, .slice p1 m1 k1, .bool n2, .slice o2 l2 c2, .slice p2 m2 k2], .int .i64 0]) ∧ NewSp w w' n1 n2 o1 p1 o2 p2 l1 c1 m1 k1 l2 c2 m2 k2 a b
def MeetOut (w w' : World) (e : Ending) (r : Bool) (a b : Rat) : Prop := ∃ n1 o1 l1 c1 p1 m1 k1 n2 o2 l2 c2 p2 m2 k2, e = .returned (.tuple #[.agg #[.bool n1, .slice o1 l1 c1, .slice p1 m1 k1, .bool n2, .slice o2 l2 c2, .slice p2 m2 k2], .bool r, .int .i64 0]) ∧ Below w.heap.size w w' ∧ (r = true → NewSp w w' n1 n2 o1 p1 o2 p2 l1 c1 m1 k1 l2 c2 m2 k2 a b)
def HalvesOut (w w' : World) (e : Ending) (a m b : Rat) : Prop := ∃ n1 o1 l1 c1 p1 m1 k1 n2 o2 l2 c2 p2 m2 k2 n3 o3 l3 c3 p3 m3 k3 n4 o4 l4 c4 p4 m4 k4, e = .returned (.tuple #[.agg #[.bool n1, .slice o1 l1 c1, .slice p1 m1 k1, .bool n2, .slice o2 l2 c2, .slice p2 m2 k2], .agg #[.bool n3, .slice o3 l3 c3, .slice p3 m3 k3, .bool n4, .slice o4 l4 c4, .slice p4 m4 k4], .int .i64 0]) ∧ NewSp w w' n1 n2 o1 p1 o2 p2 l1 c1 m1 k1 l2 c2 m2 k2 a m ∧ NewSp w w' n3 n4 o3 p3 o4 p4 l3 c3 m3 k3 l4 c4 m4 k4 m b
theorem sclone_any (n1 : Bool) (o1 p1 : Option Addr) (l1 c1 m1 k1 : Nat) (a : Rat) (w : World) (hx : RatAt w n1 o1 l1 c1 p1 m1 k1 a) (hl : l1 ≤ 1073741824) (hm : m1 ≤ 1073741824) :
  Calls Tryz.prog 93 #[.agg #[.bool n1, .slice o1 l1 c1, .slice p1 m1 k1]] w fun e w' => NewRat w w' e a := by
 obtain ⟨W, hW, hsz, hbW, hA, hR⟩ := enter2 w [.bool n1, .slice o1 l1 c1, .slice p1 m1 k1] [.bool false, .slice none 0 0, .slice none 0 0] 28 28
 have HX : Hid (RatAt W n1 o1 l1 c1 p1 m1 k1 a) := hx.later hbW
 have KW : Hid (∀ w' : World, Below W.heap.size W w' → w'.cell? ⟨w.heap.size, 0, none⟩ = some (.bool n1) ∧ w'.cell? ⟨w.heap.size, 1, none⟩ = some (.slice o1 l1 c1) ∧ w'.cell? ⟨w.heap.size, 2, none⟩ = some (.slice p1 m1 k1)) := fun w' h => ⟨((hA).later h (by omega)).1 0 _ rfl, ((hA).later h (by omega)).1 1 _ rfl, ((hA).later h (by omega)).1 2 _ rfl⟩
 clear hx
 go_enter Tryz.func93, Tryz.ntmps93
 go_upto_region 1 with fail
 rw [← hW]
 clear hW
 have KR : Hid (∀ X : World, Below W.heap.size W X → ∀ vs, (fun w' : World => w'.cell? ⟨w.heap.size, 0, none⟩ = some (.bool n1) ∧ w'.cell? ⟨w.heap.size, 1, none⟩ = some (.slice o1 l1 c1) ∧ w'.cell? ⟨w.heap.size, 2, none⟩ = some (.slice p1 m1 k1)) (putl X (w.heap.size + 1) 0 vs)) := fun X h vs => by
  obtain ⟨h0, h1, h2⟩ := KW.out X h
  exact ⟨(putl_off (by omega) vs 0 X).trans h0, (putl_off (by omega) vs 0 X).trans h1, (putl_off (by omega) vs 0 X).trans h2⟩
 refine wp_region_noPanic ?_
 refine wp_region_held_drew (S := fun w' => (w'.cell? ⟨w.heap.size, 0, none⟩ = some (.bool n1) ∧ w'.cell? ⟨w.heap.size, 1, none⟩ = some (.slice o1 l1 c1) ∧ w'.cell? ⟨w.heap.size, 2, none⟩ = some (.slice p1 m1 k1))) (by kernel_rfl) (by (try dsimp only); exact KW.out _ (Below.refl _ _).drew) (fun hHeld => ?_)
 refine wpAnyH_take (i := 0) (oi := Oper.mk (some 3) _ _ _ _ _) (v := ?_) rfl (by kernel_rfl) (by kernel_rfl) (by kernel_rfl) (fun _ _ _ h => h) (Or.inl ⟨by rfl, ?_⟩) (by assumption) ?_
 rotate_left
 ·
  (intro w hSw; (try dsimp only at hSw); go_simp <;> (try with_reducible rfl))
 (try simp only [Act.put, List.setIfInBounds_toArray, List.set_cons_zero, List.set_cons_succ])
 refine wpAnyH_take (i := 1) (oi := Oper.mk (some 4) _ _ _ _ _) (v := ?_) rfl (by kernel_rfl) (by kernel_rfl) (by kernel_rfl) (fun _ _ _ h => h) (Or.inl ⟨by rfl, ?_⟩) (by assumption) ?_
 rotate_left
 ·
  (intro w hSw; (try dsimp only at hSw); go_simp <;> (try with_reducible rfl))
 (try simp only [Act.put, List.setIfInBounds_toArray, List.set_cons_zero, List.set_cons_succ])
 refine wpAnyH_take (i := 2) (oi := Oper.mk (some 5) _ _ _ _ _) (v := ?_) rfl (by kernel_rfl) (by kernel_rfl) (by kernel_rfl) (fun _ _ _ h => h) (Or.inl ⟨by rfl, ?_⟩) (by assumption) ?_
 rotate_left
 ·
  (intro w hSw; (try dsimp only at hSw); go_simp <;> (try with_reducible rfl))
 (try simp only [Act.put, List.setIfInBounds_toArray, List.set_cons_zero, List.set_cons_succ])
 refine wpAnyH_take (i := 3) (oi := Oper.mk (some 6) _ _ _ _ _) (v := ?_) rfl (by kernel_rfl) (by kernel_rfl) (by kernel_rfl) (fun _ _ _ h => h) (Or.inl ⟨by rfl, ?_⟩) (by assumption) ?_
 rotate_left
 ·
  (intro w hSw; (try dsimp only at hSw); go_simp <;> (try with_reducible rfl))
 (try simp only [Act.put, List.setIfInBounds_toArray, List.set_cons_zero, List.set_cons_succ])
 refine wpAnyH_take (i := 4) (oi := Oper.mk (some 7) _ _ _ _ _) (v := ?_) rfl (by kernel_rfl) (by kernel_rfl) (by kernel_rfl) (fun _ _ _ h => h) (Or.inl ⟨by rfl, ?_⟩) (by assumption) ?_
 rotate_left
 ·
  (intro w hSw; (try dsimp only at hSw); go_simp <;> (try with_reducible rfl))
 (try simp only [Act.put, List.setIfInBounds_toArray, List.set_cons_zero, List.set_cons_succ])
 refine wpAnyH_take (i := 5) (oi := Oper.mk (some 8) _ _ _ _ _) (v := ?_) rfl (by kernel_rfl) (by kernel_rfl) (by kernel_rfl) (fun _ _ _ h => h) (Or.inl ⟨by rfl, ?_⟩) (by assumption) ?_
 rotate_left
 ·
  (intro w hSw; (try dsimp only at hSw); go_simp <;> (try with_reducible rfl))
 (try simp only [Act.put, List.setIfInBounds_toArray, List.set_cons_zero, List.set_cons_succ])
 refine wpAnyH_take (i := 8) (oi := Oper.mk (some 11) _ _ _ _ _) (v := ?_) rfl (by kernel_rfl) (by kernel_rfl) (by kernel_rfl) (fun _ _ _ h => h) (Or.inl ⟨by rfl, ?_⟩) (by assumption) ?_
 rotate_left
 ·
  (intro w hSw; (try dsimp only at hSw); go_simp <;> (try with_reducible rfl))
 (try simp only [Act.put, List.setIfInBounds_toArray, List.set_cons_zero, List.set_cons_succ])
 refine wpAnyH_take (i := 9) (oi := Oper.mk (some 12) _ _ _ _ _) (v := ?_) rfl (by kernel_rfl) (by kernel_rfl) (by kernel_rfl) (fun _ _ _ h => h) (Or.inl ⟨by rfl, ?_⟩) (by assumption) ?_
 rotate_left
 ·
  (intro w hSw; (try dsimp only at hSw); go_simp <;> (try with_reducible rfl))
 (try simp only [Act.put, List.setIfInBounds_toArray, List.set_cons_zero, List.set_cons_succ])
 refine wpAnyH_ready (rs := [6]) (by kernel_rfl) (by simp) ?_
 refine AllReadyH.cons (o := Oper.mk (some 9) _ _ _ _ _) rfl (fun K hK => ?_) AllReadyH.nil
 go_simp
 (go_at_call 121; refine (scloneNat_any o1 l1 c1 a.num.natAbs _ (HX.out.num.row.later (Below.refl _ _).drew) hl).mono ?_; rintro e f1 ⟨o2, l2, c2, rfl, ho, hb⟩; have H1 : Hid (Own W.heap.size f1 .u64 71 o2 l2 c2 (mag a.num.natAbs)) := ho.mono (Nat.le_refl _); clear ho; have hbF1 : Below W.heap.size W f1 := bnext (Below.refl _ _).drew hb; clear hb)
 (try go_wp2_with fail)
 clear hHeld
 refine hK.out _ _ (by (try dsimp only); first | exact KW.out _ (Below.refl _ _).drew | exact KW.out _ (by assumption)) (fun hHeld => ?_)
 clear hK K
 (try simp only [Act.put, List.setIfInBounds_toArray, List.set_cons_zero, List.set_cons_succ])
 refine wpAnyH_take (i := 7) (oi := Oper.mk (some 10) _ _ _ _ _) (v := ?_) rfl (by kernel_rfl) (by kernel_rfl) (by kernel_rfl) (fun _ _ _ h => h) (Or.inl ⟨by rfl, ?_⟩) (by assumption) ?_
 rotate_left
 ·
  (intro w hSw; (try dsimp only at hSw); go_simp <;> (try with_reducible rfl))
 (try simp only [Act.put, List.setIfInBounds_toArray, List.set_cons_zero, List.set_cons_succ])
 refine wpAnyH_ready (rs := [10]) (by kernel_rfl) (by simp) ?_
 refine AllReadyH.cons (o := Oper.mk (some 13) _ _ _ _ _) rfl (fun K hK => ?_) AllReadyH.nil
 go_simp
 (go_at_call 121; refine (scloneNat_any p1 m1 k1 a.den _ (HX.out.den.later hbF1) hm).mono ?_; rintro e f2 ⟨p2, m2, k2, rfl, ho, hb⟩; have H2 : Hid (Own W.heap.size f2 .u64 71 o2 l2 c2 (mag a.num.natAbs) ∧ Own W.heap.size f2 .u64 71 p2 m2 k2 (mag a.den) ∧ Parted o2 p2) := ⟨H1.out.later hb, ho.mono hbF1.size, Parted.made H1.out ho (Nat.le_refl _)⟩; clear ho; have hbF2 : Below W.heap.size W f2 := bnext hbF1 hb; clear hb)
 (try go_wp2_with fail)
 clear hHeld
 refine hK.out _ _ (by (try dsimp only); first | exact KW.out _ (Below.refl _ _).drew | exact KW.out _ (by assumption)) (fun hHeld => ?_)
 clear hK K
 (try simp only [Act.put, List.setIfInBounds_toArray, List.set_cons_zero, List.set_cons_succ])
 refine wpAnyH_take (i := 11) (oi := Oper.mk (some 14) _ _ _ _ _) (v := ?_) rfl (by kernel_rfl) (by kernel_rfl) (by kernel_rfl) (fun _ _ _ h => h) (Or.inl ⟨by rfl, ?_⟩) (by assumption) ?_
 rotate_left
 ·
  (intro w hSw; (try dsimp only at hSw); go_simp <;> (try with_reducible rfl))
 (try simp only [Act.put, List.setIfInBounds_toArray, List.set_cons_zero, List.set_cons_succ])
 have hF := hR.later hbF2 (by omega); have g5 := hF.2; have g2 := hF.1 0 _ rfl; have g3 := hF.1 1 _ rfl; have g4 := hF.1 2 _ rfl; clear hF
 refine wpAnyH_ready (rs := [12]) (by kernel_rfl) (by simp) ?_
 refine AllReadyH.cons (o := Oper.mk none _ _ _ _ _) rfl (fun K hK => ?_) AllReadyH.nil
 go_simp
 clear hHeld
 refine hK.out _ _ (by (try dsimp only); exact KR.out _ hbF2 [.bool n1, .slice o2 l2 c2, .slice p2 m2 k2]) (fun hHeld => ?_)
 clear hK K
 (try simp only [Act.put, List.setIfInBounds_toArray, List.set_cons_zero, List.set_cons_succ])
 refine wpAnyH_done (by kernel_rfl) ?_ _
 refine NoPanic.normal ?_
 go_wp2
 exact bodyPost_ret (v := .agg #[.bool n1, .slice o2 l2 c2, .slice p2 m2 k2]) (by simp [results, Tryz.results93, go_sem, g2, g3, g4]) rfl
  ⟨_, _, _, _, _, _, _, rfl, HX.out.num.sg, (H2.out.1.store3 (by omega) _ _ _).mono (by omega), (H2.out.2.1.store3 (by omega) _ _ _).mono (by omega), H2.out.2.2, below_store3 (bnext hbW hbF2) (by omega) _ _ _⟩
theorem sbetween_any (n1 n2 : Bool) (o1 p1 o2 p2 : Option Addr) (l1 c1 m1 k1 l2 c2 m2 k2 : Nat) (a b : Rat) (w : World) (hx : RatAt w n1 o1 l1 c1 p1 m1 k1 a) (hy : RatAt w n2 o2 l2 c2 p2 m2 k2 b) (ha : Sz a 100000) (hb : Sz b 100000) :
  Calls Tryz.prog 56 #[.agg #[.bool n1, .slice o1 l1 c1, .slice p1 m1 k1], .agg #[.bool n2, .slice o2 l2 c2, .slice p2 m2 k2]] w fun e w' => SpOut w w' e a b := by
 obtain ⟨W, hW, hsz, hbW, hA, hB, hR⟩ := enter3 w [.bool n1, .slice o1 l1 c1, .slice p1 m1 k1] [.bool n2, .slice o2 l2 c2, .slice p2 m2 k2] [.bool false, .slice none 0 0, .slice none 0 0, .bool false, .slice none 0 0, .slice none 0 0] 28 28 30
 have HX : Hid (RatAt W n1 o1 l1 c1 p1 m1 k1 a ∧ RatAt W n2 o2 l2 c2 p2 m2 k2 b) := ⟨hx.later hbW, hy.later hbW⟩
 have hl1 : l1 ≤ 100000 := (hx.len ha).1
 have hm1 : m1 ≤ 100000 := (hx.len ha).2
 have hl2 : l2 ≤ 100000 := (hy.len hb).1
 have hm2 : m2 ≤ 100000 := (hy.len hb).2
 have KW : Hid (∀ w' : World, Below W.heap.size W w' → w'.cell? ⟨w.heap.size, 0, none⟩ = some (.bool n1) ∧ w'.cell? ⟨w.heap.size, 1, none⟩ = some (.slice o1 l1 c1) ∧ w'.cell? ⟨w.heap.size, 2, none⟩ = some (.slice p1 m1 k1) ∧ w'.cell? ⟨w.heap.size + 1, 0, none⟩ = some (.bool n2) ∧ w'.cell? ⟨w.heap.size + 1, 1, none⟩ = some (.slice o2 l2 c2) ∧ w'.cell? ⟨w.heap.size + 1, 2, none⟩ = some (.slice p2 m2 k2)) := fun w' h => ⟨((hA).later h (by omega)).1 0 _ rfl, ((hA).later h (by omega)).1 1 _ rfl, ((hA).later h (by omega)).1 2 _ rfl, ((hB).later h (by omega)).1 0 _ rfl, ((hB).later h (by omega)).1 1 _ rfl, ((hB).later h (by omega)).1 2 _ rfl⟩
 clear hx hy ha hb
 go_enter Tryz.func56, Tryz.ntmps56
 go_upto_region 1 with fail
 rw [← hW]
 clear hW
 have KR : Hid (∀ X : World, Below W.heap.size W X → ∀ vs, (fun w' : World => w'.cell? ⟨w.heap.size, 0, none⟩ = some (.bool n1) ∧ w'.cell? ⟨w.heap.size, 1, none⟩ = some (.slice o1 l1 c1) ∧ w'.cell? ⟨w.heap.size, 2, none⟩ = some (.slice p1 m1 k1) ∧ w'.cell? ⟨w.heap.size + 1, 0, none⟩ = some (.bool n2) ∧ w'.cell? ⟨w.heap.size + 1, 1, none⟩ = some (.slice o2 l2 c2) ∧ w'.cell? ⟨w.heap.size + 1, 2, none⟩ = some (.slice p2 m2 k2)) (putl X (w.heap.size + 1 + 1) 0 vs)) := fun X h vs => by
  obtain ⟨h0, h1, h2, h3, h4, h5⟩ := KW.out X h
  exact ⟨(putl_off (by omega) vs 0 X).trans h0, (putl_off (by omega) vs 0 X).trans h1, (putl_off (by omega) vs 0 X).trans h2, (putl_off (by omega) vs 0 X).trans h3, (putl_off (by omega) vs 0 X).trans h4, (putl_off (by omega) vs 0 X).trans h5⟩
 refine wp_region_noPanic ?_
 refine wp_region_held_drew (S := fun w' => (w'.cell? ⟨w.heap.size, 0, none⟩ = some (.bool n1) ∧ w'.cell? ⟨w.heap.size, 1, none⟩ = some (.slice o1 l1 c1) ∧ w'.cell? ⟨w.heap.size, 2, none⟩ = some (.slice p1 m1 k1) ∧ w'.cell? ⟨w.heap.size + 1, 0, none⟩ = some (.bool n2) ∧ w'.cell? ⟨w.heap.size + 1, 1, none⟩ = some (.slice o2 l2 c2) ∧ w'.cell? ⟨w.heap.size + 1, 2, none⟩ = some (.slice p2 m2 k2))) (by kernel_rfl) (by (try dsimp only); exact KW.out _ (Below.refl _ _).drew) (fun hHeld => ?_)
 refine wpAnyH_take (i := 0) (oi := Oper.mk (some 5) _ _ _ _ _) (v := ?_) rfl (by kernel_rfl) (by kernel_rfl) (by kernel_rfl) (fun _ _ _ h => h) (Or.inl ⟨by rfl, ?_⟩) (by assumption) ?_
 rotate_left
 ·
  (intro w hSw; (try dsimp only at hSw); go_simp <;> (try with_reducible rfl))
 (try simp only [Act.put, List.setIfInBounds_toArray, List.set_cons_zero, List.set_cons_succ])
 refine wpAnyH_take (i := 2) (oi := Oper.mk (some 7) _ _ _ _ _) (v := ?_) rfl (by kernel_rfl) (by kernel_rfl) (by kernel_rfl) (fun _ _ _ h => h) (Or.inl ⟨by rfl, ?_⟩) (by assumption) ?_
 rotate_left
 ·
  (intro w hSw; (try dsimp only at hSw); go_simp <;> (try with_reducible rfl))
 (try simp only [Act.put, List.setIfInBounds_toArray, List.set_cons_zero, List.set_cons_succ])
 refine wpAnyH_ready (rs := [1]) (by kernel_rfl) (by simp) ?_
 refine AllReadyH.cons (o := Oper.mk (some 6) _ _ _ _ _) rfl (fun K hK => ?_) AllReadyH.nil
 go_simp
 (go_at_call 93; refine (sclone_any n1 o1 p1 l1 c1 m1 k1 a _ (HX.out.1.later (Below.refl _ _).drew) (by omega) (by omega)).mono ?_; rintro e f1 ⟨n3, o3, l3, c3, p3, m3, k3, rfl, hs, ho, hp, hpt, hb⟩; have H1 : Hid (n3 = sgB (a).num ∧ Own W.heap.size f1 .u64 71 o3 l3 c3 (mag (a).num.natAbs) ∧ Own W.heap.size f1 .u64 71 p3 m3 k3 (mag (a).den) ∧ Parted o3 p3) := ⟨hs, ho.mono (Nat.le_refl _), hp.mono (Nat.le_refl _), hpt⟩; clear hs ho hp hpt; have hbF1 : Below W.heap.size W f1 := bnext (Below.refl _ _).drew hb; clear hb)
 (try go_wp2_with fail)
 clear hHeld
 refine hK.out _ _ (by (try dsimp only); first | exact KW.out _ (Below.refl _ _).drew | exact KW.out _ (by assumption)) (fun hHeld => ?_)
 clear hK K
 (try simp only [Act.put, List.setIfInBounds_toArray, List.set_cons_zero, List.set_cons_succ])
 refine wpAnyH_ready (rs := [3]) (by kernel_rfl) (by simp) ?_
 refine AllReadyH.cons (o := Oper.mk (some 8) _ _ _ _ _) rfl (fun K hK => ?_) AllReadyH.nil
 go_simp
 (go_at_call 93; refine (sclone_any n2 o2 p2 l2 c2 m2 k2 b _ (HX.out.2.later hbF1) (by omega) (by omega)).mono ?_; rintro e f2 ⟨n4, o4, l4, c4, p4, m4, k4, rfl, hs, ho, hp, hpt, hb⟩; have H2 : Hid ((n3 = sgB (a).num ∧ Own W.heap.size f2 .u64 71 o3 l3 c3 (mag (a).num.natAbs) ∧ Own W.heap.size f2 .u64 71 p3 m3 k3 (mag (a).den) ∧ Parted o3 p3) ∧ (n4 = sgB (b).num ∧ Own W.heap.size f2 .u64 71 o4 l4 c4 (mag (b).num.natAbs) ∧ Own W.heap.size f2 .u64 71 p4 m4 k4 (mag (b).den) ∧ Parted o4 p4) ∧ (Parted o3 o4 ∧ Parted o3 p4 ∧ Parted p3 o4 ∧ Parted p3 p4)) := ⟨⟨H1.out.1, H1.out.2.1.later hb, H1.out.2.2.1.later hb, H1.out.2.2.2⟩, ⟨hs, ho.mono hbF1.size, hp.mono hbF1.size, hpt⟩, Parted.made H1.out.2.1 ho (Nat.le_refl _), Parted.made H1.out.2.1 hp (Nat.le_refl _), Parted.made H1.out.2.2.1 ho (Nat.le_refl _), Parted.made H1.out.2.2.1 hp (Nat.le_refl _)⟩; clear hs ho hp hpt; have hbF2 : Below W.heap.size W f2 := bnext hbF1 hb; clear hb)
 (try go_wp2_with fail)
 clear hHeld
 refine hK.out _ _ (by (try dsimp only); first | exact KW.out _ (Below.refl _ _).drew | exact KW.out _ (by assumption)) (fun hHeld => ?_)
 clear hK K
 (try simp only [Act.put, List.setIfInBounds_toArray, List.set_cons_zero, List.set_cons_succ])
 refine wpAnyH_take (i := 4) (oi := Oper.mk (some 9) _ _ _ _ _) (v := ?_) rfl (by kernel_rfl) (by kernel_rfl) (by kernel_rfl) (fun _ _ _ h => h) (Or.inl ⟨by rfl, ?_⟩) (by assumption) ?_
 rotate_left
 ·
  (intro w hSw; (try dsimp only at hSw); go_simp <;> (try with_reducible rfl))
 (try simp only [Act.put, List.setIfInBounds_toArray, List.set_cons_zero, List.set_cons_succ])
 have hF := hR.later hbF2 (by omega); have g6 := hF.2; have g0 := hF.1 0 _ rfl; have g1 := hF.1 1 _ rfl; have g2 := hF.1 2 _ rfl; have g3 := hF.1 3 _ rfl; have g4 := hF.1 4 _ rfl; have g5 := hF.1 5 _ rfl; clear hF
 refine wpAnyH_ready (rs := [5]) (by kernel_rfl) (by simp) ?_
 refine AllReadyH.cons (o := Oper.mk none _ _ _ _ _) rfl (fun K hK => ?_) AllReadyH.nil
 go_simp
 clear hHeld
 refine hK.out _ _ (by (try dsimp only); exact KR.out _ hbF2 [.bool n3, .slice o3 l3 c3, .slice p3 m3 k3, .bool n4, .slice o4 l4 c4, .slice p4 m4 k4]) (fun hHeld => ?_)
 clear hK K
 (try simp only [Act.put, List.setIfInBounds_toArray, List.set_cons_zero, List.set_cons_succ])
 refine wpAnyH_done (by kernel_rfl) ?_ _
 refine NoPanic.normal ?_
 go_wp2
 exact bodyPost_ret (v := .agg #[.bool n3, .slice o3 l3 c3, .slice p3 m3 k3, .bool n4, .slice o4 l4 c4, .slice p4 m4 k4]) (by simp [results, Tryz.results56, go_sem, g0, g1, g2, g3, g4, g5]) rfl
  ⟨_, _, _, _, _, _, _, _, _, _, _, _, _, _, rfl, ⟨H2.out.1.1, (putl_own (r := w.heap.size + 1 + 1) (by omega) [.bool n3, .slice o3 l3 c3, .slice p3 m3 k3, .bool n4, .slice o4 l4 c4, .slice p4 m4 k4] 0 _ H2.out.1.2.1).mono (by omega), (putl_own (r := w.heap.size + 1 + 1) (by omega) [.bool n3, .slice o3 l3 c3, .slice p3 m3 k3, .bool n4, .slice o4 l4 c4, .slice p4 m4 k4] 0 _ H2.out.1.2.2.1).mono (by omega), H2.out.1.2.2.2⟩, ⟨H2.out.2.1.1, (putl_own (r := w.heap.size + 1 + 1) (by omega) [.bool n3, .slice o3 l3 c3, .slice p3 m3 k3, .bool n4, .slice o4 l4 c4, .slice p4 m4 k4] 0 _ H2.out.2.1.2.1).mono (by omega), (putl_own (r := w.heap.size + 1 + 1) (by omega) [.bool n3, .slice o3 l3 c3, .slice p3 m3 k3, .bool n4, .slice o4 l4 c4, .slice p4 m4 k4] 0 _ H2.out.2.1.2.2.1).mono (by omega), H2.out.2.1.2.2.2⟩, H2.out.2.2, putl_below (r := w.heap.size + 1 + 1) (by omega) [.bool n3, .slice o3 l3 c3, .slice p3 m3 k3, .bool n4, .slice o4 l4 c4, .slice p4 m4 k4] 0 _ (bnext hbW hbF2)⟩
theorem Sz.max {a b : Rat} {k : Nat} (ha : Sz a k) (hb : Sz b k) : Sz (maxQ a b) k := by unfold maxQ; split <;> assumption
theorem Sz.min {a b : Rat} {k : Nat} (ha : Sz a k) (hb : Sz b k) : Sz (minQ a b) k := by unfold minQ; split <;> assumption
theorem smeet_any (n1 n2 n3 n4 : Bool) (o1 p1 o2 p2 o3 p3 o4 p4 : Option Addr) (l1 c1 m1 k1 l2 c2 m2 k2 l3 c3 m3 k3 l4 c4 m4 k4 : Nat) (a b a' b' : Rat) (w : World) (hx : RatAt w n1 o1 l1 c1 p1 m1 k1 a) (hy : RatAt w n2 o2 l2 c2 p2 m2 k2 b) (hx' : RatAt w n3 o3 l3 c3 p3 m3 k3 a') (hy' : RatAt w n4 o4 l4 c4 p4 m4 k4 b') (ha : Sz a 10000) (hb : Sz b 10000) (ha' : Sz a' 10000) (hb' : Sz b' 10000) (hc : cmpQ a b ≤ 0) (hc' : cmpQ a' b' ≤ 0) (hT0 : TabAt 0 Lib.deBruijn64tab w) (r : Bool) (hr : decide (cmpQ (maxQ a a') (minQ b b') ≤ 0) = r) :
  Calls Tryz.prog 23 #[.agg #[.bool n1, .slice o1 l1 c1, .slice p1 m1 k1, .bool n2, .slice o2 l2 c2, .slice p2 m2 k2], .agg #[.bool n3, .slice o3 l3 c3, .slice p3 m3 k3, .bool n4, .slice o4 l4 c4, .slice p4 m4 k4]] w fun e w' => MeetOut w w' e r (maxQ a a') (minQ b b') := by
 obtain ⟨W, hW, hsz, hbW, hA, hB, hR⟩ := enter3 w [.bool n1, .slice o1 l1 c1, .slice p1 m1 k1, .bool n2, .slice o2 l2 c2, .slice p2 m2 k2] [.bool n3, .slice o3 l3 c3, .slice p3 m3 k3, .bool n4, .slice o4 l4 c4, .slice p4 m4 k4] [.bool false, .slice none 0 0, .slice none 0 0, .bool false, .slice none 0 0, .slice none 0 0] 30 30 30
 have HX : Hid ((RatAt W n1 o1 l1 c1 p1 m1 k1 a ∧ RatAt W n2 o2 l2 c2 p2 m2 k2 b) ∧ (RatAt W n3 o3 l3 c3 p3 m3 k3 a' ∧ RatAt W n4 o4 l4 c4 p4 m4 k4 b') ∧ TabAt 0 Lib.deBruijn64tab W) := ⟨⟨hx.later hbW, hy.later hbW⟩, ⟨hx'.later hbW, hy'.later hbW⟩, tab_later hT0 hbW⟩
 have HC : Hid ((Sz a 10000 ∧ Sz b 10000 ∧ cmpQ a b ≤ 0) ∧ (Sz a' 10000 ∧ Sz b' 10000 ∧ cmpQ a' b' ≤ 0)) := ⟨⟨ha, hb, hc⟩, ⟨ha', hb', hc'⟩⟩
 have HS : Hid (Sz (maxQ a a') 10000 ∧ Sz (minQ b b') 10000) := ⟨ha.max ha', hb.min hb'⟩
 obtain ⟨c, hc1⟩ : ∃ c, cmpQ (maxQ a a') (minQ b b') = c := ⟨_, rfl⟩
 have HCC : Hid (cmpQ (maxQ a a') (minQ b b') = c) := hc1
 rw [hc1] at hr
 clear hx hy hx' hy' ha hb ha' hb' hc hc' hT0 hc1
 go_enter Tryz.func23, Tryz.ntmps23
 go_upto_region 4 with (go_at_call 45; rw [← hW]; refine (scheckBoth_good n1 n2 n3 n4 o1 p1 o2 p2 o3 p3 o4 p4 l1 c1 m1 k1 l2 c2 m2 k2 l3 c3 m3 k3 l4 c4 m4 k4 a b a' b' _ HX.out.1.1 HX.out.1.2 HX.out.2.1.1 HX.out.2.1.2 HC.out.1.1 HC.out.1.2.1 HC.out.2.1 HC.out.2.2.1 HC.out.1.2.2 HC.out.2.2.2 HX.out.2.2).mono ?_; rintro e y ⟨rfl, hb1⟩)
 clear hW
 obtain ⟨Y, hY⟩ : ∃ Y, Y = y := ⟨_, rfl⟩
 subst hY
 have HY : Hid (Below W.heap.size W Y) := hb1
 clear hb1
 have hzY := HY.out.size
 have KY : Hid (∀ w' : World, Below Y.heap.size Y w' → w'.cell? ⟨w.heap.size, 0, none⟩ = some (.bool n1) ∧ w'.cell? ⟨w.heap.size, 1, none⟩ = some (.slice o1 l1 c1) ∧ w'.cell? ⟨w.heap.size, 2, none⟩ = some (.slice p1 m1 k1) ∧ w'.cell? ⟨w.heap.size, 3, none⟩ = some (.bool n2) ∧ w'.cell? ⟨w.heap.size, 4, none⟩ = some (.slice o2 l2 c2) ∧ w'.cell? ⟨w.heap.size, 5, none⟩ = some (.slice p2 m2 k2) ∧ w'.cell? ⟨w.heap.size + 1, 0, none⟩ = some (.bool n3) ∧ w'.cell? ⟨w.heap.size + 1, 1, none⟩ = some (.slice o3 l3 c3) ∧ w'.cell? ⟨w.heap.size + 1, 2, none⟩ = some (.slice p3 m3 k3) ∧ w'.cell? ⟨w.heap.size + 1, 3, none⟩ = some (.bool n4) ∧ w'.cell? ⟨w.heap.size + 1, 4, none⟩ = some (.slice o4 l4 c4) ∧ w'.cell? ⟨w.heap.size + 1, 5, none⟩ = some (.slice p4 m4 k4)) := fun w' h => ⟨((hA.later HY.out (by omega)).later h (by omega)).1 0 _ rfl, ((hA.later HY.out (by omega)).later h (by omega)).1 1 _ rfl, ((hA.later HY.out (by omega)).later h (by omega)).1 2 _ rfl, ((hA.later HY.out (by omega)).later h (by omega)).1 3 _ rfl, ((hA.later HY.out (by omega)).later h (by omega)).1 4 _ rfl, ((hA.later HY.out (by omega)).later h (by omega)).1 5 _ rfl, ((hB.later HY.out (by omega)).later h (by omega)).1 0 _ rfl, ((hB.later HY.out (by omega)).later h (by omega)).1 1 _ rfl, ((hB.later HY.out (by omega)).later h (by omega)).1 2 _ rfl, ((hB.later HY.out (by omega)).later h (by omega)).1 3 _ rfl, ((hB.later HY.out (by omega)).later h (by omega)).1 4 _ rfl, ((hB.later HY.out (by omega)).later h (by omega)).1 5 _ rfl⟩
 go_cut [8, 9] (fun s8 s9 wx => ∃ r8 r9 n7 o7 l7 c7 p7 m7 k7 n8 o8 l8 c8 p8 m8 k8, s8 = .pointer (some ⟨r8, 0, none⟩) ∧ s9 = .pointer (some ⟨r9, 0, none⟩) ∧ Bx wx r8 [.bool n7, .slice o7 l7 c7, .slice p7 m7 k7] ∧ Bx wx r9 [.bool n8, .slice o8 l8 c8, .slice p8 m8 k8] ∧ RatAt wx n7 o7 l7 c7 p7 m7 k7 (maxQ a a') ∧ RatAt wx n8 o8 l8 c8 p8 m8 k8 (minQ b b') ∧ Y.heap.size ≤ r8 ∧ Y.heap.size ≤ r9 ∧ Below Y.heap.size Y wx)
 case first =>
  refine wp_region_noPanic ?_
  have hbV : Below Y.heap.size Y Y.drew := ((Below.refl _ _)).drew
  refine wp_region_held_drew (S := fun w' => (w'.cell? ⟨w.heap.size, 0, none⟩ = some (.bool n1) ∧ w'.cell? ⟨w.heap.size, 1, none⟩ = some (.slice o1 l1 c1) ∧ w'.cell? ⟨w.heap.size, 2, none⟩ = some (.slice p1 m1 k1) ∧ w'.cell? ⟨w.heap.size, 3, none⟩ = some (.bool n2) ∧ w'.cell? ⟨w.heap.size, 4, none⟩ = some (.slice o2 l2 c2) ∧ w'.cell? ⟨w.heap.size, 5, none⟩ = some (.slice p2 m2 k2) ∧ w'.cell? ⟨w.heap.size + 1, 0, none⟩ = some (.bool n3) ∧ w'.cell? ⟨w.heap.size + 1, 1, none⟩ = some (.slice o3 l3 c3) ∧ w'.cell? ⟨w.heap.size + 1, 2, none⟩ = some (.slice p3 m3 k3) ∧ w'.cell? ⟨w.heap.size + 1, 3, none⟩ = some (.bool n4) ∧ w'.cell? ⟨w.heap.size + 1, 4, none⟩ = some (.slice o4 l4 c4) ∧ w'.cell? ⟨w.heap.size + 1, 5, none⟩ = some (.slice p4 m4 k4))) (by kernel_rfl) (by (try dsimp only); exact KY.out _ hbV) (fun hHeld => ?_)
  clear hHeld
  generalize Y.drew = V at *
  have hHeld := KY.out _ hbV
  all_goals (
   refine wpAnyH_take (i := 0) (oi := Oper.mk (some 17) _ _ _ _ _) (v := ?_) rfl (by kernel_rfl) (by kernel_rfl) (by kernel_rfl) (fun _ _ _ h => h) (Or.inl ⟨by rfl, ?_⟩) (by assumption) ?_
   rotate_left
   ·
    (intro w hSw; (try dsimp only at hSw); go_simp <;> (try with_reducible rfl))
   (try simp only [Act.put, List.setIfInBounds_toArray, List.set_cons_zero, List.set_cons_succ]))
  all_goals (
   refine wpAnyH_take (i := 1) (oi := Oper.mk (some 18) _ _ _ _ _) (v := ?_) rfl (by kernel_rfl) (by kernel_rfl) (by kernel_rfl) (fun _ _ _ h => h) (Or.inl ⟨by rfl, ?_⟩) (by assumption) ?_
   rotate_left
   ·
    (intro w hSw; (try dsimp only at hSw); go_simp <;> (try with_reducible rfl))
   (try simp only [Act.put, List.setIfInBounds_toArray, List.set_cons_zero, List.set_cons_succ]))
  all_goals (
   refine wpAnyH_take (i := 2) (oi := Oper.mk (some 19) _ _ _ _ _) (v := ?_) rfl (by kernel_rfl) (by kernel_rfl) (by kernel_rfl) (fun _ _ _ h => h) (Or.inl ⟨by rfl, ?_⟩) (by assumption) ?_
   rotate_left
   ·
    (intro w hSw; (try dsimp only at hSw); go_simp <;> (try with_reducible rfl))
   (try simp only [Act.put, List.setIfInBounds_toArray, List.set_cons_zero, List.set_cons_succ]))
  all_goals (
   refine wpAnyH_take (i := 3) (oi := Oper.mk (some 20) _ _ _ _ _) (v := ?_) rfl (by kernel_rfl) (by kernel_rfl) (by kernel_rfl) (fun _ _ _ h => h) (Or.inl ⟨by rfl, ?_⟩) (by assumption) ?_
   rotate_left
   ·
    (intro w hSw; (try dsimp only at hSw); go_simp <;> (try with_reducible rfl))
   (try simp only [Act.put, List.setIfInBounds_toArray, List.set_cons_zero, List.set_cons_succ]))
  all_goals (
   refine wpAnyH_take (i := 5) (oi := Oper.mk (some 22) _ _ _ _ _) (v := ?_) rfl (by kernel_rfl) (by kernel_rfl) (by kernel_rfl) (fun _ _ _ h => h) (Or.inl ⟨by rfl, ?_⟩) (by assumption) ?_
   rotate_left
   ·
    (intro w hSw; (try dsimp only at hSw); go_simp <;> (try with_reducible rfl))
   (try simp only [Act.put, List.setIfInBounds_toArray, List.set_cons_zero, List.set_cons_succ]))
  all_goals (
   refine wpAnyH_take (i := 6) (oi := Oper.mk (some 23) _ _ _ _ _) (v := ?_) rfl (by kernel_rfl) (by kernel_rfl) (by kernel_rfl) (fun _ _ _ h => h) (Or.inl ⟨by rfl, ?_⟩) (by assumption) ?_
   rotate_left
   ·
    (intro w hSw; (try dsimp only at hSw); go_simp <;> (try with_reducible rfl))
   (try simp only [Act.put, List.setIfInBounds_toArray, List.set_cons_zero, List.set_cons_succ]))
  all_goals (
   refine wpAnyH_take (i := 7) (oi := Oper.mk (some 24) _ _ _ _ _) (v := ?_) rfl (by kernel_rfl) (by kernel_rfl) (by kernel_rfl) (fun _ _ _ h => h) (Or.inl ⟨by rfl, ?_⟩) (by assumption) ?_
   rotate_left
   ·
    (intro w hSw; (try dsimp only at hSw); go_simp <;> (try with_reducible rfl))
   (try simp only [Act.put, List.setIfInBounds_toArray, List.set_cons_zero, List.set_cons_succ]))
  all_goals (
   refine wpAnyH_take (i := 8) (oi := Oper.mk (some 25) _ _ _ _ _) (v := ?_) rfl (by kernel_rfl) (by kernel_rfl) (by kernel_rfl) (fun _ _ _ h => h) (Or.inl ⟨by rfl, ?_⟩) (by assumption) ?_
   rotate_left
   ·
    (intro w hSw; (try dsimp only at hSw); go_simp <;> (try with_reducible rfl))
   (try simp only [Act.put, List.setIfInBounds_toArray, List.set_cons_zero, List.set_cons_succ]))
  all_goals repeat' (first
   | (have _g := FA; clear _g; have _g := FB; clear _g; refine wpAnyH_ready (rs := [4]) (by kernel_rfl) (by simp) ?_; refine (AllReadyH.cons (o := Oper.mk (some 21) _ _ _ _ _) rfl (fun K hK => ?_) AllReadyH.nil))
   | ((fail_if_success (have _g := FA)); have _g := FB; clear _g; refine wpAnyH_ready (rs := [4, 10]) (by kernel_rfl) (by simp) ?_; refine (AllReadyH.cons (o := Oper.mk (some 21) _ _ _ _ _) rfl (fun K hK => ?_) (AllReadyH.cons (o := Oper.mk (some 8) _ _ _ _ _) rfl (fun K hK => ?_) AllReadyH.nil)); rotate_left; (go_simp; clear hHeld; have hst : Below V.heap.size V (V.alloc (.cells #[.bool false, .slice none 0 0, .slice none 0 0] 28)) := (Below.refl _ _).alloc (Nat.le_refl _) _; have FA : Hid (Bx (V.alloc (.cells #[.bool false, .slice none 0 0, .slice none 0 0] 28)) V.heap.size [.bool false, .slice none 0 0, .slice none 0 0]) := Bx.new _ _ _; obtain ⟨rA, hrA⟩ : ∃ r, r = V.heap.size := ⟨_, rfl⟩; have hzA : Y.heap.size ≤ rA := (by rw [hrA]; exact hbV.size); (try (have hAB : rA ≠ rB := (by have q := FB.out.lt; omega))); (try replace FB : Hid (Bx (V.alloc (.cells #[.bool false, .slice none 0 0, .slice none 0 0] 28)) rB [.bool false, .slice none 0 0, .slice none 0 0]) := FB.out.later hst FB.out.lt); replace hbV : Below Y.heap.size Y (V.alloc (.cells #[.bool false, .slice none 0 0, .slice none 0 0] 28)) := below_alloc hbV (Nat.le_refl _); clear hst; refine hK.out _ _ (by (try dsimp only); exact KY.out _ hbV) (fun hHeld => ?_); clear hK K hHeld; (try simp only [Act.put, List.setIfInBounds_toArray, List.set_cons_zero, List.set_cons_succ]); rw [← hrA] at FA ⊢; clear hrA; generalize V.alloc (.cells #[.bool false, .slice none 0 0, .slice none 0 0] 28) = V at *; have hHeld := KY.out _ hbV); rotate_left)
   | (have _g := FA; clear _g; (fail_if_success (have _g := FB)); refine wpAnyH_ready (rs := [4, 11]) (by kernel_rfl) (by simp) ?_; refine (AllReadyH.cons (o := Oper.mk (some 21) _ _ _ _ _) rfl (fun K hK => ?_) (AllReadyH.cons (o := Oper.mk (some 9) _ _ _ _ _) rfl (fun K hK => ?_) AllReadyH.nil)); rotate_left; (go_simp; clear hHeld; have hst : Below V.heap.size V (V.alloc (.cells #[.bool false, .slice none 0 0, .slice none 0 0] 28)) := (Below.refl _ _).alloc (Nat.le_refl _) _; have FB : Hid (Bx (V.alloc (.cells #[.bool false, .slice none 0 0, .slice none 0 0] 28)) V.heap.size [.bool false, .slice none 0 0, .slice none 0 0]) := Bx.new _ _ _; obtain ⟨rB, hrB⟩ : ∃ r, r = V.heap.size := ⟨_, rfl⟩; have hzB : Y.heap.size ≤ rB := (by rw [hrB]; exact hbV.size); (try (have hAB : rA ≠ rB := (by have q := FA.out.lt; omega))); (try replace FA : Hid (Bx (V.alloc (.cells #[.bool false, .slice none 0 0, .slice none 0 0] 28)) rA [.bool false, .slice none 0 0, .slice none 0 0]) := FA.out.later hst FA.out.lt); replace hbV : Below Y.heap.size Y (V.alloc (.cells #[.bool false, .slice none 0 0, .slice none 0 0] 28)) := below_alloc hbV (Nat.le_refl _); clear hst; refine hK.out _ _ (by (try dsimp only); exact KY.out _ hbV) (fun hHeld => ?_); clear hK K hHeld; (try simp only [Act.put, List.setIfInBounds_toArray, List.set_cons_zero, List.set_cons_succ]); rw [← hrB] at FB ⊢; clear hrB; generalize V.alloc (.cells #[.bool false, .slice none 0 0, .slice none 0 0] 28) = V at *; have hHeld := KY.out _ hbV); rotate_left)
   | ((fail_if_success (have _g := FA)); (fail_if_success (have _g := FB)); refine wpAnyH_ready (rs := [4, 10, 11]) (by kernel_rfl) (by simp) ?_; refine (AllReadyH.cons (o := Oper.mk (some 21) _ _ _ _ _) rfl (fun K hK => ?_) (AllReadyH.cons (o := Oper.mk (some 8) _ _ _ _ _) rfl (fun K hK => ?_) (AllReadyH.cons (o := Oper.mk (some 9) _ _ _ _ _) rfl (fun K hK => ?_) AllReadyH.nil))); rotate_left; (go_simp; clear hHeld; have hst : Below V.heap.size V (V.alloc (.cells #[.bool false, .slice none 0 0, .slice none 0 0] 28)) := (Below.refl _ _).alloc (Nat.le_refl _) _; have FA : Hid (Bx (V.alloc (.cells #[.bool false, .slice none 0 0, .slice none 0 0] 28)) V.heap.size [.bool false, .slice none 0 0, .slice none 0 0]) := Bx.new _ _ _; obtain ⟨rA, hrA⟩ : ∃ r, r = V.heap.size := ⟨_, rfl⟩; have hzA : Y.heap.size ≤ rA := (by rw [hrA]; exact hbV.size); (try (have hAB : rA ≠ rB := (by have q := FB.out.lt; omega))); (try replace FB : Hid (Bx (V.alloc (.cells #[.bool false, .slice none 0 0, .slice none 0 0] 28)) rB [.bool false, .slice none 0 0, .slice none 0 0]) := FB.out.later hst FB.out.lt); replace hbV : Below Y.heap.size Y (V.alloc (.cells #[.bool false, .slice none 0 0, .slice none 0 0] 28)) := below_alloc hbV (Nat.le_refl _); clear hst; refine hK.out _ _ (by (try dsimp only); exact KY.out _ hbV) (fun hHeld => ?_); clear hK K hHeld; (try simp only [Act.put, List.setIfInBounds_toArray, List.set_cons_zero, List.set_cons_succ]); rw [← hrA] at FA ⊢; clear hrA; generalize V.alloc (.cells #[.bool false, .slice none 0 0, .slice none 0 0] 28) = V at *; have hHeld := KY.out _ hbV); rotate_left; (go_simp; clear hHeld; have hst : Below V.heap.size V (V.alloc (.cells #[.bool false, .slice none 0 0, .slice none 0 0] 28)) := (Below.refl _ _).alloc (Nat.le_refl _) _; have FB : Hid (Bx (V.alloc (.cells #[.bool false, .slice none 0 0, .slice none 0 0] 28)) V.heap.size [.bool false, .slice none 0 0, .slice none 0 0]) := Bx.new _ _ _; obtain ⟨rB, hrB⟩ : ∃ r, r = V.heap.size := ⟨_, rfl⟩; have hzB : Y.heap.size ≤ rB := (by rw [hrB]; exact hbV.size); (try (have hAB : rA ≠ rB := (by have q := FA.out.lt; omega))); (try replace FA : Hid (Bx (V.alloc (.cells #[.bool false, .slice none 0 0, .slice none 0 0] 28)) rA [.bool false, .slice none 0 0, .slice none 0 0]) := FA.out.later hst FA.out.lt); replace hbV : Below Y.heap.size Y (V.alloc (.cells #[.bool false, .slice none 0 0, .slice none 0 0] 28)) := below_alloc hbV (Nat.le_refl _); clear hst; refine hK.out _ _ (by (try dsimp only); exact KY.out _ hbV) (fun hHeld => ?_); clear hK K hHeld; (try simp only [Act.put, List.setIfInBounds_toArray, List.set_cons_zero, List.set_cons_succ]); rw [← hrB] at FB ⊢; clear hrB; generalize V.alloc (.cells #[.bool false, .slice none 0 0, .slice none 0 0] 28) = V at *; have hHeld := KY.out _ hbV); rotate_left))
  all_goals (go_simp; (go_at_call 54; refine (sgreater_any n1 n3 o1 p1 o3 p3 l1 c1 m1 k1 l3 c3 m3 k3 a a' _ (HX.out.1.1.later (bnext HY.out hbV)) (HX.out.2.1.1.later (bnext HY.out hbV)) HC.out.1.1 HC.out.2.1 (tab_later HX.out.2.2 (bnext HY.out hbV))).mono ?_; rintro e V ⟨n7, o7, l7, c7, p7, m7, k7, rfl, hr7, hb⟩; have H7 : Hid (RatAt V n7 o7 l7 c7 p7 m7 k7 (maxQ a a')) := hr7; clear hr7; (try replace FA : Hid (Bx V rA [.bool false, .slice none 0 0, .slice none 0 0]) := FA.out.later hb FA.out.lt); (try replace FB : Hid (Bx V rB [.bool false, .slice none 0 0, .slice none 0 0]) := FB.out.later hb FB.out.lt); replace hbV : Below Y.heap.size Y V := bnext hbV hb; clear hb); (try go_wp2_with fail); clear hHeld; refine hK.out _ _ (by (try dsimp only); exact KY.out _ hbV) (fun hHeld => ?_); clear hK K; (try simp only [Act.put, List.setIfInBounds_toArray, List.set_cons_zero, List.set_cons_succ]))
  all_goals repeat' (first
   | (have _g := FA; clear _g; have _g := FB; clear _g; refine wpAnyH_ready (rs := [9]) (by kernel_rfl) (by simp) ?_; refine (AllReadyH.cons (o := Oper.mk (some 26) _ _ _ _ _) rfl (fun K hK => ?_) AllReadyH.nil))
   | ((fail_if_success (have _g := FA)); have _g := FB; clear _g; refine wpAnyH_ready (rs := [9, 10]) (by kernel_rfl) (by simp) ?_; refine (AllReadyH.cons (o := Oper.mk (some 26) _ _ _ _ _) rfl (fun K hK => ?_) (AllReadyH.cons (o := Oper.mk (some 8) _ _ _ _ _) rfl (fun K hK => ?_) AllReadyH.nil)); rotate_left; (go_simp; clear hHeld; have hst : Below V.heap.size V (V.alloc (.cells #[.bool false, .slice none 0 0, .slice none 0 0] 28)) := (Below.refl _ _).alloc (Nat.le_refl _) _; have FA : Hid (Bx (V.alloc (.cells #[.bool false, .slice none 0 0, .slice none 0 0] 28)) V.heap.size [.bool false, .slice none 0 0, .slice none 0 0]) := Bx.new _ _ _; obtain ⟨rA, hrA⟩ : ∃ r, r = V.heap.size := ⟨_, rfl⟩; have hzA : Y.heap.size ≤ rA := (by rw [hrA]; exact hbV.size); (try (have hAB : rA ≠ rB := (by have q := FB.out.lt; omega))); replace H7 : Hid (RatAt (V.alloc (.cells #[.bool false, .slice none 0 0, .slice none 0 0] 28)) n7 o7 l7 c7 p7 m7 k7 (maxQ a a')) := H7.out.later hst; (try replace FB : Hid (Bx (V.alloc (.cells #[.bool false, .slice none 0 0, .slice none 0 0] 28)) rB [.bool false, .slice none 0 0, .slice none 0 0]) := FB.out.later hst FB.out.lt); replace hbV : Below Y.heap.size Y (V.alloc (.cells #[.bool false, .slice none 0 0, .slice none 0 0] 28)) := below_alloc hbV (Nat.le_refl _); clear hst; refine hK.out _ _ (by (try dsimp only); exact KY.out _ hbV) (fun hHeld => ?_); clear hK K hHeld; (try simp only [Act.put, List.setIfInBounds_toArray, List.set_cons_zero, List.set_cons_succ]); rw [← hrA] at FA ⊢; clear hrA; generalize V.alloc (.cells #[.bool false, .slice none 0 0, .slice none 0 0] 28) = V at *; have hHeld := KY.out _ hbV); rotate_left)
   | (have _g := FA; clear _g; (fail_if_success (have _g := FB)); refine wpAnyH_ready (rs := [9, 11]) (by kernel_rfl) (by simp) ?_; refine (AllReadyH.cons (o := Oper.mk (some 26) _ _ _ _ _) rfl (fun K hK => ?_) (AllReadyH.cons (o := Oper.mk (some 9) _ _ _ _ _) rfl (fun K hK => ?_) AllReadyH.nil)); rotate_left; (go_simp; clear hHeld; have hst : Below V.heap.size V (V.alloc (.cells #[.bool false, .slice none 0 0, .slice none 0 0] 28)) := (Below.refl _ _).alloc (Nat.le_refl _) _; have FB : Hid (Bx (V.alloc (.cells #[.bool false, .slice none 0 0, .slice none 0 0] 28)) V.heap.size [.bool false, .slice none 0 0, .slice none 0 0]) := Bx.new _ _ _; obtain ⟨rB, hrB⟩ : ∃ r, r = V.heap.size := ⟨_, rfl⟩; have hzB : Y.heap.size ≤ rB := (by rw [hrB]; exact hbV.size); (try (have hAB : rA ≠ rB := (by have q := FA.out.lt; omega))); replace H7 : Hid (RatAt (V.alloc (.cells #[.bool false, .slice none 0 0, .slice none 0 0] 28)) n7 o7 l7 c7 p7 m7 k7 (maxQ a a')) := H7.out.later hst; (try replace FA : Hid (Bx (V.alloc (.cells #[.bool false, .slice none 0 0, .slice none 0 0] 28)) rA [.bool false, .slice none 0 0, .slice none 0 0]) := FA.out.later hst FA.out.lt); replace hbV : Below Y.heap.size Y (V.alloc (.cells #[.bool false, .slice none 0 0, .slice none 0 0] 28)) := below_alloc hbV (Nat.le_refl _); clear hst; refine hK.out _ _ (by (try dsimp only); exact KY.out _ hbV) (fun hHeld => ?_); clear hK K hHeld; (try simp only [Act.put, List.setIfInBounds_toArray, List.set_cons_zero, List.set_cons_succ]); rw [← hrB] at FB ⊢; clear hrB; generalize V.alloc (.cells #[.bool false, .slice none 0 0, .slice none 0 0] 28) = V at *; have hHeld := KY.out _ hbV); rotate_left)
   | ((fail_if_success (have _g := FA)); (fail_if_success (have _g := FB)); refine wpAnyH_ready (rs := [9, 10, 11]) (by kernel_rfl) (by simp) ?_; refine (AllReadyH.cons (o := Oper.mk (some 26) _ _ _ _ _) rfl (fun K hK => ?_) (AllReadyH.cons (o := Oper.mk (some 8) _ _ _ _ _) rfl (fun K hK => ?_) (AllReadyH.cons (o := Oper.mk (some 9) _ _ _ _ _) rfl (fun K hK => ?_) AllReadyH.nil))); rotate_left; (go_simp; clear hHeld; have hst : Below V.heap.size V (V.alloc (.cells #[.bool false, .slice none 0 0, .slice none 0 0] 28)) := (Below.refl _ _).alloc (Nat.le_refl _) _; have FA : Hid (Bx (V.alloc (.cells #[.bool false, .slice none 0 0, .slice none 0 0] 28)) V.heap.size [.bool false, .slice none 0 0, .slice none 0 0]) := Bx.new _ _ _; obtain ⟨rA, hrA⟩ : ∃ r, r = V.heap.size := ⟨_, rfl⟩; have hzA : Y.heap.size ≤ rA := (by rw [hrA]; exact hbV.size); (try (have hAB : rA ≠ rB := (by have q := FB.out.lt; omega))); replace H7 : Hid (RatAt (V.alloc (.cells #[.bool false, .slice none 0 0, .slice none 0 0] 28)) n7 o7 l7 c7 p7 m7 k7 (maxQ a a')) := H7.out.later hst; (try replace FB : Hid (Bx (V.alloc (.cells #[.bool false, .slice none 0 0, .slice none 0 0] 28)) rB [.bool false, .slice none 0 0, .slice none 0 0]) := FB.out.later hst FB.out.lt); replace hbV : Below Y.heap.size Y (V.alloc (.cells #[.bool false, .slice none 0 0, .slice none 0 0] 28)) := below_alloc hbV (Nat.le_refl _); clear hst; refine hK.out _ _ (by (try dsimp only); exact KY.out _ hbV) (fun hHeld => ?_); clear hK K hHeld; (try simp only [Act.put, List.setIfInBounds_toArray, List.set_cons_zero, List.set_cons_succ]); rw [← hrA] at FA ⊢; clear hrA; generalize V.alloc (.cells #[.bool false, .slice none 0 0, .slice none 0 0] 28) = V at *; have hHeld := KY.out _ hbV); rotate_left; (go_simp; clear hHeld; have hst : Below V.heap.size V (V.alloc (.cells #[.bool false, .slice none 0 0, .slice none 0 0] 28)) := (Below.refl _ _).alloc (Nat.le_refl _) _; have FB : Hid (Bx (V.alloc (.cells #[.bool false, .slice none 0 0, .slice none 0 0] 28)) V.heap.size [.bool false, .slice none 0 0, .slice none 0 0]) := Bx.new _ _ _; obtain ⟨rB, hrB⟩ : ∃ r, r = V.heap.size := ⟨_, rfl⟩; have hzB : Y.heap.size ≤ rB := (by rw [hrB]; exact hbV.size); (try (have hAB : rA ≠ rB := (by have q := FA.out.lt; omega))); replace H7 : Hid (RatAt (V.alloc (.cells #[.bool false, .slice none 0 0, .slice none 0 0] 28)) n7 o7 l7 c7 p7 m7 k7 (maxQ a a')) := H7.out.later hst; (try replace FA : Hid (Bx (V.alloc (.cells #[.bool false, .slice none 0 0, .slice none 0 0] 28)) rA [.bool false, .slice none 0 0, .slice none 0 0]) := FA.out.later hst FA.out.lt); replace hbV : Below Y.heap.size Y (V.alloc (.cells #[.bool false, .slice none 0 0, .slice none 0 0] 28)) := below_alloc hbV (Nat.le_refl _); clear hst; refine hK.out _ _ (by (try dsimp only); exact KY.out _ hbV) (fun hHeld => ?_); clear hK K hHeld; (try simp only [Act.put, List.setIfInBounds_toArray, List.set_cons_zero, List.set_cons_succ]); rw [← hrB] at FB ⊢; clear hrB; generalize V.alloc (.cells #[.bool false, .slice none 0 0, .slice none 0 0] 28) = V at *; have hHeld := KY.out _ hbV); rotate_left))
  all_goals (go_simp; (go_at_call 55; refine (sless_any n2 n4 o2 p2 o4 p4 l2 c2 m2 k2 l4 c4 m4 k4 b b' _ (HX.out.1.2.later (bnext HY.out hbV)) (HX.out.2.1.2.later (bnext HY.out hbV)) HC.out.1.2.1 HC.out.2.2.1 (tab_later HX.out.2.2 (bnext HY.out hbV))).mono ?_; rintro e V ⟨n8, o8, l8, c8, p8, m8, k8, rfl, hr8, hb⟩; have H8 : Hid (RatAt V n8 o8 l8 c8 p8 m8 k8 (minQ b b')) := hr8; clear hr8; replace H7 : Hid (RatAt V n7 o7 l7 c7 p7 m7 k7 (maxQ a a')) := H7.out.later hb; (try replace FA : Hid (Bx V rA [.bool false, .slice none 0 0, .slice none 0 0]) := FA.out.later hb FA.out.lt); (try replace FB : Hid (Bx V rB [.bool false, .slice none 0 0, .slice none 0 0]) := FB.out.later hb FB.out.lt); replace hbV : Below Y.heap.size Y V := bnext hbV hb; clear hb); (try go_wp2_with fail); clear hHeld; refine hK.out _ _ (by (try dsimp only); exact KY.out _ hbV) (fun hHeld => ?_); clear hK K; (try simp only [Act.put, List.setIfInBounds_toArray, List.set_cons_zero, List.set_cons_succ]))
  all_goals repeat' (first
   | (have _g := FA; clear _g; have _g := FB; clear _g; refine wpAnyH_ready (rs := [12]) (by kernel_rfl) (by simp) ?_; refine (AllReadyH.cons (o := Oper.mk none _ _ _ _ _) rfl (fun K hK => ?_) AllReadyH.nil))
   | ((fail_if_success (have _g := FA)); have _g := FB; clear _g; refine wpAnyH_ready (rs := [10]) (by kernel_rfl) (by simp) ?_; refine (AllReadyH.cons (o := Oper.mk (some 8) _ _ _ _ _) rfl (fun K hK => ?_) AllReadyH.nil); (go_simp; clear hHeld; have hst : Below V.heap.size V (V.alloc (.cells #[.bool false, .slice none 0 0, .slice none 0 0] 28)) := (Below.refl _ _).alloc (Nat.le_refl _) _; have FA : Hid (Bx (V.alloc (.cells #[.bool false, .slice none 0 0, .slice none 0 0] 28)) V.heap.size [.bool false, .slice none 0 0, .slice none 0 0]) := Bx.new _ _ _; obtain ⟨rA, hrA⟩ : ∃ r, r = V.heap.size := ⟨_, rfl⟩; have hzA : Y.heap.size ≤ rA := (by rw [hrA]; exact hbV.size); (try (have hAB : rA ≠ rB := (by have q := FB.out.lt; omega))); replace H7 : Hid (RatAt (V.alloc (.cells #[.bool false, .slice none 0 0, .slice none 0 0] 28)) n7 o7 l7 c7 p7 m7 k7 (maxQ a a')) := H7.out.later hst; replace H8 : Hid (RatAt (V.alloc (.cells #[.bool false, .slice none 0 0, .slice none 0 0] 28)) n8 o8 l8 c8 p8 m8 k8 (minQ b b')) := H8.out.later hst; (try replace FB : Hid (Bx (V.alloc (.cells #[.bool false, .slice none 0 0, .slice none 0 0] 28)) rB [.bool false, .slice none 0 0, .slice none 0 0]) := FB.out.later hst FB.out.lt); replace hbV : Below Y.heap.size Y (V.alloc (.cells #[.bool false, .slice none 0 0, .slice none 0 0] 28)) := below_alloc hbV (Nat.le_refl _); clear hst; refine hK.out _ _ (by (try dsimp only); exact KY.out _ hbV) (fun hHeld => ?_); clear hK K hHeld; (try simp only [Act.put, List.setIfInBounds_toArray, List.set_cons_zero, List.set_cons_succ]); rw [← hrA] at FA ⊢; clear hrA; generalize V.alloc (.cells #[.bool false, .slice none 0 0, .slice none 0 0] 28) = V at *; have hHeld := KY.out _ hbV))
   | (have _g := FA; clear _g; (fail_if_success (have _g := FB)); refine wpAnyH_ready (rs := [11]) (by kernel_rfl) (by simp) ?_; refine (AllReadyH.cons (o := Oper.mk (some 9) _ _ _ _ _) rfl (fun K hK => ?_) AllReadyH.nil); (go_simp; clear hHeld; have hst : Below V.heap.size V (V.alloc (.cells #[.bool false, .slice none 0 0, .slice none 0 0] 28)) := (Below.refl _ _).alloc (Nat.le_refl _) _; have FB : Hid (Bx (V.alloc (.cells #[.bool false, .slice none 0 0, .slice none 0 0] 28)) V.heap.size [.bool false, .slice none 0 0, .slice none 0 0]) := Bx.new _ _ _; obtain ⟨rB, hrB⟩ : ∃ r, r = V.heap.size := ⟨_, rfl⟩; have hzB : Y.heap.size ≤ rB := (by rw [hrB]; exact hbV.size); (try (have hAB : rA ≠ rB := (by have q := FA.out.lt; omega))); replace H7 : Hid (RatAt (V.alloc (.cells #[.bool false, .slice none 0 0, .slice none 0 0] 28)) n7 o7 l7 c7 p7 m7 k7 (maxQ a a')) := H7.out.later hst; replace H8 : Hid (RatAt (V.alloc (.cells #[.bool false, .slice none 0 0, .slice none 0 0] 28)) n8 o8 l8 c8 p8 m8 k8 (minQ b b')) := H8.out.later hst; (try replace FA : Hid (Bx (V.alloc (.cells #[.bool false, .slice none 0 0, .slice none 0 0] 28)) rA [.bool false, .slice none 0 0, .slice none 0 0]) := FA.out.later hst FA.out.lt); replace hbV : Below Y.heap.size Y (V.alloc (.cells #[.bool false, .slice none 0 0, .slice none 0 0] 28)) := below_alloc hbV (Nat.le_refl _); clear hst; refine hK.out _ _ (by (try dsimp only); exact KY.out _ hbV) (fun hHeld => ?_); clear hK K hHeld; (try simp only [Act.put, List.setIfInBounds_toArray, List.set_cons_zero, List.set_cons_succ]); rw [← hrB] at FB ⊢; clear hrB; generalize V.alloc (.cells #[.bool false, .slice none 0 0, .slice none 0 0] 28) = V at *; have hHeld := KY.out _ hbV))
   | ((fail_if_success (have _g := FA)); (fail_if_success (have _g := FB)); refine wpAnyH_ready (rs := [10, 11]) (by kernel_rfl) (by simp) ?_; refine (AllReadyH.cons (o := Oper.mk (some 8) _ _ _ _ _) rfl (fun K hK => ?_) (AllReadyH.cons (o := Oper.mk (some 9) _ _ _ _ _) rfl (fun K hK => ?_) AllReadyH.nil)); (go_simp; clear hHeld; have hst : Below V.heap.size V (V.alloc (.cells #[.bool false, .slice none 0 0, .slice none 0 0] 28)) := (Below.refl _ _).alloc (Nat.le_refl _) _; have FA : Hid (Bx (V.alloc (.cells #[.bool false, .slice none 0 0, .slice none 0 0] 28)) V.heap.size [.bool false, .slice none 0 0, .slice none 0 0]) := Bx.new _ _ _; obtain ⟨rA, hrA⟩ : ∃ r, r = V.heap.size := ⟨_, rfl⟩; have hzA : Y.heap.size ≤ rA := (by rw [hrA]; exact hbV.size); (try (have hAB : rA ≠ rB := (by have q := FB.out.lt; omega))); replace H7 : Hid (RatAt (V.alloc (.cells #[.bool false, .slice none 0 0, .slice none 0 0] 28)) n7 o7 l7 c7 p7 m7 k7 (maxQ a a')) := H7.out.later hst; replace H8 : Hid (RatAt (V.alloc (.cells #[.bool false, .slice none 0 0, .slice none 0 0] 28)) n8 o8 l8 c8 p8 m8 k8 (minQ b b')) := H8.out.later hst; (try replace FB : Hid (Bx (V.alloc (.cells #[.bool false, .slice none 0 0, .slice none 0 0] 28)) rB [.bool false, .slice none 0 0, .slice none 0 0]) := FB.out.later hst FB.out.lt); replace hbV : Below Y.heap.size Y (V.alloc (.cells #[.bool false, .slice none 0 0, .slice none 0 0] 28)) := below_alloc hbV (Nat.le_refl _); clear hst; refine hK.out _ _ (by (try dsimp only); exact KY.out _ hbV) (fun hHeld => ?_); clear hK K hHeld; (try simp only [Act.put, List.setIfInBounds_toArray, List.set_cons_zero, List.set_cons_succ]); rw [← hrA] at FA ⊢; clear hrA; generalize V.alloc (.cells #[.bool false, .slice none 0 0, .slice none 0 0] 28) = V at *; have hHeld := KY.out _ hbV); rotate_left; (go_simp; clear hHeld; have hst : Below V.heap.size V (V.alloc (.cells #[.bool false, .slice none 0 0, .slice none 0 0] 28)) := (Below.refl _ _).alloc (Nat.le_refl _) _; have FB : Hid (Bx (V.alloc (.cells #[.bool false, .slice none 0 0, .slice none 0 0] 28)) V.heap.size [.bool false, .slice none 0 0, .slice none 0 0]) := Bx.new _ _ _; obtain ⟨rB, hrB⟩ : ∃ r, r = V.heap.size := ⟨_, rfl⟩; have hzB : Y.heap.size ≤ rB := (by rw [hrB]; exact hbV.size); (try (have hAB : rA ≠ rB := (by have q := FA.out.lt; omega))); replace H7 : Hid (RatAt (V.alloc (.cells #[.bool false, .slice none 0 0, .slice none 0 0] 28)) n7 o7 l7 c7 p7 m7 k7 (maxQ a a')) := H7.out.later hst; replace H8 : Hid (RatAt (V.alloc (.cells #[.bool false, .slice none 0 0, .slice none 0 0] 28)) n8 o8 l8 c8 p8 m8 k8 (minQ b b')) := H8.out.later hst; (try replace FA : Hid (Bx (V.alloc (.cells #[.bool false, .slice none 0 0, .slice none 0 0] 28)) rA [.bool false, .slice none 0 0, .slice none 0 0]) := FA.out.later hst FA.out.lt); replace hbV : Below Y.heap.size Y (V.alloc (.cells #[.bool false, .slice none 0 0, .slice none 0 0] 28)) := below_alloc hbV (Nat.le_refl _); clear hst; refine hK.out _ _ (by (try dsimp only); exact KY.out _ hbV) (fun hHeld => ?_); clear hK K hHeld; (try simp only [Act.put, List.setIfInBounds_toArray, List.set_cons_zero, List.set_cons_succ]); rw [← hrB] at FB ⊢; clear hrB; generalize V.alloc (.cells #[.bool false, .slice none 0 0, .slice none 0 0] 28) = V at *; have hHeld := KY.out _ hbV); rotate_left))
  all_goals (have bf := FA.out.2; have b0 := FA.out.1 0 _ rfl; have b1 := FA.out.1 1 _ rfl; have b2 := FA.out.1 2 _ rfl; go_simp; clear hHeld bf b0 b1 b2; replace H7 : Hid (RatAt (((V.setCell ⟨rA, 0, none⟩ (.bool n7)).setCell ⟨rA, 1, none⟩ (.slice o7 l7 c7)).setCell ⟨rA, 2, none⟩ (.slice p7 m7 k7)) n7 o7 l7 c7 p7 m7 k7 (maxQ a a')) := FA.out.rat (by simp [NoWord]) (ws := [.bool n7, .slice o7 l7 c7, .slice p7 m7 k7]) rfl H7.out; replace H8 : Hid (RatAt (((V.setCell ⟨rA, 0, none⟩ (.bool n7)).setCell ⟨rA, 1, none⟩ (.slice o7 l7 c7)).setCell ⟨rA, 2, none⟩ (.slice p7 m7 k7)) n8 o8 l8 c8 p8 m8 k8 (minQ b b')) := FA.out.rat (by simp [NoWord]) (ws := [.bool n7, .slice o7 l7 c7, .slice p7 m7 k7]) rfl H8.out; (try replace FB : Hid (Bx (((V.setCell ⟨rA, 0, none⟩ (.bool n7)).setCell ⟨rA, 1, none⟩ (.slice o7 l7 c7)).setCell ⟨rA, 2, none⟩ (.slice p7 m7 k7)) rB [.bool false, .slice none 0 0, .slice none 0 0]) := FB.out.off (ws := [.bool n7, .slice o7 l7 c7, .slice p7 m7 k7]) (by first | assumption | exact Ne.symm (by assumption) | omega) 0); have BA : Hid (Bx (((V.setCell ⟨rA, 0, none⟩ (.bool n7)).setCell ⟨rA, 1, none⟩ (.slice o7 l7 c7)).setCell ⟨rA, 2, none⟩ (.slice p7 m7 k7)) rA [.bool n7, .slice o7 l7 c7, .slice p7 m7 k7]) := FA.out.put (ws := [.bool n7, .slice o7 l7 c7, .slice p7 m7 k7]) rfl; clear FA; replace hbV : Below Y.heap.size Y (((V.setCell ⟨rA, 0, none⟩ (.bool n7)).setCell ⟨rA, 1, none⟩ (.slice o7 l7 c7)).setCell ⟨rA, 2, none⟩ (.slice p7 m7 k7)) := putl_below hzA [.bool n7, .slice o7 l7 c7, .slice p7 m7 k7] 0 _ hbV; refine hK.out _ _ (by (try dsimp only); exact KY.out _ hbV) (fun hHeld => ?_); clear hK K hHeld; (try simp only [Act.put, List.setIfInBounds_toArray, List.set_cons_zero, List.set_cons_succ]); generalize (((V.setCell ⟨rA, 0, none⟩ (.bool n7)).setCell ⟨rA, 1, none⟩ (.slice o7 l7 c7)).setCell ⟨rA, 2, none⟩ (.slice p7 m7 k7)) = V at *; have hHeld := KY.out _ hbV)
  all_goals repeat' (first
   | (have _g := FB; clear _g; refine wpAnyH_ready (rs := [13]) (by kernel_rfl) (by simp) ?_; refine (AllReadyH.cons (o := Oper.mk none _ _ _ _ _) rfl (fun K hK => ?_) AllReadyH.nil))
   | ((fail_if_success (have _g := FB)); refine wpAnyH_ready (rs := [11]) (by kernel_rfl) (by simp) ?_; refine (AllReadyH.cons (o := Oper.mk (some 9) _ _ _ _ _) rfl (fun K hK => ?_) AllReadyH.nil); (go_simp; clear hHeld; have hst : Below V.heap.size V (V.alloc (.cells #[.bool false, .slice none 0 0, .slice none 0 0] 28)) := (Below.refl _ _).alloc (Nat.le_refl _) _; have FB : Hid (Bx (V.alloc (.cells #[.bool false, .slice none 0 0, .slice none 0 0] 28)) V.heap.size [.bool false, .slice none 0 0, .slice none 0 0]) := Bx.new _ _ _; obtain ⟨rB, hrB⟩ : ∃ r, r = V.heap.size := ⟨_, rfl⟩; have hzB : Y.heap.size ≤ rB := (by rw [hrB]; exact hbV.size); have hBBA : rB ≠ rA := (by have q := BA.out.lt; omega); replace H7 : Hid (RatAt (V.alloc (.cells #[.bool false, .slice none 0 0, .slice none 0 0] 28)) n7 o7 l7 c7 p7 m7 k7 (maxQ a a')) := H7.out.later hst; replace H8 : Hid (RatAt (V.alloc (.cells #[.bool false, .slice none 0 0, .slice none 0 0] 28)) n8 o8 l8 c8 p8 m8 k8 (minQ b b')) := H8.out.later hst; replace BA : Hid (Bx (V.alloc (.cells #[.bool false, .slice none 0 0, .slice none 0 0] 28)) rA [.bool n7, .slice o7 l7 c7, .slice p7 m7 k7]) := BA.out.later hst BA.out.lt; replace hbV : Below Y.heap.size Y (V.alloc (.cells #[.bool false, .slice none 0 0, .slice none 0 0] 28)) := below_alloc hbV (Nat.le_refl _); clear hst; refine hK.out _ _ (by (try dsimp only); exact KY.out _ hbV) (fun hHeld => ?_); clear hK K hHeld; (try simp only [Act.put, List.setIfInBounds_toArray, List.set_cons_zero, List.set_cons_succ]); rw [← hrB] at FB ⊢; clear hrB; generalize V.alloc (.cells #[.bool false, .slice none 0 0, .slice none 0 0] 28) = V at *; have hHeld := KY.out _ hbV)))
  all_goals (have bf := FB.out.2; have b0 := FB.out.1 0 _ rfl; have b1 := FB.out.1 1 _ rfl; have b2 := FB.out.1 2 _ rfl; go_simp; clear hHeld bf b0 b1 b2; replace H7 : Hid (RatAt (((V.setCell ⟨rB, 0, none⟩ (.bool n8)).setCell ⟨rB, 1, none⟩ (.slice o8 l8 c8)).setCell ⟨rB, 2, none⟩ (.slice p8 m8 k8)) n7 o7 l7 c7 p7 m7 k7 (maxQ a a')) := FB.out.rat (by simp [NoWord]) (ws := [.bool n8, .slice o8 l8 c8, .slice p8 m8 k8]) rfl H7.out; replace H8 : Hid (RatAt (((V.setCell ⟨rB, 0, none⟩ (.bool n8)).setCell ⟨rB, 1, none⟩ (.slice o8 l8 c8)).setCell ⟨rB, 2, none⟩ (.slice p8 m8 k8)) n8 o8 l8 c8 p8 m8 k8 (minQ b b')) := FB.out.rat (by simp [NoWord]) (ws := [.bool n8, .slice o8 l8 c8, .slice p8 m8 k8]) rfl H8.out; replace BA : Hid (Bx (((V.setCell ⟨rB, 0, none⟩ (.bool n8)).setCell ⟨rB, 1, none⟩ (.slice o8 l8 c8)).setCell ⟨rB, 2, none⟩ (.slice p8 m8 k8)) rA [.bool n7, .slice o7 l7 c7, .slice p7 m7 k7]) := BA.out.off (ws := [.bool n8, .slice o8 l8 c8, .slice p8 m8 k8]) (by first | assumption | exact Ne.symm (by assumption) | omega) 0; have BB : Hid (Bx (((V.setCell ⟨rB, 0, none⟩ (.bool n8)).setCell ⟨rB, 1, none⟩ (.slice o8 l8 c8)).setCell ⟨rB, 2, none⟩ (.slice p8 m8 k8)) rB [.bool n8, .slice o8 l8 c8, .slice p8 m8 k8]) := FB.out.put (ws := [.bool n8, .slice o8 l8 c8, .slice p8 m8 k8]) rfl; clear FB; replace hbV : Below Y.heap.size Y (((V.setCell ⟨rB, 0, none⟩ (.bool n8)).setCell ⟨rB, 1, none⟩ (.slice o8 l8 c8)).setCell ⟨rB, 2, none⟩ (.slice p8 m8 k8)) := putl_below hzB [.bool n8, .slice o8 l8 c8, .slice p8 m8 k8] 0 _ hbV; refine hK.out _ _ (by (try dsimp only); exact KY.out _ hbV) (fun hHeld => ?_); clear hK K hHeld; (try simp only [Act.put, List.setIfInBounds_toArray, List.set_cons_zero, List.set_cons_succ]); generalize (((V.setCell ⟨rB, 0, none⟩ (.bool n8)).setCell ⟨rB, 1, none⟩ (.slice o8 l8 c8)).setCell ⟨rB, 2, none⟩ (.slice p8 m8 k8)) = V at *; have hHeld := KY.out _ hbV)
  all_goals (refine wpAnyH_done (by kernel_rfl) ?_ _; refine NoPanic.normal ?_)
  all_goals (go_wp2; go_meet; exact ⟨_, _, _, _, _, _, _, _, _, _, _, _, _, _, _, _, rfl, rfl, BA.out, BB.out, H7.out, H8.out, hzA, hzB, hbV⟩)
 case rest =>
  obtain ⟨r8, r9, n7, o7, l7, c7, p7, m7, k7, n8, o8, l8, c8, p8, m8, k8, rfl, rfl, hb8, hb9, h7, h8, hz8, hz9, hbY⟩ := hcut
  obtain ⟨X, hX⟩ : ∃ X, X = wc := ⟨_, rfl⟩
  rw [← hX] at hb8 hb9 h7 h8 hbY
  rw [← hX]
  clear hX
  have H8 : Hid (Bx X r8 [.bool n7, .slice o7 l7 c7, .slice p7 m7 k7] ∧ Bx X r9 [.bool n8, .slice o8 l8 c8, .slice p8 m8 k8] ∧ RatAt X n7 o7 l7 c7 p7 m7 k7 (maxQ a a') ∧ RatAt X n8 o8 l8 c8 p8 m8 k8 (minQ b b') ∧ Below W.heap.size W X) := ⟨hb8, hb9, h7, h8, bnext HY.out hbY⟩
  have e0 := hb8.1 0 _ rfl; have e1 := hb8.1 1 _ rfl; have e2 := hb8.1 2 _ rfl
  have d0 := hb9.1 0 _ rfl; have d1 := hb9.1 1 _ rfl; have d2 := hb9.1 2 _ rfl
  have hlt8 := hb8.lt; have hlt9 := hb9.lt
  clear hb8 hb9 h7 h8 hbY KY
  by_cases hc0 : (0 : Int) < c
  ·
   obtain rfl : r = false := by rw [← hr]; exact decide_eq_false (by omega)
   clear hr
   go_wp2_with (go_at_call 44; refine (cmp_rat n7 n8 o7 p7 o8 p8 l7 c7 m7 k7 l8 c8 m8 k8 (maxQ a a') (minQ b b') _ H8.out.2.2.1 H8.out.2.2.2.1 HS.out.1 HS.out.2 (tab_later HX.out.2.2 H8.out.2.2.2.2) c HCC.out).mono ?_; rintro e z ⟨rfl, hb⟩; have HZ : Hid (Below W.heap.size W z) := bnext H8.out.2.2.2.2 hb; clear e0 e1 e2 d0 d1 d2; have hF := hR.later HZ.out (by omega); have g6 := hF.2; have g0 := hF.1 0 _ rfl; have g1 := hF.1 1 _ rfl; have g2 := hF.1 2 _ rfl; have g3 := hF.1 3 _ rfl; have g4 := hF.1 4 _ rfl; have g5 := hF.1 5 _ rfl; clear hF)
   exact bodyPost_ret (v := .tuple #[.agg #[.bool false, .slice none 0 0, .slice none 0 0, .bool false, .slice none 0 0, .slice none 0 0], .bool false, .int .i64 0]) (by simp [results, Tryz.results23, go_sem, g0, g1, g2, g3, g4, g5]) rfl
    ⟨_, _, _, _, _, _, _, _, _, _, _, _, _, _, rfl, putl_below (r := w.heap.size + 1 + 1) (by omega) [.bool false, .slice none 0 0, .slice none 0 0, .bool false, .slice none 0 0, .slice none 0 0] 0 _ (bnext hbW HZ.out), fun h => by cases h⟩
  ·
   obtain rfl : r = true := by rw [← hr]; exact decide_eq_true (by omega)
   clear hr
   go_wp2_with (first
    | (go_at_call 44; refine (cmp_rat n7 n8 o7 p7 o8 p8 l7 c7 m7 k7 l8 c8 m8 k8 (maxQ a a') (minQ b b') _ H8.out.2.2.1 H8.out.2.2.2.1 HS.out.1 HS.out.2 (tab_later HX.out.2.2 H8.out.2.2.2.2) c HCC.out).mono ?_; rintro e z ⟨rfl, hb⟩; have HZ : Hid (Below W.heap.size W z) := bnext H8.out.2.2.2.2 hb; clear e0 e1 e2 d0 d1 d2; have eb := H8.out.1.later hb hlt8; have e0 := eb.1 0 _ rfl; have e1 := eb.1 1 _ rfl; have e2 := eb.1 2 _ rfl; clear eb; have db := H8.out.2.1.later hb hlt9; have d0 := db.1 0 _ rfl; have d1 := db.1 1 _ rfl; have d2 := db.1 2 _ rfl; clear db; have H9 : Hid (RatAt z n7 o7 l7 c7 p7 m7 k7 (maxQ a a') ∧ RatAt z n8 o8 l8 c8 p8 m8 k8 (minQ b b')) := ⟨H8.out.2.2.1.later hb, H8.out.2.2.2.1.later hb⟩; clear hb)
    | (go_at_call 56; refine (sbetween_any n7 n8 o7 p7 o8 p8 l7 c7 m7 k7 l8 c8 m8 k8 (maxQ a a') (minQ b b') _ H9.out.1 H9.out.2 (HS.out.1.mono (by decide)) (HS.out.2.mono (by decide))).mono ?_; rintro e z2 ⟨n5, o5, l5, c5, p5, m5, k5, n6, o6, l6, c6, p6, m6, k6, rfl, hn⟩; have HN : Hid (NewSp z z2 n5 n6 o5 p5 o6 p6 l5 c5 m5 k5 l6 c6 m6 k6 (maxQ a a') (minQ b b')) := hn; have HZ2 : Hid (Below W.heap.size W z2) := bnext HZ.out hn.2.2.2; clear hn; have hzz := HZ.out.size; have hF := hR.later HZ2.out (by omega); have g6 := hF.2; have g0 := hF.1 0 _ rfl; have g1 := hF.1 1 _ rfl; have g2 := hF.1 2 _ rfl; have g3 := hF.1 3 _ rfl; have g4 := hF.1 4 _ rfl; have g5 := hF.1 5 _ rfl; clear hF))
   exact bodyPost_ret (v := .tuple #[.agg #[.bool n5, .slice o5 l5 c5, .slice p5 m5 k5, .bool n6, .slice o6 l6 c6, .slice p6 m6 k6], .bool true, .int .i64 0]) (by simp [results, Tryz.results23, go_sem, g0, g1, g2, g3, g4, g5]) rfl
    ⟨_, _, _, _, _, _, _, _, _, _, _, _, _, _, rfl, putl_below (r := w.heap.size + 1 + 1) (by omega) [.bool n5, .slice o5 l5 c5, .slice p5 m5 k5, .bool n6, .slice o6 l6 c6, .slice p6 m6 k6] 0 _ (bnext hbW HZ2.out), fun _ => ⟨⟨HN.out.1.1, (putl_own (r := w.heap.size + 1 + 1) (by omega) [.bool n5, .slice o5 l5 c5, .slice p5 m5 k5, .bool n6, .slice o6 l6 c6, .slice p6 m6 k6] 0 _ HN.out.1.2.1).mono (by omega), (putl_own (r := w.heap.size + 1 + 1) (by omega) [.bool n5, .slice o5 l5 c5, .slice p5 m5 k5, .bool n6, .slice o6 l6 c6, .slice p6 m6 k6] 0 _ HN.out.1.2.2.1).mono (by omega), HN.out.1.2.2.2⟩, ⟨HN.out.2.1.1, (putl_own (r := w.heap.size + 1 + 1) (by omega) [.bool n5, .slice o5 l5 c5, .slice p5 m5 k5, .bool n6, .slice o6 l6 c6, .slice p6 m6 k6] 0 _ HN.out.2.1.2.1).mono (by omega), (putl_own (r := w.heap.size + 1 + 1) (by omega) [.bool n5, .slice o5 l5 c5, .slice p5 m5 k5, .bool n6, .slice o6 l6 c6, .slice p6 m6 k6] 0 _ HN.out.2.1.2.2.1).mono (by omega), HN.out.2.1.2.2.2⟩, HN.out.2.2.1, putl_below (r := w.heap.size + 1 + 1) (by omega) [.bool n5, .slice o5 l5 c5, .slice p5 m5 k5, .bool n6, .slice o6 l6 c6, .slice p6 m6 k6] 0 _ (bnext hbW HZ2.out)⟩⟩
end Go.Proofs.YthgnaceokcaieaaGreatDoor
