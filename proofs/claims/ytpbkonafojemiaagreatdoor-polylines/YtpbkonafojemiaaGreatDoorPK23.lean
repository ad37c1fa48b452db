/-
  A pack of walks and facts: ZC.
-/
import Derived.Test.YtpbkonafojemiaaGreatDoorPK11
import Derived.Test.YtpbkonafojemiaaGreatDoorPK21
import Derived.Test.YtpbkonafojemiaaGreatDoorPK22
import Derived.Deep.DeepCutAuto
set_option maxRecDepth 100000
set_option maxHeartbeats 40000000
set_option linter.unusedVariables false
set_option linter.unusedSimpArgs false
namespace Go.Proofs.YtpbkonafojemiaaGreatDoor
open Go.RowKit
structure ES (B : Nat) (w : World) (g gq gd : Nat) (bo : Option Addr) (cb k : Nat) (b : List Int) (mo : Nat) (r q : List Int) : Prop where
 ord : B ≤ gq ∧ gq < gd ∧ gd < g ∧ g < w.heap.size
 d0 : w.cell? ⟨gd, 0, none⟩ = some (.slice bo 2 cb)
 d1 : w.cell? ⟨gd, 1, none⟩ = some (.slice (some ⟨gq, 0, none⟩) k k)
 d2 : w.cell? ⟨gd, 2, none⟩ = some (.int .i64 (mo : Int))
 hb : PolyAt w bo 2 cb b
 far : ∀ a : Addr, bo = some a → a.block < B
 hr : PBlk w g r
 hq : PBlk w gq q
theorem ES.later {B : Nat} {w w' : World} {g gq gd : Nat} {bo : Option Addr} {cb k mo : Nat} {b r q : List Int} (h : ES B w g gq gd bo cb k b mo r q) (hb : Below w.heap.size w w') : ES B w' g gq gd bo cb k b mo r q := by
 obtain ⟨o1, o2, o3, o4⟩ := h.ord
 exact ⟨⟨o1, o2, o3, Nat.lt_of_lt_of_le o4 hb.size⟩, (hb.cell (p := ⟨gd, 0, none⟩) (by show gd < _; omega)).trans h.d0, (hb.cell (p := ⟨gd, 1, none⟩) (by show gd < _; omega)).trans h.d1, (hb.cell (p := ⟨gd, 2, none⟩) (by show gd < _; omega)).trans h.d2, h.hb.later hb, h.far, h.hr.later hb o4, h.hq.later hb (by omega)⟩
theorem ES.putR {B : Nat} {w : World} {g gq gd : Nat} {bo : Option Addr} {cb k mo t l c : Nat} {b r q : List Int} {n : Bool} {ao : Option Addr} {v : Int} (h : ES B w g gq gd bo cb k b mo r q) (ht : t < r.length) (hi : IntAt w n ao l c v) : ES B ((w.setCell ⟨g, t * 2, none⟩ (.bool n)).setCell ⟨g, t * 2 + 1, none⟩ (.slice ao l c)) g gq gd bo cb k b mo (r.set t v) q := by
 obtain ⟨o1, o2, o3, o4⟩ := h.ord
 obtain ⟨n0, ao0, l0, c0, ⟨e0, e1⟩, _⟩ := h.hr.coef t ht
 have e1' : (w.setCell ⟨g, t * 2, none⟩ (.bool n)).cell? ⟨g, t * 2 + 1, none⟩ = some (.slice ao0 l0 c0) := by simp [go_sem, e0, e1]
 have hd : gd ≠ g := by omega
 have hfar : ∀ a : Addr, bo = some a → a.block ≠ g := fun a ha => by have := h.far a ha; omega
 exact ⟨⟨o1, o2, o3, by simp; exact o4⟩, by rw [cell_off hd, cell_off hd]; exact h.d0, by rw [cell_off hd, cell_off hd]; exact h.d1, by rw [cell_off hd, cell_off hd]; exact h.d2, (h.hb.off hfar e0 (fun z e => by cases e) _).off hfar e1' (fun z e => by cases e) _, h.far, h.hr.put ht hi, (h.hq.off (by omega) e0 (fun z e => by cases e) _).off (by omega) e1' (fun z e => by cases e) _⟩
theorem ES.putQ {B : Nat} {w : World} {g gq gd : Nat} {bo : Option Addr} {cb k mo t l c : Nat} {b r q : List Int} {n : Bool} {ao : Option Addr} {v : Int} (h : ES B w g gq gd bo cb k b mo r q) (ht : t < q.length) (hi : IntAt w n ao l c v) : ES B ((w.setCell ⟨gq, t * 2, none⟩ (.bool n)).setCell ⟨gq, t * 2 + 1, none⟩ (.slice ao l c)) g gq gd bo cb k b mo r (q.set t v) := by
 obtain ⟨o1, o2, o3, o4⟩ := h.ord
 obtain ⟨n0, ao0, l0, c0, ⟨e0, e1⟩, _⟩ := h.hq.coef t ht
 have e1' : (w.setCell ⟨gq, t * 2, none⟩ (.bool n)).cell? ⟨gq, t * 2 + 1, none⟩ = some (.slice ao0 l0 c0) := by simp [go_sem, e0, e1]
 have hd : gd ≠ gq := by omega
 have hfar : ∀ a : Addr, bo = some a → a.block ≠ gq := fun a ha => by have := h.far a ha; omega
 exact ⟨⟨o1, o2, o3, by simp; exact o4⟩, by rw [cell_off hd, cell_off hd]; exact h.d0, by rw [cell_off hd, cell_off hd]; exact h.d1, by rw [cell_off hd, cell_off hd]; exact h.d2, (h.hb.off hfar e0 (fun z e => by cases e) _).off hfar e1' (fun z e => by cases e) _, h.far, (h.hr.off (by omega) e0 (fun z e => by cases e) _).off (by omega) e1' (fun z e => by cases e) _, h.hq.put ht hi⟩
def OkAns (B : Nat) (w w' : World) (e : Ending) (bad good : Prop) : Prop := ∃ ok : Bool, e = .returned (.bool ok) ∧ Below B w w' ∧ (ok = false → bad) ∧ (ok = true → good)
theorem estep_any (B g gq gd bb off cb k i mo M : Nat) (b r q : List Int) (x d : Int) (w : World) (h : ES B w g gq gd (some ⟨bb, off, none⟩) cb k b mo r q)
  (hi : i < k) (hrl : r.length = k + 1) (hql : q.length = k) (hbl : b.length = 2) (hb0 : dig b 0 = -x) (hb1 : dig b 1 = d) (hd : 0 < d) (hM : Lim M r) (hMM : M ≤ 100000) (hK : Lim 3 b) (hk : k ≤ 64) (hB : B ≤ w.heap.size) :
  Calls Tryz.prog 51 #[.pointer (some ⟨gd, 0, none⟩), .slice (some ⟨g, i * 2, none⟩) 2 2, .int .i64 (i : Int)] w fun e w' => OkAns B w w' e (dig r (i + 1) % d ≠ 0 ∨ 2 ^ mo ≤ (dig r (i + 1) / d).natAbs) (dig r (i + 1) % d = 0 ∧ ES B w' g gq gd (some ⟨bb, off, none⟩) cb k b mo (r.set i (dig r i + dig r (i + 1) / d * x)) (q.set i (dig r (i + 1) / d))) := by
 have HP : Hid (ES B w g gq gd (some ⟨bb, off, none⟩) cb k b mo r q) := h
 obtain ⟨top, htop⟩ : ∃ top, top = dig r (i + 1) := ⟨_, rfl⟩
 rw [← htop]
 obtain ⟨n5, o5, l5, c5, ⟨f0, f1⟩, hi5⟩ := h.hr.coef (i + 1) (by omega)
 rw [← htop] at hi5
 have hl5 : l5 ≤ 100000 := by rw [hi5.lim, htop]; have := hM (i + 1); omega
 have HI : Hid (IntAt w n5 o5 l5 c5 top ∧ lim top ≤ 100000) := ⟨hi5, by rw [← hi5.lim]; exact hl5⟩
 have HV : Hid (top = dig r (i + 1) ∧ r.length = k + 1 ∧ q.length = k ∧ b.length = 2 ∧ dig b 0 = -x ∧ dig b 1 = d ∧ 0 < d ∧ Lim M r ∧ Lim 3 b ∧ B ≤ w.heap.size) := ⟨htop, hrl, hql, hbl, hb0, hb1, hd, hM, hK, hB⟩
 have hcells : Hid (w.cell? ⟨g, i * 2 + 2, none⟩ = some (.bool n5) ∧ w.cell? ⟨g, i * 2 + 2 + 1, none⟩ = some (.slice o5 l5 c5)) := by
  rw [show (i + 1) * 2 = i * 2 + 2 by omega] at f0 f1
  exact ⟨f0, f1⟩
 have HG : Hid (gd < w.heap.size ∧ g < w.heap.size ∧ gd ≠ g ∧ gd ≠ gq ∧ g ≠ gq ∧ B ≤ g ∧ B ≤ gq ∧ gq < w.heap.size) := by
  have := h.ord; exact ⟨by omega, by omega, by omega, by omega, by omega, by omega, by omega, by omega⟩
 clear h hi5 f0 f1 htop hrl hql hbl hb0 hb1 hd hM hK hB
 have KS : Hid (∀ w', Below w.heap.size w w' → w'.cell? ⟨gd, 0, none⟩ = some (.slice (some ⟨bb, off, none⟩) 2 cb) ∧ w'.cell? ⟨g, i * 2 + 2, none⟩ = some (.bool n5) ∧ w'.cell? ⟨g, i * 2 + 2 + 1, none⟩ = some (.slice o5 l5 c5)) := fun w' hb => ⟨(hb.cell (p := ⟨gd, 0, none⟩) HG.out.1).trans HP.out.d0, (hb.cell (p := ⟨g, i * 2 + 2, none⟩) HG.out.2.1).trans hcells.out.1, (hb.cell (p := ⟨g, i * 2 + 2 + 1, none⟩) HG.out.2.1).trans hcells.out.2⟩
 go_enter Tryz.func51, Tryz.ntmps51
 go_upto_region 2 with fail
 go_cut [8, 9, 10] (fun s8 s9 s10 wx => ∃ r8 r9 n7 o7 l7 c7 n8 o8 l8 c8, s8 = .pointer (some ⟨r8, 0, none⟩) ∧ s9 = .pointer (some ⟨r9, 0, none⟩) ∧ s10 = .int .i64 0 ∧ Bx wx r8 [.bool n7, .slice o7 l7 c7] ∧ Bx wx r9 [.bool n8, .slice o8 l8 c8] ∧ IntAt wx n7 o7 l7 c7 (top / d) ∧ IntAt wx n8 o8 l8 c8 (top % d) ∧ w.heap.size ≤ r8 ∧ w.heap.size ≤ r9 ∧ Below w.heap.size w wx)
 case first => as_aux_lemma =>
  refine wp_region_noPanic ?_
  have hbV : Below w.heap.size w w.drew := ((Below.refl _ _)).drew
  refine wp_region_held_drew (S := fun w' => (w'.cell? ⟨gd, 0, none⟩ = some (.slice (some ⟨bb, off, none⟩) 2 cb) ∧ w'.cell? ⟨g, i * 2 + 2, none⟩ = some (.bool n5) ∧ w'.cell? ⟨g, i * 2 + 2 + 1, none⟩ = some (.slice o5 l5 c5))) (by kernel_rfl) (by (try dsimp only); exact KS.out _ hbV) (fun hHeld => ?_)
  clear hHeld
  generalize w.drew = V at *
  have hHeld : V.cell? ⟨gd, 0, none⟩ = some (.slice (some ⟨bb, off, none⟩) 2 cb) ∧ V.cell? ⟨g, i * 2 + 2, none⟩ = some (.bool n5) ∧ V.cell? ⟨g, i * 2 + 2 + 1, none⟩ = some (.slice o5 l5 c5) := KS.out _ hbV
  all_goals (
   refine wpAnyH_take (i := 0) (oi := Oper.mk (some 17) _ _ _ _ _) (v := ?_) rfl (by decide +kernel) (by decide +kernel) (by decide +kernel) (fun _ _ _ h => h) (Or.inl ⟨by rfl, ?_⟩) (by assumption) ?_
   rotate_left
   ·
    (intro w hSw; (try dsimp only at hSw); go_simp <;> (try with_reducible rfl))
   (try simp only [Act.put, List.setIfInBounds_toArray, List.set_cons_zero, List.set_cons_succ]))
  all_goals (
   refine wpAnyH_take (i := 1) (oi := Oper.mk (some 18) _ _ _ _ _) (v := ?_) rfl (by decide +kernel) (by decide +kernel) (by decide +kernel) (fun _ _ _ h => h) (Or.inl ⟨by rfl, ?_⟩) (by assumption) ?_
   rotate_left
   ·
    (intro w hSw; (try dsimp only at hSw); go_simp <;> (try with_reducible rfl))
   (try simp only [Act.put, List.setIfInBounds_toArray, List.set_cons_zero, List.set_cons_succ]))
  all_goals (
   refine wpAnyH_take (i := 2) (oi := Oper.mk (some 19) _ _ _ _ _) (v := ?_) rfl (by decide +kernel) (by decide +kernel) (by decide +kernel) (fun _ _ _ h => h) (Or.inl ⟨by rfl, ?_⟩) (by assumption) ?_
   rotate_left
   ·
    (intro w hSw; (try dsimp only at hSw); go_simp <;> (try with_reducible rfl))
   (try simp only [Act.put, List.setIfInBounds_toArray, List.set_cons_zero, List.set_cons_succ]))
  all_goals (
   refine wpAnyH_take (i := 3) (oi := Oper.mk (some 20) _ _ _ _ _) (v := ?_) rfl (by decide +kernel) (by decide +kernel) (by decide +kernel) (fun _ _ _ h => h) (Or.inl ⟨by rfl, ?_⟩) (by assumption) ?_
   rotate_left
   ·
    (intro w hSw; (try dsimp only at hSw); go_simp <;> (try with_reducible rfl))
   (try simp only [Act.put, List.setIfInBounds_toArray, List.set_cons_zero, List.set_cons_succ]))
  all_goals (
   refine wpAnyH_take (i := 4) (oi := Oper.mk (some 21) _ _ _ _ _) (v := ?_) rfl (by decide +kernel) (by decide +kernel) (by decide +kernel) (fun _ _ _ h => h) (Or.inl ⟨by rfl, ?_⟩) (by assumption) ?_
   rotate_left
   ·
    (intro w hSw; (try dsimp only at hSw); go_simp <;> (try with_reducible rfl))
   (try simp only [Act.put, List.setIfInBounds_toArray, List.set_cons_zero, List.set_cons_succ]))
  all_goals (
   refine wpAnyH_take (i := 5) (oi := Oper.mk (some 22) _ _ _ _ _) (v := ?_) rfl (by decide +kernel) (by decide +kernel) (by decide +kernel) (fun _ _ _ h => h) (Or.inl ⟨by rfl, ?_⟩) (by assumption) ?_
   rotate_left
   ·
    (intro w hSw; (try dsimp only at hSw); go_simp <;> (try with_reducible rfl))
   (try simp only [Act.put, List.setIfInBounds_toArray, List.set_cons_zero, List.set_cons_succ]))
  all_goals (
   refine wpAnyH_take (i := 6) (oi := Oper.mk (some 23) _ _ _ _ _) (v := ?_) rfl (by decide +kernel) (by decide +kernel) (by decide +kernel) (fun _ _ _ h => h) (Or.inl ⟨by rfl, ?_⟩) (by assumption) ?_
   rotate_left
   ·
    (intro w hSw; (try dsimp only at hSw); go_simp <;> (try with_reducible rfl))
   (try simp only [Act.put, List.setIfInBounds_toArray, List.set_cons_zero, List.set_cons_succ]))
  all_goals (
   refine wpAnyH_take (i := 7) (oi := Oper.mk (some 24) _ _ _ _ _) (v := ?_) rfl (by decide +kernel) (by decide +kernel) (by decide +kernel) (fun _ _ _ h => h) (Or.inl ⟨by rfl, ?_⟩) (by assumption) ?_
   rotate_left
   ·
    (intro w hSw; (try dsimp only at hSw); go_simp <;> (try with_reducible rfl))
   (try simp only [Act.put, List.setIfInBounds_toArray, List.set_cons_zero, List.set_cons_succ]))
  all_goals repeat' (first
   | (have _g := FA; clear _g; have _g := FB; clear _g; refine wpAnyH_ready (rs := [8]) (by kernel_rfl) (by simp) ?_; refine (AllReadyH.cons (o := Oper.mk (some 25) _ _ _ _ _) rfl (fun K hK => ?_) AllReadyH.nil))
   | ((fail_if_success (have _g := FA)); have _g := FB; clear _g; refine wpAnyH_ready (rs := [8, 14]) (by kernel_rfl) (by simp) ?_; refine (AllReadyH.cons (o := Oper.mk (some 25) _ _ _ _ _) rfl (fun K hK => ?_) (AllReadyH.cons (o := Oper.mk (some 8) _ _ _ _ _) rfl (fun K hK => ?_) AllReadyH.nil)); rotate_left; (go_simp; clear hHeld; have hst : Below V.heap.size V (V.alloc (.cells #[.bool false, .slice none 0 0] 28)) := (Below.refl _ _).alloc (Nat.le_refl _) _; have FA : Hid (Bx (V.alloc (.cells #[.bool false, .slice none 0 0] 28)) V.heap.size [.bool false, .slice none 0 0]) := Bx.new _ _ _; obtain ⟨rA, hrA⟩ : ∃ r, r = V.heap.size := ⟨_, rfl⟩; have hzA : w.heap.size ≤ rA := (by rw [hrA]; exact hbV.size); (try (have hAB : rA ≠ rB := (by have q := FB.out.lt; omega))); (try replace FB : Hid (Bx (V.alloc (.cells #[.bool false, .slice none 0 0] 28)) rB [.bool false, .slice none 0 0]) := FB.out.later hst FB.out.lt); replace hbV : Below w.heap.size w (V.alloc (.cells #[.bool false, .slice none 0 0] 28)) := below_alloc hbV (Nat.le_refl _); clear hst; refine hK.out _ _ (by (try dsimp only); exact KS.out _ hbV) (fun hHeld => ?_); clear hK K hHeld; (try simp only [Act.put, List.setIfInBounds_toArray, List.set_cons_zero, List.set_cons_succ]); rw [← hrA] at FA ⊢; clear hrA; generalize V.alloc (.cells #[.bool false, .slice none 0 0] 28) = V at *; have hHeld : V.cell? ⟨gd, 0, none⟩ = some (.slice (some ⟨bb, off, none⟩) 2 cb) ∧ V.cell? ⟨g, i * 2 + 2, none⟩ = some (.bool n5) ∧ V.cell? ⟨g, i * 2 + 2 + 1, none⟩ = some (.slice o5 l5 c5) := KS.out _ hbV); rotate_left)
   | (have _g := FA; clear _g; (fail_if_success (have _g := FB)); refine wpAnyH_ready (rs := [8, 15]) (by kernel_rfl) (by simp) ?_; refine (AllReadyH.cons (o := Oper.mk (some 25) _ _ _ _ _) rfl (fun K hK => ?_) (AllReadyH.cons (o := Oper.mk (some 9) _ _ _ _ _) rfl (fun K hK => ?_) AllReadyH.nil)); rotate_left; (go_simp; clear hHeld; have hst : Below V.heap.size V (V.alloc (.cells #[.bool false, .slice none 0 0] 28)) := (Below.refl _ _).alloc (Nat.le_refl _) _; have FB : Hid (Bx (V.alloc (.cells #[.bool false, .slice none 0 0] 28)) V.heap.size [.bool false, .slice none 0 0]) := Bx.new _ _ _; obtain ⟨rB, hrB⟩ : ∃ r, r = V.heap.size := ⟨_, rfl⟩; have hzB : w.heap.size ≤ rB := (by rw [hrB]; exact hbV.size); (try (have hAB : rA ≠ rB := (by have q := FA.out.lt; omega))); (try replace FA : Hid (Bx (V.alloc (.cells #[.bool false, .slice none 0 0] 28)) rA [.bool false, .slice none 0 0]) := FA.out.later hst FA.out.lt); replace hbV : Below w.heap.size w (V.alloc (.cells #[.bool false, .slice none 0 0] 28)) := below_alloc hbV (Nat.le_refl _); clear hst; refine hK.out _ _ (by (try dsimp only); exact KS.out _ hbV) (fun hHeld => ?_); clear hK K hHeld; (try simp only [Act.put, List.setIfInBounds_toArray, List.set_cons_zero, List.set_cons_succ]); rw [← hrB] at FB ⊢; clear hrB; generalize V.alloc (.cells #[.bool false, .slice none 0 0] 28) = V at *; have hHeld : V.cell? ⟨gd, 0, none⟩ = some (.slice (some ⟨bb, off, none⟩) 2 cb) ∧ V.cell? ⟨g, i * 2 + 2, none⟩ = some (.bool n5) ∧ V.cell? ⟨g, i * 2 + 2 + 1, none⟩ = some (.slice o5 l5 c5) := KS.out _ hbV); rotate_left)
   | ((fail_if_success (have _g := FA)); (fail_if_success (have _g := FB)); refine wpAnyH_ready (rs := [8, 14, 15]) (by kernel_rfl) (by simp) ?_; refine (AllReadyH.cons (o := Oper.mk (some 25) _ _ _ _ _) rfl (fun K hK => ?_) (AllReadyH.cons (o := Oper.mk (some 8) _ _ _ _ _) rfl (fun K hK => ?_) (AllReadyH.cons (o := Oper.mk (some 9) _ _ _ _ _) rfl (fun K hK => ?_) AllReadyH.nil))); rotate_left; (go_simp; clear hHeld; have hst : Below V.heap.size V (V.alloc (.cells #[.bool false, .slice none 0 0] 28)) := (Below.refl _ _).alloc (Nat.le_refl _) _; have FA : Hid (Bx (V.alloc (.cells #[.bool false, .slice none 0 0] 28)) V.heap.size [.bool false, .slice none 0 0]) := Bx.new _ _ _; obtain ⟨rA, hrA⟩ : ∃ r, r = V.heap.size := ⟨_, rfl⟩; have hzA : w.heap.size ≤ rA := (by rw [hrA]; exact hbV.size); (try (have hAB : rA ≠ rB := (by have q := FB.out.lt; omega))); (try replace FB : Hid (Bx (V.alloc (.cells #[.bool false, .slice none 0 0] 28)) rB [.bool false, .slice none 0 0]) := FB.out.later hst FB.out.lt); replace hbV : Below w.heap.size w (V.alloc (.cells #[.bool false, .slice none 0 0] 28)) := below_alloc hbV (Nat.le_refl _); clear hst; refine hK.out _ _ (by (try dsimp only); exact KS.out _ hbV) (fun hHeld => ?_); clear hK K hHeld; (try simp only [Act.put, List.setIfInBounds_toArray, List.set_cons_zero, List.set_cons_succ]); rw [← hrA] at FA ⊢; clear hrA; generalize V.alloc (.cells #[.bool false, .slice none 0 0] 28) = V at *; have hHeld : V.cell? ⟨gd, 0, none⟩ = some (.slice (some ⟨bb, off, none⟩) 2 cb) ∧ V.cell? ⟨g, i * 2 + 2, none⟩ = some (.bool n5) ∧ V.cell? ⟨g, i * 2 + 2 + 1, none⟩ = some (.slice o5 l5 c5) := KS.out _ hbV); rotate_left; (go_simp; clear hHeld; have hst : Below V.heap.size V (V.alloc (.cells #[.bool false, .slice none 0 0] 28)) := (Below.refl _ _).alloc (Nat.le_refl _) _; have FB : Hid (Bx (V.alloc (.cells #[.bool false, .slice none 0 0] 28)) V.heap.size [.bool false, .slice none 0 0]) := Bx.new _ _ _; obtain ⟨rB, hrB⟩ : ∃ r, r = V.heap.size := ⟨_, rfl⟩; have hzB : w.heap.size ≤ rB := (by rw [hrB]; exact hbV.size); (try (have hAB : rA ≠ rB := (by have q := FA.out.lt; omega))); (try replace FA : Hid (Bx (V.alloc (.cells #[.bool false, .slice none 0 0] 28)) rA [.bool false, .slice none 0 0]) := FA.out.later hst FA.out.lt); replace hbV : Below w.heap.size w (V.alloc (.cells #[.bool false, .slice none 0 0] 28)) := below_alloc hbV (Nat.le_refl _); clear hst; refine hK.out _ _ (by (try dsimp only); exact KS.out _ hbV) (fun hHeld => ?_); clear hK K hHeld; (try simp only [Act.put, List.setIfInBounds_toArray, List.set_cons_zero, List.set_cons_succ]); rw [← hrB] at FB ⊢; clear hrB; generalize V.alloc (.cells #[.bool false, .slice none 0 0] 28) = V at *; have hHeld : V.cell? ⟨gd, 0, none⟩ = some (.slice (some ⟨bb, off, none⟩) 2 cb) ∧ V.cell? ⟨g, i * 2 + 2, none⟩ = some (.bool n5) ∧ V.cell? ⟨g, i * 2 + 2 + 1, none⟩ = some (.slice o5 l5 c5) := KS.out _ hbV); rotate_left))
  all_goals (go_simp; (go_at_call 77; refine (pllead0_any (some ⟨bb, off, none⟩) 1 cb b _ (HP.out.later hbV).hb (by omega)).mono ?_; rintro e V ⟨n4, o4, l4, c4, rfl, hi4, hb⟩; rw [HV.out.2.2.2.2.2.1] at hi4; have hl4 : l4 ≤ 3 := (by rw [hi4.lim, ← HV.out.2.2.2.2.2.1]; exact HV.out.2.2.2.2.2.2.2.2.1 1); have H4 : Hid (IntAt V n4 o4 l4 c4 d) := hi4; clear hi4; (try replace FA : Hid (Bx V rA [.bool false, .slice none 0 0]) := FA.out.later hb FA.out.lt); (try replace FB : Hid (Bx V rB [.bool false, .slice none 0 0]) := FB.out.later hb FB.out.lt); replace hbV : Below w.heap.size w V := bnext hbV hb; clear hb); (try go_wp2_with fail); clear hHeld; refine hK.out _ _ (by (try dsimp only); exact KS.out _ hbV) (fun hHeld => ?_); clear hK K; (try simp only [Act.put, List.setIfInBounds_toArray, List.set_cons_zero, List.set_cons_succ]))
  all_goals repeat' (first
   | (have _g := FA; clear _g; have _g := FB; clear _g; refine wpAnyH_ready (rs := [9]) (by kernel_rfl) (by simp) ?_; refine (AllReadyH.cons (o := Oper.mk (some 26) _ _ _ _ _) rfl (fun K hK => ?_) AllReadyH.nil))
   | ((fail_if_success (have _g := FA)); have _g := FB; clear _g; refine wpAnyH_ready (rs := [9, 14]) (by kernel_rfl) (by simp) ?_; refine (AllReadyH.cons (o := Oper.mk (some 26) _ _ _ _ _) rfl (fun K hK => ?_) (AllReadyH.cons (o := Oper.mk (some 8) _ _ _ _ _) rfl (fun K hK => ?_) AllReadyH.nil)); rotate_left; (go_simp; clear hHeld; have hst : Below V.heap.size V (V.alloc (.cells #[.bool false, .slice none 0 0] 28)) := (Below.refl _ _).alloc (Nat.le_refl _) _; have FA : Hid (Bx (V.alloc (.cells #[.bool false, .slice none 0 0] 28)) V.heap.size [.bool false, .slice none 0 0]) := Bx.new _ _ _; obtain ⟨rA, hrA⟩ : ∃ r, r = V.heap.size := ⟨_, rfl⟩; have hzA : w.heap.size ≤ rA := (by rw [hrA]; exact hbV.size); (try (have hAB : rA ≠ rB := (by have q := FB.out.lt; omega))); replace H4 : Hid (IntAt (V.alloc (.cells #[.bool false, .slice none 0 0] 28)) n4 o4 l4 c4 d) := H4.out.later hst; (try replace FB : Hid (Bx (V.alloc (.cells #[.bool false, .slice none 0 0] 28)) rB [.bool false, .slice none 0 0]) := FB.out.later hst FB.out.lt); replace hbV : Below w.heap.size w (V.alloc (.cells #[.bool false, .slice none 0 0] 28)) := below_alloc hbV (Nat.le_refl _); clear hst; refine hK.out _ _ (by (try dsimp only); exact KS.out _ hbV) (fun hHeld => ?_); clear hK K hHeld; (try simp only [Act.put, List.setIfInBounds_toArray, List.set_cons_zero, List.set_cons_succ]); rw [← hrA] at FA ⊢; clear hrA; generalize V.alloc (.cells #[.bool false, .slice none 0 0] 28) = V at *; have hHeld : V.cell? ⟨gd, 0, none⟩ = some (.slice (some ⟨bb, off, none⟩) 2 cb) ∧ V.cell? ⟨g, i * 2 + 2, none⟩ = some (.bool n5) ∧ V.cell? ⟨g, i * 2 + 2 + 1, none⟩ = some (.slice o5 l5 c5) := KS.out _ hbV); rotate_left)
   | (have _g := FA; clear _g; (fail_if_success (have _g := FB)); refine wpAnyH_ready (rs := [9, 15]) (by kernel_rfl) (by simp) ?_; refine (AllReadyH.cons (o := Oper.mk (some 26) _ _ _ _ _) rfl (fun K hK => ?_) (AllReadyH.cons (o := Oper.mk (some 9) _ _ _ _ _) rfl (fun K hK => ?_) AllReadyH.nil)); rotate_left; (go_simp; clear hHeld; have hst : Below V.heap.size V (V.alloc (.cells #[.bool false, .slice none 0 0] 28)) := (Below.refl _ _).alloc (Nat.le_refl _) _; have FB : Hid (Bx (V.alloc (.cells #[.bool false, .slice none 0 0] 28)) V.heap.size [.bool false, .slice none 0 0]) := Bx.new _ _ _; obtain ⟨rB, hrB⟩ : ∃ r, r = V.heap.size := ⟨_, rfl⟩; have hzB : w.heap.size ≤ rB := (by rw [hrB]; exact hbV.size); (try (have hAB : rA ≠ rB := (by have q := FA.out.lt; omega))); replace H4 : Hid (IntAt (V.alloc (.cells #[.bool false, .slice none 0 0] 28)) n4 o4 l4 c4 d) := H4.out.later hst; (try replace FA : Hid (Bx (V.alloc (.cells #[.bool false, .slice none 0 0] 28)) rA [.bool false, .slice none 0 0]) := FA.out.later hst FA.out.lt); replace hbV : Below w.heap.size w (V.alloc (.cells #[.bool false, .slice none 0 0] 28)) := below_alloc hbV (Nat.le_refl _); clear hst; refine hK.out _ _ (by (try dsimp only); exact KS.out _ hbV) (fun hHeld => ?_); clear hK K hHeld; (try simp only [Act.put, List.setIfInBounds_toArray, List.set_cons_zero, List.set_cons_succ]); rw [← hrB] at FB ⊢; clear hrB; generalize V.alloc (.cells #[.bool false, .slice none 0 0] 28) = V at *; have hHeld : V.cell? ⟨gd, 0, none⟩ = some (.slice (some ⟨bb, off, none⟩) 2 cb) ∧ V.cell? ⟨g, i * 2 + 2, none⟩ = some (.bool n5) ∧ V.cell? ⟨g, i * 2 + 2 + 1, none⟩ = some (.slice o5 l5 c5) := KS.out _ hbV); rotate_left)
   | ((fail_if_success (have _g := FA)); (fail_if_success (have _g := FB)); refine wpAnyH_ready (rs := [9, 14, 15]) (by kernel_rfl) (by simp) ?_; refine (AllReadyH.cons (o := Oper.mk (some 26) _ _ _ _ _) rfl (fun K hK => ?_) (AllReadyH.cons (o := Oper.mk (some 8) _ _ _ _ _) rfl (fun K hK => ?_) (AllReadyH.cons (o := Oper.mk (some 9) _ _ _ _ _) rfl (fun K hK => ?_) AllReadyH.nil))); rotate_left; (go_simp; clear hHeld; have hst : Below V.heap.size V (V.alloc (.cells #[.bool false, .slice none 0 0] 28)) := (Below.refl _ _).alloc (Nat.le_refl _) _; have FA : Hid (Bx (V.alloc (.cells #[.bool false, .slice none 0 0] 28)) V.heap.size [.bool false, .slice none 0 0]) := Bx.new _ _ _; obtain ⟨rA, hrA⟩ : ∃ r, r = V.heap.size := ⟨_, rfl⟩; have hzA : w.heap.size ≤ rA := (by rw [hrA]; exact hbV.size); (try (have hAB : rA ≠ rB := (by have q := FB.out.lt; omega))); replace H4 : Hid (IntAt (V.alloc (.cells #[.bool false, .slice none 0 0] 28)) n4 o4 l4 c4 d) := H4.out.later hst; (try replace FB : Hid (Bx (V.alloc (.cells #[.bool false, .slice none 0 0] 28)) rB [.bool false, .slice none 0 0]) := FB.out.later hst FB.out.lt); replace hbV : Below w.heap.size w (V.alloc (.cells #[.bool false, .slice none 0 0] 28)) := below_alloc hbV (Nat.le_refl _); clear hst; refine hK.out _ _ (by (try dsimp only); exact KS.out _ hbV) (fun hHeld => ?_); clear hK K hHeld; (try simp only [Act.put, List.setIfInBounds_toArray, List.set_cons_zero, List.set_cons_succ]); rw [← hrA] at FA ⊢; clear hrA; generalize V.alloc (.cells #[.bool false, .slice none 0 0] 28) = V at *; have hHeld : V.cell? ⟨gd, 0, none⟩ = some (.slice (some ⟨bb, off, none⟩) 2 cb) ∧ V.cell? ⟨g, i * 2 + 2, none⟩ = some (.bool n5) ∧ V.cell? ⟨g, i * 2 + 2 + 1, none⟩ = some (.slice o5 l5 c5) := KS.out _ hbV); rotate_left; (go_simp; clear hHeld; have hst : Below V.heap.size V (V.alloc (.cells #[.bool false, .slice none 0 0] 28)) := (Below.refl _ _).alloc (Nat.le_refl _) _; have FB : Hid (Bx (V.alloc (.cells #[.bool false, .slice none 0 0] 28)) V.heap.size [.bool false, .slice none 0 0]) := Bx.new _ _ _; obtain ⟨rB, hrB⟩ : ∃ r, r = V.heap.size := ⟨_, rfl⟩; have hzB : w.heap.size ≤ rB := (by rw [hrB]; exact hbV.size); (try (have hAB : rA ≠ rB := (by have q := FA.out.lt; omega))); replace H4 : Hid (IntAt (V.alloc (.cells #[.bool false, .slice none 0 0] 28)) n4 o4 l4 c4 d) := H4.out.later hst; (try replace FA : Hid (Bx (V.alloc (.cells #[.bool false, .slice none 0 0] 28)) rA [.bool false, .slice none 0 0]) := FA.out.later hst FA.out.lt); replace hbV : Below w.heap.size w (V.alloc (.cells #[.bool false, .slice none 0 0] 28)) := below_alloc hbV (Nat.le_refl _); clear hst; refine hK.out _ _ (by (try dsimp only); exact KS.out _ hbV) (fun hHeld => ?_); clear hK K hHeld; (try simp only [Act.put, List.setIfInBounds_toArray, List.set_cons_zero, List.set_cons_succ]); rw [← hrB] at FB ⊢; clear hrB; generalize V.alloc (.cells #[.bool false, .slice none 0 0] 28) = V at *; have hHeld : V.cell? ⟨gd, 0, none⟩ = some (.slice (some ⟨bb, off, none⟩) 2 cb) ∧ V.cell? ⟨g, i * 2 + 2, none⟩ = some (.bool n5) ∧ V.cell? ⟨g, i * 2 + 2 + 1, none⟩ = some (.slice o5 l5 c5) := KS.out _ hbV); rotate_left))
  all_goals (go_simp; (go_at_call 76; refine (bdivide_any n5 n4 o5 o4 l5 c5 l4 c4 top d _ (HI.out.1.later hbV) H4.out (by omega) (by omega) (Int.ne_of_gt HV.out.2.2.2.2.2.2.1)).mono ?_; rintro e V ⟨q', r', hfl, n7, o7, l7, c7, n8, o8, l8, c8, rfl, hs7, ho7, hs8, ho8, hb⟩; have hqr := hfl.pos HV.out.2.2.2.2.2.2.1; have H7 : Hid (IntAt V n7 o7 l7 c7 (top / d)) := (by rw [← hqr.1]; exact ho7.int hs7); have H8 : Hid (IntAt V n8 o8 l8 c8 (top % d)) := (by rw [← hqr.2]; exact ho8.int hs8); clear hfl hqr hs7 ho7 hs8 ho8; replace H4 : Hid (IntAt V n4 o4 l4 c4 d) := H4.out.later hb; (try replace FA : Hid (Bx V rA [.bool false, .slice none 0 0]) := FA.out.later hb FA.out.lt); (try replace FB : Hid (Bx V rB [.bool false, .slice none 0 0]) := FB.out.later hb FB.out.lt); replace hbV : Below w.heap.size w V := bnext hbV hb; clear hb); (try go_wp2_with fail); clear hHeld; refine hK.out _ _ (by (try dsimp only); exact KS.out _ hbV) (fun hHeld => ?_); clear hK K; (try simp only [Act.put, List.setIfInBounds_toArray, List.set_cons_zero, List.set_cons_succ]))
  all_goals (
   refine wpAnyH_take (i := 10) (oi := Oper.mk (some 16) _ _ _ _ _) (v := ?_) rfl (by decide +kernel) (by decide +kernel) (by decide +kernel) (fun _ _ _ h => h) (Or.inl ⟨by rfl, ?_⟩) (by assumption) ?_
   rotate_left
   ·
    (intro w hSw; (try dsimp only at hSw); go_simp <;> (try with_reducible rfl))
   (try simp only [Act.put, List.setIfInBounds_toArray, List.set_cons_zero, List.set_cons_succ]))
  all_goals (
   refine wpAnyH_take (i := 11) (oi := Oper.mk (some 27) _ _ _ _ _) (v := ?_) rfl (by decide +kernel) (by decide +kernel) (by decide +kernel) (fun _ _ _ h => h) (Or.inl ⟨by rfl, ?_⟩) (by assumption) ?_
   rotate_left
   ·
    (intro w hSw; (try dsimp only at hSw); go_simp <;> (try with_reducible rfl))
   (try simp only [Act.put, List.setIfInBounds_toArray, List.set_cons_zero, List.set_cons_succ]))
  all_goals (
   refine wpAnyH_take (i := 12) (oi := Oper.mk (some 28) _ _ _ _ _) (v := ?_) rfl (by decide +kernel) (by decide +kernel) (by decide +kernel) (fun _ _ _ h => h) (Or.inl ⟨by rfl, ?_⟩) (by assumption) ?_
   rotate_left
   ·
    (intro w hSw; (try dsimp only at hSw); go_simp <;> (try with_reducible rfl))
   (try simp only [Act.put, List.setIfInBounds_toArray, List.set_cons_zero, List.set_cons_succ]))
  all_goals (
   refine wpAnyH_take (i := 13) (oi := Oper.mk (some 29) _ _ _ _ _) (v := ?_) rfl (by decide +kernel) (by decide +kernel) (by decide +kernel) (fun _ _ _ h => h) (Or.inl ⟨by rfl, ?_⟩) (by assumption) ?_
   rotate_left
   ·
    (intro w hSw; (try dsimp only at hSw); go_simp <;> (try with_reducible rfl))
   (try simp only [Act.put, List.setIfInBounds_toArray, List.set_cons_zero, List.set_cons_succ]))
  all_goals clear H4
  all_goals repeat' (first
   | (have _g := FA; clear _g; have _g := FB; clear _g; refine wpAnyH_ready (rs := [16]) (by kernel_rfl) (by simp) ?_; refine (AllReadyH.cons (o := Oper.mk none _ _ _ _ _) rfl (fun K hK => ?_) AllReadyH.nil))
   | ((fail_if_success (have _g := FA)); have _g := FB; clear _g; refine wpAnyH_ready (rs := [14]) (by kernel_rfl) (by simp) ?_; refine (AllReadyH.cons (o := Oper.mk (some 8) _ _ _ _ _) rfl (fun K hK => ?_) AllReadyH.nil); (go_simp; clear hHeld; have hst : Below V.heap.size V (V.alloc (.cells #[.bool false, .slice none 0 0] 28)) := (Below.refl _ _).alloc (Nat.le_refl _) _; have FA : Hid (Bx (V.alloc (.cells #[.bool false, .slice none 0 0] 28)) V.heap.size [.bool false, .slice none 0 0]) := Bx.new _ _ _; obtain ⟨rA, hrA⟩ : ∃ r, r = V.heap.size := ⟨_, rfl⟩; have hzA : w.heap.size ≤ rA := (by rw [hrA]; exact hbV.size); (try (have hAB : rA ≠ rB := (by have q := FB.out.lt; omega))); replace H7 : Hid (IntAt (V.alloc (.cells #[.bool false, .slice none 0 0] 28)) n7 o7 l7 c7 (top / d)) := H7.out.later hst; replace H8 : Hid (IntAt (V.alloc (.cells #[.bool false, .slice none 0 0] 28)) n8 o8 l8 c8 (top % d)) := H8.out.later hst; (try replace FB : Hid (Bx (V.alloc (.cells #[.bool false, .slice none 0 0] 28)) rB [.bool false, .slice none 0 0]) := FB.out.later hst FB.out.lt); replace hbV : Below w.heap.size w (V.alloc (.cells #[.bool false, .slice none 0 0] 28)) := below_alloc hbV (Nat.le_refl _); clear hst; refine hK.out _ _ (by (try dsimp only); exact KS.out _ hbV) (fun hHeld => ?_); clear hK K hHeld; (try simp only [Act.put, List.setIfInBounds_toArray, List.set_cons_zero, List.set_cons_succ]); rw [← hrA] at FA ⊢; clear hrA; generalize V.alloc (.cells #[.bool false, .slice none 0 0] 28) = V at *; have hHeld : V.cell? ⟨gd, 0, none⟩ = some (.slice (some ⟨bb, off, none⟩) 2 cb) ∧ V.cell? ⟨g, i * 2 + 2, none⟩ = some (.bool n5) ∧ V.cell? ⟨g, i * 2 + 2 + 1, none⟩ = some (.slice o5 l5 c5) := KS.out _ hbV))
   | (have _g := FA; clear _g; (fail_if_success (have _g := FB)); refine wpAnyH_ready (rs := [15]) (by kernel_rfl) (by simp) ?_; refine (AllReadyH.cons (o := Oper.mk (some 9) _ _ _ _ _) rfl (fun K hK => ?_) AllReadyH.nil); (go_simp; clear hHeld; have hst : Below V.heap.size V (V.alloc (.cells #[.bool false, .slice none 0 0] 28)) := (Below.refl _ _).alloc (Nat.le_refl _) _; have FB : Hid (Bx (V.alloc (.cells #[.bool false, .slice none 0 0] 28)) V.heap.size [.bool false, .slice none 0 0]) := Bx.new _ _ _; obtain ⟨rB, hrB⟩ : ∃ r, r = V.heap.size := ⟨_, rfl⟩; have hzB : w.heap.size ≤ rB := (by rw [hrB]; exact hbV.size); (try (have hAB : rA ≠ rB := (by have q := FA.out.lt; omega))); replace H7 : Hid (IntAt (V.alloc (.cells #[.bool false, .slice none 0 0] 28)) n7 o7 l7 c7 (top / d)) := H7.out.later hst; replace H8 : Hid (IntAt (V.alloc (.cells #[.bool false, .slice none 0 0] 28)) n8 o8 l8 c8 (top % d)) := H8.out.later hst; (try replace FA : Hid (Bx (V.alloc (.cells #[.bool false, .slice none 0 0] 28)) rA [.bool false, .slice none 0 0]) := FA.out.later hst FA.out.lt); replace hbV : Below w.heap.size w (V.alloc (.cells #[.bool false, .slice none 0 0] 28)) := below_alloc hbV (Nat.le_refl _); clear hst; refine hK.out _ _ (by (try dsimp only); exact KS.out _ hbV) (fun hHeld => ?_); clear hK K hHeld; (try simp only [Act.put, List.setIfInBounds_toArray, List.set_cons_zero, List.set_cons_succ]); rw [← hrB] at FB ⊢; clear hrB; generalize V.alloc (.cells #[.bool false, .slice none 0 0] 28) = V at *; have hHeld : V.cell? ⟨gd, 0, none⟩ = some (.slice (some ⟨bb, off, none⟩) 2 cb) ∧ V.cell? ⟨g, i * 2 + 2, none⟩ = some (.bool n5) ∧ V.cell? ⟨g, i * 2 + 2 + 1, none⟩ = some (.slice o5 l5 c5) := KS.out _ hbV))
   | ((fail_if_success (have _g := FA)); (fail_if_success (have _g := FB)); refine wpAnyH_ready (rs := [14, 15]) (by kernel_rfl) (by simp) ?_; refine (AllReadyH.cons (o := Oper.mk (some 8) _ _ _ _ _) rfl (fun K hK => ?_) (AllReadyH.cons (o := Oper.mk (some 9) _ _ _ _ _) rfl (fun K hK => ?_) AllReadyH.nil)); (go_simp; clear hHeld; have hst : Below V.heap.size V (V.alloc (.cells #[.bool false, .slice none 0 0] 28)) := (Below.refl _ _).alloc (Nat.le_refl _) _; have FA : Hid (Bx (V.alloc (.cells #[.bool false, .slice none 0 0] 28)) V.heap.size [.bool false, .slice none 0 0]) := Bx.new _ _ _; obtain ⟨rA, hrA⟩ : ∃ r, r = V.heap.size := ⟨_, rfl⟩; have hzA : w.heap.size ≤ rA := (by rw [hrA]; exact hbV.size); (try (have hAB : rA ≠ rB := (by have q := FB.out.lt; omega))); replace H7 : Hid (IntAt (V.alloc (.cells #[.bool false, .slice none 0 0] 28)) n7 o7 l7 c7 (top / d)) := H7.out.later hst; replace H8 : Hid (IntAt (V.alloc (.cells #[.bool false, .slice none 0 0] 28)) n8 o8 l8 c8 (top % d)) := H8.out.later hst; (try replace FB : Hid (Bx (V.alloc (.cells #[.bool false, .slice none 0 0] 28)) rB [.bool false, .slice none 0 0]) := FB.out.later hst FB.out.lt); replace hbV : Below w.heap.size w (V.alloc (.cells #[.bool false, .slice none 0 0] 28)) := below_alloc hbV (Nat.le_refl _); clear hst; refine hK.out _ _ (by (try dsimp only); exact KS.out _ hbV) (fun hHeld => ?_); clear hK K hHeld; (try simp only [Act.put, List.setIfInBounds_toArray, List.set_cons_zero, List.set_cons_succ]); rw [← hrA] at FA ⊢; clear hrA; generalize V.alloc (.cells #[.bool false, .slice none 0 0] 28) = V at *; have hHeld : V.cell? ⟨gd, 0, none⟩ = some (.slice (some ⟨bb, off, none⟩) 2 cb) ∧ V.cell? ⟨g, i * 2 + 2, none⟩ = some (.bool n5) ∧ V.cell? ⟨g, i * 2 + 2 + 1, none⟩ = some (.slice o5 l5 c5) := KS.out _ hbV); rotate_left; (go_simp; clear hHeld; have hst : Below V.heap.size V (V.alloc (.cells #[.bool false, .slice none 0 0] 28)) := (Below.refl _ _).alloc (Nat.le_refl _) _; have FB : Hid (Bx (V.alloc (.cells #[.bool false, .slice none 0 0] 28)) V.heap.size [.bool false, .slice none 0 0]) := Bx.new _ _ _; obtain ⟨rB, hrB⟩ : ∃ r, r = V.heap.size := ⟨_, rfl⟩; have hzB : w.heap.size ≤ rB := (by rw [hrB]; exact hbV.size); (try (have hAB : rA ≠ rB := (by have q := FA.out.lt; omega))); replace H7 : Hid (IntAt (V.alloc (.cells #[.bool false, .slice none 0 0] 28)) n7 o7 l7 c7 (top / d)) := H7.out.later hst; replace H8 : Hid (IntAt (V.alloc (.cells #[.bool false, .slice none 0 0] 28)) n8 o8 l8 c8 (top % d)) := H8.out.later hst; (try replace FA : Hid (Bx (V.alloc (.cells #[.bool false, .slice none 0 0] 28)) rA [.bool false, .slice none 0 0]) := FA.out.later hst FA.out.lt); replace hbV : Below w.heap.size w (V.alloc (.cells #[.bool false, .slice none 0 0] 28)) := below_alloc hbV (Nat.le_refl _); clear hst; refine hK.out _ _ (by (try dsimp only); exact KS.out _ hbV) (fun hHeld => ?_); clear hK K hHeld; (try simp only [Act.put, List.setIfInBounds_toArray, List.set_cons_zero, List.set_cons_succ]); rw [← hrB] at FB ⊢; clear hrB; generalize V.alloc (.cells #[.bool false, .slice none 0 0] 28) = V at *; have hHeld : V.cell? ⟨gd, 0, none⟩ = some (.slice (some ⟨bb, off, none⟩) 2 cb) ∧ V.cell? ⟨g, i * 2 + 2, none⟩ = some (.bool n5) ∧ V.cell? ⟨g, i * 2 + 2 + 1, none⟩ = some (.slice o5 l5 c5) := KS.out _ hbV); rotate_left))
  all_goals (have bf := FA.out.2; have b0 := FA.out.1 0 _ rfl; have b1 := FA.out.1 1 _ rfl; go_simp; clear hHeld bf b0 b1; replace H7 : Hid (IntAt ((V.setCell ⟨rA, 0, none⟩ (.bool n7)).setCell ⟨rA, 1, none⟩ (.slice o7 l7 c7)) n7 o7 l7 c7 (top / d)) := ⟨H7.out.sg, FA.out.row (by simp [NoWord]) (ws := [.bool n7, .slice o7 l7 c7]) rfl H7.out.row⟩; replace H8 : Hid (IntAt ((V.setCell ⟨rA, 0, none⟩ (.bool n7)).setCell ⟨rA, 1, none⟩ (.slice o7 l7 c7)) n8 o8 l8 c8 (top % d)) := ⟨H8.out.sg, FA.out.row (by simp [NoWord]) (ws := [.bool n7, .slice o7 l7 c7]) rfl H8.out.row⟩; (try replace FB : Hid (Bx ((V.setCell ⟨rA, 0, none⟩ (.bool n7)).setCell ⟨rA, 1, none⟩ (.slice o7 l7 c7)) rB [.bool false, .slice none 0 0]) := FB.out.off (ws := [.bool n7, .slice o7 l7 c7]) (by first | assumption | exact Ne.symm (by assumption) | omega) 0); have BA : Hid (Bx ((V.setCell ⟨rA, 0, none⟩ (.bool n7)).setCell ⟨rA, 1, none⟩ (.slice o7 l7 c7)) rA [.bool n7, .slice o7 l7 c7]) := FA.out.put (ws := [.bool n7, .slice o7 l7 c7]) rfl; clear FA; replace hbV : Below w.heap.size w ((V.setCell ⟨rA, 0, none⟩ (.bool n7)).setCell ⟨rA, 1, none⟩ (.slice o7 l7 c7)) := putl_below hzA [.bool n7, .slice o7 l7 c7] 0 _ hbV; refine hK.out _ _ (by (try dsimp only); exact KS.out _ hbV) (fun hHeld => ?_); clear hK K hHeld; (try simp only [Act.put, List.setIfInBounds_toArray, List.set_cons_zero, List.set_cons_succ]); generalize ((V.setCell ⟨rA, 0, none⟩ (.bool n7)).setCell ⟨rA, 1, none⟩ (.slice o7 l7 c7)) = V at *; have hHeld : V.cell? ⟨gd, 0, none⟩ = some (.slice (some ⟨bb, off, none⟩) 2 cb) ∧ V.cell? ⟨g, i * 2 + 2, none⟩ = some (.bool n5) ∧ V.cell? ⟨g, i * 2 + 2 + 1, none⟩ = some (.slice o5 l5 c5) := KS.out _ hbV)
  all_goals repeat' (first
   | (have _g := FB; clear _g; refine wpAnyH_ready (rs := [17]) (by kernel_rfl) (by simp) ?_; refine (AllReadyH.cons (o := Oper.mk none _ _ _ _ _) rfl (fun K hK => ?_) AllReadyH.nil))
   | ((fail_if_success (have _g := FB)); refine wpAnyH_ready (rs := [15]) (by kernel_rfl) (by simp) ?_; refine (AllReadyH.cons (o := Oper.mk (some 9) _ _ _ _ _) rfl (fun K hK => ?_) AllReadyH.nil); (go_simp; clear hHeld; have hst : Below V.heap.size V (V.alloc (.cells #[.bool false, .slice none 0 0] 28)) := (Below.refl _ _).alloc (Nat.le_refl _) _; have FB : Hid (Bx (V.alloc (.cells #[.bool false, .slice none 0 0] 28)) V.heap.size [.bool false, .slice none 0 0]) := Bx.new _ _ _; obtain ⟨rB, hrB⟩ : ∃ r, r = V.heap.size := ⟨_, rfl⟩; have hzB : w.heap.size ≤ rB := (by rw [hrB]; exact hbV.size); have hBBA : rB ≠ rA := (by have q := BA.out.lt; omega); replace H7 : Hid (IntAt (V.alloc (.cells #[.bool false, .slice none 0 0] 28)) n7 o7 l7 c7 (top / d)) := H7.out.later hst; replace H8 : Hid (IntAt (V.alloc (.cells #[.bool false, .slice none 0 0] 28)) n8 o8 l8 c8 (top % d)) := H8.out.later hst; replace BA : Hid (Bx (V.alloc (.cells #[.bool false, .slice none 0 0] 28)) rA [.bool n7, .slice o7 l7 c7]) := BA.out.later hst BA.out.lt; replace hbV : Below w.heap.size w (V.alloc (.cells #[.bool false, .slice none 0 0] 28)) := below_alloc hbV (Nat.le_refl _); clear hst; refine hK.out _ _ (by (try dsimp only); exact KS.out _ hbV) (fun hHeld => ?_); clear hK K hHeld; (try simp only [Act.put, List.setIfInBounds_toArray, List.set_cons_zero, List.set_cons_succ]); rw [← hrB] at FB ⊢; clear hrB; generalize V.alloc (.cells #[.bool false, .slice none 0 0] 28) = V at *; have hHeld : V.cell? ⟨gd, 0, none⟩ = some (.slice (some ⟨bb, off, none⟩) 2 cb) ∧ V.cell? ⟨g, i * 2 + 2, none⟩ = some (.bool n5) ∧ V.cell? ⟨g, i * 2 + 2 + 1, none⟩ = some (.slice o5 l5 c5) := KS.out _ hbV)))
  all_goals (have bf := FB.out.2; have b0 := FB.out.1 0 _ rfl; have b1 := FB.out.1 1 _ rfl; go_simp; clear hHeld bf b0 b1; replace H7 : Hid (IntAt ((V.setCell ⟨rB, 0, none⟩ (.bool n8)).setCell ⟨rB, 1, none⟩ (.slice o8 l8 c8)) n7 o7 l7 c7 (top / d)) := ⟨H7.out.sg, FB.out.row (by simp [NoWord]) (ws := [.bool n8, .slice o8 l8 c8]) rfl H7.out.row⟩; replace H8 : Hid (IntAt ((V.setCell ⟨rB, 0, none⟩ (.bool n8)).setCell ⟨rB, 1, none⟩ (.slice o8 l8 c8)) n8 o8 l8 c8 (top % d)) := ⟨H8.out.sg, FB.out.row (by simp [NoWord]) (ws := [.bool n8, .slice o8 l8 c8]) rfl H8.out.row⟩; replace BA : Hid (Bx ((V.setCell ⟨rB, 0, none⟩ (.bool n8)).setCell ⟨rB, 1, none⟩ (.slice o8 l8 c8)) rA [.bool n7, .slice o7 l7 c7]) := BA.out.off (ws := [.bool n8, .slice o8 l8 c8]) (by first | assumption | exact Ne.symm (by assumption) | omega) 0; have BB : Hid (Bx ((V.setCell ⟨rB, 0, none⟩ (.bool n8)).setCell ⟨rB, 1, none⟩ (.slice o8 l8 c8)) rB [.bool n8, .slice o8 l8 c8]) := FB.out.put (ws := [.bool n8, .slice o8 l8 c8]) rfl; clear FB; replace hbV : Below w.heap.size w ((V.setCell ⟨rB, 0, none⟩ (.bool n8)).setCell ⟨rB, 1, none⟩ (.slice o8 l8 c8)) := putl_below hzB [.bool n8, .slice o8 l8 c8] 0 _ hbV; refine hK.out _ _ (by (try dsimp only); exact KS.out _ hbV) (fun hHeld => ?_); clear hK K hHeld; (try simp only [Act.put, List.setIfInBounds_toArray, List.set_cons_zero, List.set_cons_succ]); generalize ((V.setCell ⟨rB, 0, none⟩ (.bool n8)).setCell ⟨rB, 1, none⟩ (.slice o8 l8 c8)) = V at *; have hHeld : V.cell? ⟨gd, 0, none⟩ = some (.slice (some ⟨bb, off, none⟩) 2 cb) ∧ V.cell? ⟨g, i * 2 + 2, none⟩ = some (.bool n5) ∧ V.cell? ⟨g, i * 2 + 2 + 1, none⟩ = some (.slice o5 l5 c5) := KS.out _ hbV)
  all_goals (
   refine wpAnyH_take (i := 18) (oi := Oper.mk (some 10) _ _ _ _ _) (v := ?_) rfl (by decide +kernel) (by decide +kernel) (by decide +kernel) (fun _ _ _ h => h) (Or.inl ⟨by rfl, ?_⟩) (by assumption) ?_
   rotate_left
   ·
    (intro w hSw; (try dsimp only at hSw); go_simp <;> (try with_reducible rfl))
   (try simp only [Act.put, List.setIfInBounds_toArray, List.set_cons_zero, List.set_cons_succ]))
  all_goals (refine wpAnyH_done (by decide +kernel) ?_ _; refine NoPanic.normal ?_)
  all_goals (go_wp2; go_meet; exact ⟨_, _, _, _, _, _, _, _, _, _, rfl, rfl, rfl, BA.out, BB.out, H7.out, H8.out, hzA, hzB, hbV⟩)
 case rest => as_aux_lemma =>
  obtain ⟨r8, r9, n7, o7, l7, c7, n8, o8, l8, c8, rfl, rfl, rfl, hx8, hx9, h7, h8, hr8, hr9, hbX⟩ := hcut
  obtain ⟨X, hX⟩ : ∃ X, X = wc := ⟨_, rfl⟩
  subst hX
  have hl7 : l7 ≤ 200000 := by
   rw [h7.lim]
   have : (top / d).natAbs ≤ top.natAbs := Int.natAbs_ediv_le_natAbs _ _
   have h1 := mag_len_mono this
   have h2 := HI.out.2
   unfold lim at h2 ⊢
   omega
  have HX : Hid (ES B X g gq gd (some ⟨bb, off, none⟩) cb k b mo r q ∧ Bx X r8 [.bool n7, .slice o7 l7 c7] ∧ Bx X r9 [.bool n8, .slice o8 l8 c8] ∧ IntAt X n7 o7 l7 c7 (top / d) ∧ IntAt X n8 o8 l8 c8 (top % d) ∧ w.heap.size ≤ r8 ∧ Below w.heap.size w X) := ⟨HP.out.later hbX, hx8, hx9, h7, h8, hr8, hbX⟩
  clear hx8 hx9 h7 h8 hr9 KS hcells
  have KS3 : Hid (∀ w', Below X.heap.size X w' → w'.cell? ⟨r9, 0, none⟩ = some (.bool n8) ∧ w'.cell? ⟨r9, 1, none⟩ = some (.slice o8 l8 c8) ∧ w'.cell? ⟨r8, 0, none⟩ = some (.bool n7) ∧ w'.cell? ⟨r8, 1, none⟩ = some (.slice o7 l7 c7) ∧ w'.cell? ⟨gd, 2, none⟩ = some (.int .i64 (mo : Int))) := fun w' hb => by
   have h9 := HX.out.2.2.1.later hb HX.out.2.2.1.lt
   have h8 := HX.out.2.1.later hb HX.out.2.1.lt
   exact ⟨h9.1 0 _ rfl, h9.1 1 _ rfl, h8.1 0 _ rfl, h8.1 1 _ rfl, (HX.out.1.later hb).d2⟩
  go_upto_region 3 with fail
  go_cut [41] (fun s41 wx => ∃ hv : Bool, s41 = .bool hv ∧ (hv = true → top % d ≠ 0 ∨ 2 ^ mo ≤ (top / d).natAbs) ∧ (hv = false → top % d = 0) ∧ Below X.heap.size X wx)
  case first => as_aux_lemma =>
   by_cases hz : l8 = 0
   ·
    have HZ : Hid (top % d = 0) := by show _ = _; have := HX.out.2.2.2.2.1.lim; rw [hz] at this; exact zero_of_lim this.symm
    have hcz : ∀ W', Calls Tryz.prog 38 #[.agg #[.bool n8, .slice o8 l8 c8]] W' fun e w' => e = .returned (.bool true) ∧ Below W'.heap.size W' w' := fun W' => isZero_any n8 o8 l8 c8 W' true (by simp; omega)
    clear hz
    refine wp_region_noPanic ?_
    refine wp_region_held_drew (S := fun w' => (w'.cell? ⟨r9, 0, none⟩ = some (.bool n8) ∧ w'.cell? ⟨r9, 1, none⟩ = some (.slice o8 l8 c8) ∧ w'.cell? ⟨r8, 0, none⟩ = some (.bool n7) ∧ w'.cell? ⟨r8, 1, none⟩ = some (.slice o7 l7 c7) ∧ w'.cell? ⟨gd, 2, none⟩ = some (.int .i64 (mo : Int)))) (by kernel_rfl) (by (try dsimp only); exact KS3.out _ (Below.refl _ _).drew) (fun hHeld => ?_)
    refine wpAnyH_take (i := 0) (oi := Oper.mk (some 30) _ _ _ _ _) (v := ?_) rfl (by decide +kernel) (by decide +kernel) (by decide +kernel) (fun _ _ _ h => h) (Or.inl ⟨by rfl, ?_⟩) (by assumption) ?_
    rotate_left
    ·
     (intro w hSw; (try dsimp only at hSw); go_simp <;> (try with_reducible rfl))
    (try simp only [Act.put, List.setIfInBounds_toArray, List.set_cons_zero, List.set_cons_succ])
    refine wpAnyH_ready (rs := [1]) (by decide +kernel) (by simp) ?_
    refine AllReadyH.cons (o := Oper.mk (some 31) _ _ _ _ _) rfl (fun K hK => ?_) AllReadyH.nil
    go_simp
    (go_at_call 38; refine (hcz _).mono ?_; rintro e w1 ⟨rfl, hb⟩; have hb1 : Below X.heap.size X w1 := bnext (Below.refl _ _).drew hb; clear hb)
    (try go_wp2_with fail)
    clear hHeld
    refine hK.out _ _ (by (try dsimp only); exact KS3.out _ hb1) (fun hHeld => ?_)
    clear hK K
    (try simp only [Act.put, List.setIfInBounds_toArray, List.set_cons_zero, List.set_cons_succ])
    refine wpAnyH_take (i := 2) (oi := Oper.mk (some 32) _ _ _ _ _) (v := ?_) rfl (by decide +kernel) (by decide +kernel) (by decide +kernel) (fun _ _ _ h => h) (Or.inl ⟨by rfl, ?_⟩) (by assumption) ?_
    rotate_left
    ·
     (intro w hSw; (try dsimp only at hSw); go_simp <;> (try with_reducible rfl))
    (try simp only [Act.put, List.setIfInBounds_toArray, List.set_cons_zero, List.set_cons_succ])
    refine wpAnyH_take (i := 3) (oi := Oper.mk (some 33) _ _ _ _ _) (v := ?_) rfl (by decide +kernel) (by decide +kernel) (by decide +kernel) (fun _ _ _ h => h) (Or.inl ⟨by rfl, ?_⟩) (by assumption) ?_
    rotate_left
    ·
     (intro w hSw; (try dsimp only at hSw); go_simp <;> (try with_reducible rfl))
    (try simp only [Act.put, List.setIfInBounds_toArray, List.set_cons_zero, List.set_cons_succ])
    refine wpAnyH_take (i := 4) (oi := Oper.mk (some 34) _ _ _ _ _) (v := ?_) rfl (by decide +kernel) (by decide +kernel) (by decide +kernel) (fun _ _ _ h => h) (Or.inl ⟨by rfl, ?_⟩) (by assumption) ?_
    rotate_left
    ·
     (intro w hSw; (try dsimp only at hSw); go_simp <;> (try with_reducible rfl))
    (try simp only [Act.put, List.setIfInBounds_toArray, List.set_cons_zero, List.set_cons_succ])
    refine wpAnyH_take (i := 6) (oi := Oper.mk (some 36) _ _ _ _ _) (v := ?_) rfl (by decide +kernel) (by decide +kernel) (by decide +kernel) (fun _ _ _ h => h) (Or.inl ⟨by rfl, ?_⟩) (by assumption) ?_
    rotate_left
    ·
     (intro w hSw; (try dsimp only at hSw); go_simp <;> (try with_reducible rfl))
    (try simp only [Act.put, List.setIfInBounds_toArray, List.set_cons_zero, List.set_cons_succ])
    refine wpAnyH_take (i := 7) (oi := Oper.mk (some 37) _ _ _ _ _) (v := ?_) rfl (by decide +kernel) (by decide +kernel) (by decide +kernel) (fun _ _ _ h => h) (Or.inl ⟨by rfl, ?_⟩) (by assumption) ?_
    rotate_left
    ·
     (intro w hSw; (try dsimp only at hSw); go_simp <;> (try with_reducible rfl))
    (try simp only [Act.put, List.setIfInBounds_toArray, List.set_cons_zero, List.set_cons_succ])
    refine wpAnyH_take (i := 8) (oi := Oper.mk (some 38) _ _ _ _ _) (v := ?_) rfl (by decide +kernel) (by decide +kernel) (by decide +kernel) (fun _ _ _ h => h) (Or.inl ⟨by rfl, ?_⟩) (by assumption) ?_
    rotate_left
    ·
     (intro w hSw; (try dsimp only at hSw); go_simp <;> (try with_reducible rfl))
    (try simp only [Act.put, List.setIfInBounds_toArray, List.set_cons_zero, List.set_cons_succ])
    refine wpAnyH_take (i := 9) (oi := Oper.mk (some 39) _ _ _ _ _) (v := ?_) rfl (by decide +kernel) (by decide +kernel) (by decide +kernel) (fun _ _ _ h => h) (Or.inl ⟨by rfl, ?_⟩) (by assumption) ?_
    rotate_left
    ·
     (intro w hSw; (try dsimp only at hSw); go_simp <;> (try with_reducible rfl))
    (try simp only [Act.put, List.setIfInBounds_toArray, List.set_cons_zero, List.set_cons_succ])
    refine wpAnyH_ready (rs := [5]) (by decide +kernel) (by simp) ?_
    refine AllReadyH.cons (o := Oper.mk (some 35) _ _ _ _ _) rfl (fun K hK => ?_) AllReadyH.nil
    go_simp
    (go_at_call 73; refine (plen_bl n7 o7 l7 c7 (top / d) _ (HX.out.2.2.2.1.later hb1) (by omega)).mono ?_; rintro e w2 ⟨N, rfl, hN, hb⟩; have hb2 : Below X.heap.size X w2 := bnext hb1 hb; have HN : Hid ((top / d).natAbs < 2 ^ N ∧ (N = 0 ∨ 2 ^ (N - 1) ≤ (top / d).natAbs)) := ⟨hN.1, hN.2.1⟩; clear hb hN)
    (try go_wp2_with fail)
    clear hHeld
    refine hK.out _ _ (by (try dsimp only); exact KS3.out _ hb2) (fun hHeld => ?_)
    clear hK K
    (try simp only [Act.put, List.setIfInBounds_toArray, List.set_cons_zero, List.set_cons_succ])
    refine wpAnyH_take (i := 10) (oi := Oper.mk (some 40) _ _ _ _ _) (v := ?_) rfl (by decide +kernel) (by decide +kernel) (by decide +kernel) (fun _ _ _ h => h) (Or.inl ⟨by rfl, ?_⟩) (by assumption) ?_
    rotate_left
    ·
     (intro w hSw; (try dsimp only at hSw); go_simp <;> (try with_reducible rfl))
    (try simp only [Act.put, List.setIfInBounds_toArray, List.set_cons_zero, List.set_cons_succ])
    refine wpAnyH_take (i := 11) (oi := Oper.mk (some 41) _ _ _ _ _) (v := ?_) rfl (by decide +kernel) (by decide +kernel) (by decide +kernel) (fun _ _ _ h => h) (Or.inl ⟨by rfl, ?_⟩) (by assumption) ?_
    rotate_left
    ·
     (intro w hSw; (try dsimp only at hSw); go_simp <;> (try with_reducible rfl))
    (try simp only [Act.put, List.setIfInBounds_toArray, List.set_cons_zero, List.set_cons_succ])
    refine wpAnyH_done (by decide +kernel) ?_ _
    refine NoPanic.normal ?_
    go_wp2
    go_meet
    refine ⟨decide (mo < N), rfl, fun h => Or.inr ?_, fun _ => HZ.out, hb2⟩
    have h1 : mo < N := of_decide_eq_true h
    rcases HN.out.2 with h2 | h2
    ·
     omega
    ·
     exact Nat.le_trans (Nat.pow_le_pow_right (by decide) (by omega)) h2
   ·
    have HZ : Hid (top % d ≠ 0) := by
     show _ ≠ _
     intro e
     have := HX.out.2.2.2.2.1.lim
     rw [e, lim_zero] at this
     exact hz this
    have hcz : ∀ W', Calls Tryz.prog 38 #[.agg #[.bool n8, .slice o8 l8 c8]] W' fun e w' => e = .returned (.bool false) ∧ Below W'.heap.size W' w' := fun W' => isZero_any n8 o8 l8 c8 W' false (by simp; omega)
    clear hz
    refine wp_region_noPanic ?_
    refine wp_region_held_drew (S := fun w' => (w'.cell? ⟨r9, 0, none⟩ = some (.bool n8) ∧ w'.cell? ⟨r9, 1, none⟩ = some (.slice o8 l8 c8) ∧ w'.cell? ⟨r8, 0, none⟩ = some (.bool n7) ∧ w'.cell? ⟨r8, 1, none⟩ = some (.slice o7 l7 c7) ∧ w'.cell? ⟨gd, 2, none⟩ = some (.int .i64 (mo : Int)))) (by kernel_rfl) (by (try dsimp only); exact KS3.out _ (Below.refl _ _).drew) (fun hHeld => ?_)
    refine wpAnyH_take (i := 0) (oi := Oper.mk (some 30) _ _ _ _ _) (v := ?_) rfl (by decide +kernel) (by decide +kernel) (by decide +kernel) (fun _ _ _ h => h) (Or.inl ⟨by rfl, ?_⟩) (by assumption) ?_
    rotate_left
    ·
     (intro w hSw; (try dsimp only at hSw); go_simp <;> (try with_reducible rfl))
    (try simp only [Act.put, List.setIfInBounds_toArray, List.set_cons_zero, List.set_cons_succ])
    refine wpAnyH_ready (rs := [1]) (by decide +kernel) (by simp) ?_
    refine AllReadyH.cons (o := Oper.mk (some 31) _ _ _ _ _) rfl (fun K hK => ?_) AllReadyH.nil
    go_simp
    (go_at_call 38; refine (hcz _).mono ?_; rintro e w1 ⟨rfl, hb⟩; have hb1 : Below X.heap.size X w1 := bnext (Below.refl _ _).drew hb; clear hb)
    (try go_wp2_with fail)
    clear hHeld
    refine hK.out _ _ (by (try dsimp only); exact KS3.out _ hb1) (fun hHeld => ?_)
    clear hK K
    (try simp only [Act.put, List.setIfInBounds_toArray, List.set_cons_zero, List.set_cons_succ])
    refine wpAnyH_take (i := 2) (oi := Oper.mk (some 32) _ _ _ _ _) (v := ?_) rfl (by decide +kernel) (by decide +kernel) (by decide +kernel) (fun _ _ _ h => h) (Or.inl ⟨by rfl, ?_⟩) (by assumption) ?_
    rotate_left
    ·
     (intro w hSw; (try dsimp only at hSw); go_simp <;> (try with_reducible rfl))
    (try simp only [Act.put, List.setIfInBounds_toArray, List.set_cons_zero, List.set_cons_succ])
    refine wpAnyH_take (i := 3) (oi := Oper.mk (some 33) _ _ _ _ _) (v := ?_) rfl (by decide +kernel) (by decide +kernel) (by decide +kernel) (fun _ _ _ h => h) (Or.inl ⟨by rfl, ?_⟩) (by assumption) ?_
    rotate_left
    ·
     (intro w hSw; (try dsimp only at hSw); go_simp <;> (try with_reducible rfl))
    (try simp only [Act.put, List.setIfInBounds_toArray, List.set_cons_zero, List.set_cons_succ])
    refine wpAnyH_take (i := 4) (oi := Oper.mk (some 34) _ _ _ _ _) (v := undef) rfl (by decide +kernel) (by decide +kernel) (by decide +kernel) (fun _ _ _ h => h) (Or.inr ⟨by rfl, rfl⟩) (by assumption) ?_
    (try simp only [Act.put, List.setIfInBounds_toArray, List.set_cons_zero, List.set_cons_succ])
    refine wpAnyH_take (i := 5) (oi := Oper.mk (some 35) _ _ _ _ _) (v := undef) rfl (by decide +kernel) (by decide +kernel) (by decide +kernel) (fun _ _ _ h => h) (Or.inr ⟨by rfl, rfl⟩) (by assumption) ?_
    (try simp only [Act.put, List.setIfInBounds_toArray, List.set_cons_zero, List.set_cons_succ])
    refine wpAnyH_take (i := 6) (oi := Oper.mk (some 36) _ _ _ _ _) (v := undef) rfl (by decide +kernel) (by decide +kernel) (by decide +kernel) (fun _ _ _ h => h) (Or.inr ⟨by rfl, rfl⟩) (by assumption) ?_
    (try simp only [Act.put, List.setIfInBounds_toArray, List.set_cons_zero, List.set_cons_succ])
    refine wpAnyH_take (i := 7) (oi := Oper.mk (some 37) _ _ _ _ _) (v := undef) rfl (by decide +kernel) (by decide +kernel) (by decide +kernel) (fun _ _ _ h => h) (Or.inr ⟨by rfl, rfl⟩) (by assumption) ?_
    (try simp only [Act.put, List.setIfInBounds_toArray, List.set_cons_zero, List.set_cons_succ])
    refine wpAnyH_take (i := 8) (oi := Oper.mk (some 38) _ _ _ _ _) (v := undef) rfl (by decide +kernel) (by decide +kernel) (by decide +kernel) (fun _ _ _ h => h) (Or.inr ⟨by rfl, rfl⟩) (by assumption) ?_
    (try simp only [Act.put, List.setIfInBounds_toArray, List.set_cons_zero, List.set_cons_succ])
    refine wpAnyH_take (i := 9) (oi := Oper.mk (some 39) _ _ _ _ _) (v := undef) rfl (by decide +kernel) (by decide +kernel) (by decide +kernel) (fun _ _ _ h => h) (Or.inr ⟨by rfl, rfl⟩) (by assumption) ?_
    (try simp only [Act.put, List.setIfInBounds_toArray, List.set_cons_zero, List.set_cons_succ])
    refine wpAnyH_take (i := 10) (oi := Oper.mk (some 40) _ _ _ _ _) (v := undef) rfl (by decide +kernel) (by decide +kernel) (by decide +kernel) (fun _ _ _ h => h) (Or.inr ⟨by rfl, rfl⟩) (by assumption) ?_
    (try simp only [Act.put, List.setIfInBounds_toArray, List.set_cons_zero, List.set_cons_succ])
    refine wpAnyH_take (i := 11) (oi := Oper.mk (some 41) _ _ _ _ _) (v := ?_) rfl (by decide +kernel) (by decide +kernel) (by decide +kernel) (fun _ _ _ h => h) (Or.inl ⟨by rfl, ?_⟩) (by assumption) ?_
    rotate_left
    ·
     (intro w hSw; (try dsimp only at hSw); go_simp <;> (try with_reducible rfl))
    (try simp only [Act.put, List.setIfInBounds_toArray, List.set_cons_zero, List.set_cons_succ])
    refine wpAnyH_done (by decide +kernel) ?_ _
    refine NoPanic.normal ?_
    go_wp2
    go_meet
    exact ⟨true, rfl, fun _ => Or.inl HZ.out, fun h => (by cases h), hb1⟩
  case rest => as_aux_lemma =>
   obtain ⟨hv, rfl, hbad, hgood, hbY⟩ := hcut
   obtain ⟨Y, hY⟩ : ∃ Y, Y = wc := ⟨_, rfl⟩
   subst hY
   have hbw : Below B w Y := (bnext HX.out.2.2.2.2.2.2 hbY).mono HV.out.2.2.2.2.2.2.2.2.2
   cases hv
   rotate_left
   ·
    have HB0 : Hid (top % d ≠ 0 ∨ 2 ^ mo ≤ (top / d).natAbs) := hbad rfl
    clear hbad hgood
    go_wp2
    go_ret
    exact ⟨false, rfl, hbw, fun _ => HB0.out, fun h => (by cases h)⟩
   have HE : Hid (top % d = 0 ∧ Below B w Y) := ⟨hgood rfl, hbw⟩
   clear hbad hgood hbw
   have HY : Hid (ES B Y g gq gd (some ⟨bb, off, none⟩) cb k b mo r q ∧ Bx Y r8 [.bool n7, .slice o7 l7 c7] ∧ IntAt Y n7 o7 l7 c7 (top / d)) := ⟨HX.out.1.later hbY, HX.out.2.1.later hbY HX.out.2.1.lt, HX.out.2.2.2.1.later hbY⟩
   have HYR : Hid (w.heap.size ≤ r8 ∧ r8 < Y.heap.size ∧ r8 ≠ g ∧ r8 ≠ gq) := by
    have h1 := HX.out.2.2.2.2.2.1; have h2 := HX.out.2.1.lt; have h3 := hbY.size; have h4 := HG.out
    exact ⟨h1, by omega, by omega, by omega⟩
   clear HX KS3 hbY hbX hr8
   have v0 := HY.out.2.1.1 0 _ rfl
   have v1 := HY.out.2.1.1 1 _ rfl
   obtain ⟨zb, hzb⟩ : ∃ zb, ((l7 : Int) == 0) = zb := ⟨_, rfl⟩
   have HZB : Hid (((l7 : Int) == 0) = zb) := hzb
   clear hzb
   go_upto_if 44 with (go_at_call 38; refine (isZero_any n7 o7 l7 c7 _ zb HZB.out).mono ?_; rintro e y1 ⟨rfl, hb1⟩)
   clear v0 v1
   obtain ⟨r1, hr1⟩ : ∃ r1, r1 = r.set i (dig r i + top / d * x) := ⟨_, rfl⟩
   have HR1 : Hid (r1 = r.set i (dig r i + top / d * x) ∧ i < r.length) := ⟨hr1, by rw [HV.out.2.1]; omega⟩
   have HY1 : Hid (ES B y1 g gq gd (some ⟨bb, off, none⟩) cb k b mo r q ∧ Bx y1 r8 [.bool n7, .slice o7 l7 c7] ∧ IntAt y1 n7 o7 l7 c7 (top / d) ∧ Below B w y1 ∧ r8 < y1.heap.size) := ⟨HY.out.1.later hb1, HY.out.2.1.later hb1 HYR.out.2.1, HY.out.2.2.later hb1, HE.out.2.trans (hb1.mono (Nat.le_trans HV.out.2.2.2.2.2.2.2.2.2 (Nat.le_trans HYR.out.1 (Nat.le_of_lt HYR.out.2.1)))), Nat.lt_of_lt_of_le HYR.out.2.1 hb1.size⟩
   clear hr1 hb1 HY
   go_cut [11, 12] (fun s11 s12 wx => ES B wx g gq gd (some ⟨bb, off, none⟩) cb k b mo r1 q ∧ Bx wx r8 [.bool n7, .slice o7 l7 c7] ∧ IntAt wx n7 o7 l7 c7 (top / d) ∧ Below B w wx ∧ r8 < wx.heap.size)
   case first => as_aux_lemma =>
    cases zb <;> simp only [Bool.not_true, Bool.not_false]
    rotate_left
    ·
     have HZ : Hid (top / d = 0) := by
      show _ = _
      have h1 := HZB.out
      simp at h1
      have := HY1.out.2.2.1.lim
      rw [h1] at this
      exact zero_of_lim this.symm
     go_wp2
     go_meet
     have hrr : r1 = r := by
      rw [HR1.out.1, HZ.out, Int.zero_mul, Int.add_zero]
      refine dig_ext (by rw [List.length_set]) fun t ht => ?_
      rw [List.length_set] at ht
      rw [pdig_set _ _ _ _ ht]
      split
      ·
       rename_i e; rw [e]
      ·
       rfl
     rw [hrr]
     exact HY1.out
    ·
     have w0 := HY1.out.1.d0
     have hcb : (1 : Int) ≤ (cb : Int) := by have := HY1.out.1.hb.hcap; omega
     go_wp2_with fail
     clear w0
     go_loopw [52] (fun jj wr => ∃ j : Nat, j ≤ 1 ∧ jj = .int .i64 (j : Int) ∧ ES B wr g gq gd (some ⟨bb, off, none⟩) cb k b mo (if j = 0 then r else r1) q ∧ Bx wr r8 [.bool n7, .slice o7 l7 c7] ∧ IntAt wr n7 o7 l7 c7 (top / d) ∧ Below B w wr ∧ r8 < wr.heap.size) (fun jj _ => 1 - (intOf jj).toNat)
     case atStart => exact ⟨0, by omega, rfl, HY1.out⟩
     case round =>
      obtain ⟨j, hj, rfl, hes, hx8, hi7, hbel, hsz⟩ := hrel
      rcases (by omega : j = 0 ∨ j = 1) with rfl | rfl
      ·
       rw [if_pos rfl] at hes
       obtain ⟨bb', off', n9, o9, l9, c9, he9, u0, u1, hi9⟩ := hes.hb.at (show 0 < 2 by omega)
       cases he9
       rw [Nat.zero_mul, Nat.add_zero] at u0 u1
       rw [HV.out.2.2.2.2.1] at hi9
       obtain ⟨n6, o6, l6, c6, ⟨p0, p1⟩, hi6⟩ := hes.hr.coef i HR1.out.2
       have hl9 : l9 ≤ 3 := by rw [hi9.lim, ← HV.out.2.2.2.2.1]; exact HV.out.2.2.2.2.2.2.2.2.1 0
       have hl6 : l6 ≤ 100000 := by rw [hi6.lim]; have := HV.out.2.2.2.2.2.2.2.1 i; omega
       obtain ⟨T, hT⟩ : ∃ T, T = wr.alloc (.cells #[.bool n9, .slice o9 l9 c9] 28) := ⟨_, rfl⟩
       have hTb : Below wr.heap.size wr T := by rw [hT]; exact (Below.refl _ _).alloc (Nat.le_refl _) _
       have HT : Hid (ES B T g gq gd (some ⟨bb, off, none⟩) cb k b mo r q ∧ Bx T r8 [.bool n7, .slice o7 l7 c7] ∧ Bx T wr.heap.size [.bool n9, .slice o9 l9 c9] ∧ IntAt T n7 o7 l7 c7 (top / d) ∧ IntAt T n9 o9 l9 c9 (-x) ∧ IntAt T n6 o6 l6 c6 (dig r i) ∧ Below B w T ∧ r8 < T.heap.size ∧ B ≤ wr.heap.size) := by
        have hBw : B ≤ wr.heap.size := by have := hes.ord; omega
        refine ⟨hes.later hTb, hx8.later hTb hsz, ?_, hi7.later hTb, hi9.later hTb, hi6.later hTb, hbel.trans (hTb.mono hBw), Nat.lt_of_lt_of_le hsz hTb.size, hBw⟩
        rw [hT]; exact Bx.new wr [.bool n9, .slice o9 l9 c9] _
       have HPC : Hid (T.cell? ⟨g, i * 2, none⟩ = some (.bool n6) ∧ T.cell? ⟨g, i * 2 + 1, none⟩ = some (.slice o6 l6 c6)) := ⟨(hTb.cell (p := ⟨g, i * 2, none⟩) hes.ord.2.2.2).trans p0, (hTb.cell (p := ⟨g, i * 2 + 1, none⟩) hes.ord.2.2.2).trans p1⟩
       have HN : Hid (r8 ≠ g ∧ wr.heap.size ≠ g ∧ B ≤ g ∧ g < T.heap.size) := by have := hes.ord; have := HYR.out; have := hTb.size; exact ⟨by omega, by omega, by omega, by omega⟩
       clear hes hx8 hi7 hbel hi9 hi6 p0 p1 hTb
       have KS9 : Hid (∀ w', Below T.heap.size T w' → w'.cell? ⟨r8, 0, none⟩ = some (.bool n7) ∧ w'.cell? ⟨r8, 1, none⟩ = some (.slice o7 l7 c7) ∧ w'.cell? ⟨wr.heap.size, 0, none⟩ = some (.bool n9) ∧ w'.cell? ⟨wr.heap.size, 1, none⟩ = some (.slice o9 l9 c9)) := fun w' hb => by
        have h1 := HT.out.2.1.later hb HT.out.2.1.lt
        have h2 := HT.out.2.2.1.later hb HT.out.2.2.1.lt
        exact ⟨h1.1 0 _ rfl, h1.1 1 _ rfl, h2.1 0 _ rfl, h2.1 1 _ rfl⟩
       have K9 : Hid (∀ (w' : World) (z : Nat) (x : Value), (w'.cell? ⟨r8, 0, none⟩ = some (.bool n7) ∧ w'.cell? ⟨r8, 1, none⟩ = some (.slice o7 l7 c7) ∧ w'.cell? ⟨wr.heap.size, 0, none⟩ = some (.bool n9) ∧ w'.cell? ⟨wr.heap.size, 1, none⟩ = some (.slice o9 l9 c9)) → ((w'.setCell ⟨g, z, none⟩ x).cell? ⟨r8, 0, none⟩ = some (.bool n7) ∧ (w'.setCell ⟨g, z, none⟩ x).cell? ⟨r8, 1, none⟩ = some (.slice o7 l7 c7) ∧ (w'.setCell ⟨g, z, none⟩ x).cell? ⟨wr.heap.size, 0, none⟩ = some (.bool n9) ∧ (w'.setCell ⟨g, z, none⟩ x).cell? ⟨wr.heap.size, 1, none⟩ = some (.slice o9 l9 c9))) := fun w' z x h => ⟨by rw [cell_off HN.out.1]; exact h.1, by rw [cell_off HN.out.1]; exact h.2.1, by rw [cell_off HN.out.2.1]; exact h.2.2.1, by rw [cell_off HN.out.2.1]; exact h.2.2.2⟩
       have e0 := HPC.out.1
       have e1 := HPC.out.2
       go_upto_region 9 with fail
       rw [← hT]
       clear hT u0 u1
       refine wp_region_noPanic ?_
       refine wp_region_held_drew (S := fun w' => (w'.cell? ⟨r8, 0, none⟩ = some (.bool n7) ∧ w'.cell? ⟨r8, 1, none⟩ = some (.slice o7 l7 c7) ∧ w'.cell? ⟨wr.heap.size, 0, none⟩ = some (.bool n9) ∧ w'.cell? ⟨wr.heap.size, 1, none⟩ = some (.slice o9 l9 c9))) (by kernel_rfl) (by (try dsimp only); exact KS9.out _ (Below.refl _ _).drew) (fun hHeld => ?_)
       refine wpAnyH_take (i := 0) (oi := Oper.mk (some 57) _ _ _ _ _) (v := ?_) rfl (by decide +kernel) (by decide +kernel) (by decide +kernel) (fun _ _ _ h => h) (Or.inl ⟨by rfl, ?_⟩) (by assumption) ?_
       rotate_left
       ·
        (intro w hSw; (try dsimp only at hSw); go_simp <;> (try with_reducible rfl))
       (try simp only [Act.put, List.setIfInBounds_toArray, List.set_cons_zero, List.set_cons_succ])
       refine wpAnyH_take (i := 1) (oi := Oper.mk (some 58) _ _ _ _ _) (v := ?_) rfl (by decide +kernel) (by decide +kernel) (by decide +kernel) (fun _ _ _ h => h) (Or.inl ⟨by rfl, ?_⟩) (by assumption) ?_
       rotate_left
       ·
        (intro w hSw; (try dsimp only at hSw); go_simp <;> (try with_reducible rfl))
       (try simp only [Act.put, List.setIfInBounds_toArray, List.set_cons_zero, List.set_cons_succ])
       refine wpAnyH_take (i := 2) (oi := Oper.mk (some 59) _ _ _ _ _) (v := ?_) rfl (by decide +kernel) (by decide +kernel) (by decide +kernel) (fun _ _ _ h => h) (Or.inl ⟨by rfl, ?_⟩) (by assumption) ?_
       rotate_left
       ·
        (intro w hSw; (try dsimp only at hSw); go_simp <;> (try with_reducible rfl))
       (try simp only [Act.put, List.setIfInBounds_toArray, List.set_cons_zero, List.set_cons_succ])
       refine wpAnyH_take (i := 3) (oi := Oper.mk (some 60) _ _ _ _ _) (v := ?_) rfl (by decide +kernel) (by decide +kernel) (by decide +kernel) (fun _ _ _ h => h) (Or.inl ⟨by rfl, ?_⟩) (by assumption) ?_
       rotate_left
       ·
        (intro w hSw; (try dsimp only at hSw); go_simp <;> (try with_reducible rfl))
       (try simp only [Act.put, List.setIfInBounds_toArray, List.set_cons_zero, List.set_cons_succ])
       refine wpAnyH_take (i := 4) (oi := Oper.mk (some 61) _ _ _ _ _) (v := ?_) rfl (by decide +kernel) (by decide +kernel) (by decide +kernel) (fun _ _ _ h => h) (Or.inl ⟨by rfl, ?_⟩) (by assumption) ?_
       rotate_left
       ·
        (intro w hSw; (try dsimp only at hSw); go_simp <;> (try with_reducible rfl))
       (try simp only [Act.put, List.setIfInBounds_toArray, List.set_cons_zero, List.set_cons_succ])
       refine wpAnyH_take (i := 6) (oi := Oper.mk (some 63) _ _ _ _ _) (v := ?_) rfl (by decide +kernel) (by decide +kernel) (by decide +kernel) (fun _ _ _ h => h) (Or.inl ⟨by rfl, ?_⟩) (by assumption) ?_
       rotate_left
       ·
        (intro w hSw; (try dsimp only at hSw); go_simp <;> (try with_reducible rfl))
       (try simp only [Act.put, List.setIfInBounds_toArray, List.set_cons_zero, List.set_cons_succ])
       refine wpAnyH_take (i := 7) (oi := Oper.mk (some 64) _ _ _ _ _) (v := ?_) rfl (by decide +kernel) (by decide +kernel) (by decide +kernel) (fun _ _ _ h => h) (Or.inl ⟨by rfl, ?_⟩) (by assumption) ?_
       rotate_left
       ·
        (intro w hSw; (try dsimp only at hSw); go_simp <;> (try with_reducible rfl))
       (try simp only [Act.put, List.setIfInBounds_toArray, List.set_cons_zero, List.set_cons_succ])
       refine wpAnyH_ready (rs := [5, 8]) (by decide +kernel) (by simp) ?_
       refine AllReadyH.cons (o := Oper.mk (some 62) _ _ _ _ _) rfl (fun K hK => ?_) (AllReadyH.cons (o := Oper.mk (some 65) _ _ _ _ _) rfl (fun K hK => ?_) AllReadyH.nil)
       ·
        go_simp
        clear hHeld
        refine hK.out _ _ (by (try dsimp only); exact KS9.out _ (Below.refl _ _).drew) (fun hHeld => ?_)
        clear hK K
        (try simp only [Act.put, List.setIfInBounds_toArray, List.set_cons_zero, List.set_cons_succ])
        refine wpAnyH_ready (rs := [8]) (by decide +kernel) (by simp) ?_
        refine AllReadyH.cons (o := Oper.mk (some 65) _ _ _ _ _) rfl (fun K hK => ?_) AllReadyH.nil
        go_simp
        (go_at_call 43; refine (pltimes_any n7 n9 o7 o9 l7 c7 l9 c9 (top / d) (-x) _ (HT.out.2.2.2.1.later (Below.refl _ _).drew) (HT.out.2.2.2.2.1.later (Below.refl _ _).drew) (by omega) (by omega)).mono ?_; rintro e w5 ⟨na, oa, la, ca, rfl, hsa, hoa, hb'⟩; have hb5 : Below T.heap.size T w5 := bnext (Below.refl _ _).drew hb'; have H5 : Hid (IntAt w5 na oa la ca (top / d * -x)) := hoa.int hsa; have hla : la ≤ 300000 := (by rw [H5.out.lim]; have h1 := lim_mul (top / d) (-x); have h2 := HT.out.2.2.2.1.lim; have h3 := HT.out.2.2.2.2.1.lim; omega); have e0 := ((hb5.cell (p := ⟨g, i * 2, none⟩) HN.out.2.2.2).trans HPC.out.1); have e1 := ((hb5.cell (p := ⟨g, i * 2 + 1, none⟩) HN.out.2.2.2).trans HPC.out.2); clear hsa hoa hb')
        (try go_wp2_with fail)
        clear hHeld
        refine hK.out _ _ (by (try dsimp only); exact KS9.out _ hb5) (fun hHeld => ?_)
        clear hK K
        (try simp only [Act.put, List.setIfInBounds_toArray, List.set_cons_zero, List.set_cons_succ])
        refine wpAnyH_ready (rs := [9]) (by decide +kernel) (by simp) ?_
        refine AllReadyH.cons (o := Oper.mk (some 66) _ _ _ _ _) rfl (fun K hK => ?_) AllReadyH.nil
        go_simp
        (go_at_call 78; refine (plminus_any n6 na o6 oa l6 c6 la ca (dig r i) (top / d * -x) _ (HT.out.2.2.2.2.2.1.later hb5) H5.out (by omega) (by omega)).mono ?_; rintro e w6 ⟨nb, ob, lb, cb', rfl, hsb, hob, hb'⟩; have hb6 : Below T.heap.size T w6 := bnext hb5 hb'; have H6 : Hid (IntAt w6 nb ob lb cb' (dig r i + top / d * x)) := (by have h := hob.int hsb; rw [Int.mul_neg, Int.sub_neg] at h; exact h); clear hsb hob hb'; have e0 := ((hb6.cell (p := ⟨g, i * 2, none⟩) HN.out.2.2.2).trans HPC.out.1); have e1 := ((hb6.cell (p := ⟨g, i * 2 + 1, none⟩) HN.out.2.2.2).trans HPC.out.2); have hfz := (HT.out.1.later hb6).hr.soft)
        (try go_wp2_with fail)
        clear hHeld
        refine hK.out _ _ (by (try dsimp only); exact KS9.out _ hb6) (fun hHeld => ?_)
        clear hK K
        (try simp only [Act.put, List.setIfInBounds_toArray, List.set_cons_zero, List.set_cons_succ])
        refine wpAnyH_take (i := 10) (oi := Oper.mk (some 67) _ _ _ _ _) (v := ?_) rfl (by decide +kernel) (by decide +kernel) (by decide +kernel) (fun _ _ _ h => h) (Or.inl ⟨by rfl, ?_⟩) (by assumption) ?_
        rotate_left
        ·
         (intro w hSw; (try dsimp only at hSw); go_simp <;> (try with_reducible rfl))
        (try simp only [Act.put, List.setIfInBounds_toArray, List.set_cons_zero, List.set_cons_succ])
        refine wpAnyH_ready (rs := [11]) (by decide +kernel) (by simp) ?_
        refine AllReadyH.cons (o := Oper.mk none _ _ _ _ _) rfl (fun K hK => ?_) AllReadyH.nil
        go_simp
        clear hHeld
        refine hK.out _ _ (by (try dsimp only); exact K9.out _ _ _ (K9.out _ _ _ (KS9.out _ hb6))) (fun hHeld => ?_)
        clear hK K
        (try simp only [Act.put, List.setIfInBounds_toArray, List.set_cons_zero, List.set_cons_succ])
        refine wpAnyH_done (by decide +kernel) ?_ _
        refine NoPanic.normal ?_
        go_wp2
        go_roundw
        case rel =>
         have h := (HT.out.1.later hb6).putR HR1.out.2 H6.out
         rw [← HR1.out.1] at h
         have hBT : Below B w w6 := HT.out.2.2.2.2.2.2.1.trans (hb6.mono (Nat.le_trans HT.out.2.2.2.2.2.2.2.2 (by have := HT.out.2.2.1.lt; omega)))
         have hx := HT.out.2.1.later hb6 HT.out.2.1.lt
         refine ⟨1, by omega, by go_num, h, ⟨fun jj v hj => by rw [cell_off HN.out.1, cell_off HN.out.1]; exact hx.1 jj v hj, fun jj => by rw [soft_far, soft_far]; exact hx.2 jj⟩, ((HT.out.2.2.2.1.later hb6).cellKept e0 (fun z e => by cases e) _).cellKept (u := .slice o6 l6 c6) (by simp [go_sem, e0, e1]) (fun z e => by cases e) _, (hBT.setCell (p := ⟨g, i * 2, none⟩) HN.out.2.2.1 _).setCell (p := ⟨g, i * 2 + 1, none⟩) HN.out.2.2.1 _, by (have := HT.out.2.2.2.2.2.2.2.1; have := hb6.size; simp; omega)⟩
        case measure => simp [intOf]
       ·
        go_simp
        (go_at_call 43; refine (pltimes_any n7 n9 o7 o9 l7 c7 l9 c9 (top / d) (-x) _ (HT.out.2.2.2.1.later (Below.refl _ _).drew) (HT.out.2.2.2.2.1.later (Below.refl _ _).drew) (by omega) (by omega)).mono ?_; rintro e w5 ⟨na, oa, la, ca, rfl, hsa, hoa, hb'⟩; have hb5 : Below T.heap.size T w5 := bnext (Below.refl _ _).drew hb'; have H5 : Hid (IntAt w5 na oa la ca (top / d * -x)) := hoa.int hsa; have hla : la ≤ 300000 := (by rw [H5.out.lim]; have h1 := lim_mul (top / d) (-x); have h2 := HT.out.2.2.2.1.lim; have h3 := HT.out.2.2.2.2.1.lim; omega); have e0 := ((hb5.cell (p := ⟨g, i * 2, none⟩) HN.out.2.2.2).trans HPC.out.1); have e1 := ((hb5.cell (p := ⟨g, i * 2 + 1, none⟩) HN.out.2.2.2).trans HPC.out.2); clear hsa hoa hb')
        (try go_wp2_with fail)
        clear hHeld
        refine hK.out _ _ (by (try dsimp only); exact KS9.out _ hb5) (fun hHeld => ?_)
        clear hK K
        (try simp only [Act.put, List.setIfInBounds_toArray, List.set_cons_zero, List.set_cons_succ])
        refine wpAnyH_ready (rs := [5]) (by decide +kernel) (by simp) ?_
        refine AllReadyH.cons (o := Oper.mk (some 62) _ _ _ _ _) rfl (fun K hK => ?_) AllReadyH.nil
        go_simp
        clear hHeld
        refine hK.out _ _ (by (try dsimp only); exact KS9.out _ hb5) (fun hHeld => ?_)
        clear hK K
        (try simp only [Act.put, List.setIfInBounds_toArray, List.set_cons_zero, List.set_cons_succ])
        refine wpAnyH_ready (rs := [9]) (by decide +kernel) (by simp) ?_
        refine AllReadyH.cons (o := Oper.mk (some 66) _ _ _ _ _) rfl (fun K hK => ?_) AllReadyH.nil
        go_simp
        (go_at_call 78; refine (plminus_any n6 na o6 oa l6 c6 la ca (dig r i) (top / d * -x) _ (HT.out.2.2.2.2.2.1.later hb5) H5.out (by omega) (by omega)).mono ?_; rintro e w6 ⟨nb, ob, lb, cb', rfl, hsb, hob, hb'⟩; have hb6 : Below T.heap.size T w6 := bnext hb5 hb'; have H6 : Hid (IntAt w6 nb ob lb cb' (dig r i + top / d * x)) := (by have h := hob.int hsb; rw [Int.mul_neg, Int.sub_neg] at h; exact h); clear hsb hob hb'; have e0 := ((hb6.cell (p := ⟨g, i * 2, none⟩) HN.out.2.2.2).trans HPC.out.1); have e1 := ((hb6.cell (p := ⟨g, i * 2 + 1, none⟩) HN.out.2.2.2).trans HPC.out.2); have hfz := (HT.out.1.later hb6).hr.soft)
        (try go_wp2_with fail)
        clear hHeld
        refine hK.out _ _ (by (try dsimp only); exact KS9.out _ hb6) (fun hHeld => ?_)
        clear hK K
        (try simp only [Act.put, List.setIfInBounds_toArray, List.set_cons_zero, List.set_cons_succ])
        refine wpAnyH_take (i := 10) (oi := Oper.mk (some 67) _ _ _ _ _) (v := ?_) rfl (by decide +kernel) (by decide +kernel) (by decide +kernel) (fun _ _ _ h => h) (Or.inl ⟨by rfl, ?_⟩) (by assumption) ?_
        rotate_left
        ·
         (intro w hSw; (try dsimp only at hSw); go_simp <;> (try with_reducible rfl))
        (try simp only [Act.put, List.setIfInBounds_toArray, List.set_cons_zero, List.set_cons_succ])
        refine wpAnyH_ready (rs := [11]) (by decide +kernel) (by simp) ?_
        refine AllReadyH.cons (o := Oper.mk none _ _ _ _ _) rfl (fun K hK => ?_) AllReadyH.nil
        go_simp
        clear hHeld
        refine hK.out _ _ (by (try dsimp only); exact K9.out _ _ _ (K9.out _ _ _ (KS9.out _ hb6))) (fun hHeld => ?_)
        clear hK K
        (try simp only [Act.put, List.setIfInBounds_toArray, List.set_cons_zero, List.set_cons_succ])
        refine wpAnyH_done (by decide +kernel) ?_ _
        refine NoPanic.normal ?_
        go_wp2
        go_roundw
        case rel =>
         have h := (HT.out.1.later hb6).putR HR1.out.2 H6.out
         rw [← HR1.out.1] at h
         have hBT : Below B w w6 := HT.out.2.2.2.2.2.2.1.trans (hb6.mono (Nat.le_trans HT.out.2.2.2.2.2.2.2.2 (by have := HT.out.2.2.1.lt; omega)))
         have hx := HT.out.2.1.later hb6 HT.out.2.1.lt
         refine ⟨1, by omega, by go_num, h, ⟨fun jj v hj => by rw [cell_off HN.out.1, cell_off HN.out.1]; exact hx.1 jj v hj, fun jj => by rw [soft_far, soft_far]; exact hx.2 jj⟩, ((HT.out.2.2.2.1.later hb6).cellKept e0 (fun z e => by cases e) _).cellKept (u := .slice o6 l6 c6) (by simp [go_sem, e0, e1]) (fun z e => by cases e) _, (hBT.setCell (p := ⟨g, i * 2, none⟩) HN.out.2.2.1 _).setCell (p := ⟨g, i * 2 + 1, none⟩) HN.out.2.2.1 _, by (have := HT.out.2.2.2.2.2.2.2.1; have := hb6.size; simp; omega)⟩
        case measure => simp [intOf]
      ·
       rw [if_neg (by decide)] at hes
       go_wp2
       go_meet
       exact ⟨hes, hx8, hi7, hbel, hsz⟩
   case rest => as_aux_lemma =>
    obtain ⟨hes, hx8, hi7, hbel, hsz⟩ := hcut
    obtain ⟨Z, hZ⟩ : ∃ Z, Z = wc := ⟨_, rfl⟩
    subst hZ
    have HZ : Hid (ES B Z g gq gd (some ⟨bb, off, none⟩) cb k b mo r1 q ∧ Bx Z r8 [.bool n7, .slice o7 l7 c7] ∧ IntAt Z n7 o7 l7 c7 (top / d) ∧ Below B w Z ∧ r8 < Z.heap.size) := ⟨hes, hx8, hi7, hbel, hsz⟩
    have HQ : Hid (i < q.length) := by show i < _; rw [HV.out.2.2.1]; exact hi
    clear hes hx8 hi7 hbel hsz
    have KS11 : Hid (∀ w', Below Z.heap.size Z w' → w'.cell? ⟨gd, 1, none⟩ = some (.slice (some ⟨gq, 0, none⟩) k k) ∧ w'.cell? ⟨r8, 0, none⟩ = some (.bool n7) ∧ w'.cell? ⟨r8, 1, none⟩ = some (.slice o7 l7 c7)) := fun w' hb => by
     have h1 := HZ.out.2.1.later hb HZ.out.2.1.lt
     exact ⟨(HZ.out.1.later hb).d1, h1.1 0 _ rfl, h1.1 1 _ rfl⟩
    have K11 : Hid (∀ (w' : World) (z : Nat) (x : Value), (w'.cell? ⟨gd, 1, none⟩ = some (.slice (some ⟨gq, 0, none⟩) k k) ∧ w'.cell? ⟨r8, 0, none⟩ = some (.bool n7) ∧ w'.cell? ⟨r8, 1, none⟩ = some (.slice o7 l7 c7)) → ((w'.setCell ⟨gq, z, none⟩ x).cell? ⟨gd, 1, none⟩ = some (.slice (some ⟨gq, 0, none⟩) k k) ∧ (w'.setCell ⟨gq, z, none⟩ x).cell? ⟨r8, 0, none⟩ = some (.bool n7) ∧ (w'.setCell ⟨gq, z, none⟩ x).cell? ⟨r8, 1, none⟩ = some (.slice o7 l7 c7))) := fun w' z x h => ⟨by rw [cell_off HG.out.2.2.2.1]; exact h.1, by rw [cell_off HYR.out.2.2.2]; exact h.2.1, by rw [cell_off HYR.out.2.2.2]; exact h.2.2⟩
    have K12 : Hid (∀ (z z' : Nat) (x y : Value), (((Z.setCell ⟨gq, z, none⟩ x).setCell ⟨gq, z', none⟩ y).drew.cell? ⟨gd, 1, none⟩ = some (.slice (some ⟨gq, 0, none⟩) k k) ∧ ((Z.setCell ⟨gq, z, none⟩ x).setCell ⟨gq, z', none⟩ y).drew.cell? ⟨r8, 0, none⟩ = some (.bool n7) ∧ ((Z.setCell ⟨gq, z, none⟩ x).setCell ⟨gq, z', none⟩ y).drew.cell? ⟨r8, 1, none⟩ = some (.slice o7 l7 c7))) := fun z z' x y => K11.out _ z' y (K11.out _ z x (KS11.out Z (Below.refl _ _)))
    obtain ⟨nz, oz, lz, cz, ⟨e0, e1⟩, _⟩ := HZ.out.1.hq.coef i HQ.out
    have hfz := HZ.out.1.hq.soft
    have y0 : (0 : Int) ≤ (i : Int) := by omega
    have y1 : (i : Int) < (k : Int) := by omega
    go_upto_region 11 with fail
    refine wp_region_noPanic ?_
    refine wp_region_held_drew (S := fun w' => (w'.cell? ⟨gd, 1, none⟩ = some (.slice (some ⟨gq, 0, none⟩) k k) ∧ w'.cell? ⟨r8, 0, none⟩ = some (.bool n7) ∧ w'.cell? ⟨r8, 1, none⟩ = some (.slice o7 l7 c7))) (by kernel_rfl) (by (try dsimp only); exact KS11.out _ (Below.refl _ _).drew) (fun hHeld => ?_)
    refine wpAnyH_take (i := 0) (oi := Oper.mk (some 69) _ _ _ _ _) (v := ?_) rfl (by decide +kernel) (by decide +kernel) (by decide +kernel) (fun _ _ _ h => h) (Or.inl ⟨by rfl, ?_⟩) (by assumption) ?_
    rotate_left
    ·
     (intro w hSw; (try dsimp only at hSw); go_simp <;> (try with_reducible rfl))
    (try simp only [Act.put, List.setIfInBounds_toArray, List.set_cons_zero, List.set_cons_succ])
    refine wpAnyH_take (i := 1) (oi := Oper.mk (some 70) _ _ _ _ _) (v := ?_) rfl (by decide +kernel) (by decide +kernel) (by decide +kernel) (fun _ _ _ h => h) (Or.inl ⟨by rfl, ?_⟩) (by assumption) ?_
    rotate_left
    ·
     (intro w hSw; (try dsimp only at hSw); go_simp <;> (try with_reducible rfl))
    (try simp only [Act.put, List.setIfInBounds_toArray, List.set_cons_zero, List.set_cons_succ])
    refine wpAnyH_take (i := 2) (oi := Oper.mk (some 71) _ _ _ _ _) (v := ?_) rfl (by decide +kernel) (by decide +kernel) (by decide +kernel) (fun _ _ _ h => h) (Or.inl ⟨by rfl, ?_⟩) (by assumption) ?_
    rotate_left
    ·
     (intro w hSw; (try dsimp only at hSw); go_simp <;> (try with_reducible rfl))
    (try simp only [Act.put, List.setIfInBounds_toArray, List.set_cons_zero, List.set_cons_succ])
    refine wpAnyH_take (i := 3) (oi := Oper.mk (some 72) _ _ _ _ _) (v := ?_) rfl (by decide +kernel) (by decide +kernel) (by decide +kernel) (fun _ _ _ h => h) (Or.inl ⟨by rfl, ?_⟩) (by assumption) ?_
    rotate_left
    ·
     (intro w hSw; (try dsimp only at hSw); go_simp <;> (try with_reducible rfl))
    (try simp only [Act.put, List.setIfInBounds_toArray, List.set_cons_zero, List.set_cons_succ])
    refine wpAnyH_take (i := 4) (oi := Oper.mk (some 73) _ _ _ _ _) (v := ?_) rfl (by decide +kernel) (by decide +kernel) (by decide +kernel) (fun _ _ _ h => h) (Or.inl ⟨by rfl, ?_⟩) (by assumption) ?_
    rotate_left
    ·
     (intro w hSw; (try dsimp only at hSw); go_simp <;> (try with_reducible rfl))
    (try simp only [Act.put, List.setIfInBounds_toArray, List.set_cons_zero, List.set_cons_succ])
    refine wpAnyH_take (i := 5) (oi := Oper.mk (some 74) _ _ _ _ _) (v := ?_) rfl (by decide +kernel) (by decide +kernel) (by decide +kernel) (fun _ _ _ h => h) (Or.inl ⟨by rfl, ?_⟩) (by assumption) ?_
    rotate_left
    ·
     (intro w hSw; (try dsimp only at hSw); go_simp <;> (try with_reducible rfl))
    (try simp only [Act.put, List.setIfInBounds_toArray, List.set_cons_zero, List.set_cons_succ])
    refine wpAnyH_take (i := 6) (oi := Oper.mk (some 75) _ _ _ _ _) (v := ?_) rfl (by decide +kernel) (by decide +kernel) (by decide +kernel) (fun _ _ _ h => h) (Or.inl ⟨by rfl, ?_⟩) (by assumption) ?_
    rotate_left
    ·
     (intro w hSw; (try dsimp only at hSw); go_simp <;> (try with_reducible rfl))
    (try simp only [Act.put, List.setIfInBounds_toArray, List.set_cons_zero, List.set_cons_succ])
    refine wpAnyH_ready (rs := [7]) (by decide +kernel) (by simp) ?_
    refine AllReadyH.cons (o := Oper.mk none _ _ _ _ _) rfl (fun K hK => ?_) AllReadyH.nil
    go_simp
    clear hHeld
    refine hK.out _ _ (by (try dsimp only); exact K12.out _ _ _ _) (fun hHeld => ?_)
    clear hK K
    (try simp only [Act.put, List.setIfInBounds_toArray, List.set_cons_zero, List.set_cons_succ])
    refine wpAnyH_done (by decide +kernel) ?_ _
    refine NoPanic.normal ?_
    go_wp2
    go_ret
    have h := (HZ.out.1.putQ HQ.out HZ.out.2.2.1).later (Below.refl _ _).drew
    rw [HR1.out.1] at h
    refine ⟨true, rfl, ?_, fun h => (by cases h), fun _ => ⟨HE.out.1, h⟩⟩
    exact ((HZ.out.2.2.2.1.setCell (p := ⟨gq, i * 2, none⟩) HG.out.2.2.2.2.2.2.1 _).setCell (p := ⟨gq, i * 2 + 1, none⟩) HG.out.2.2.2.2.2.2.1 _).drew
end Go.Proofs.YtpbkonafojemiaaGreatDoor
