/-
  PW: walks: a whole number modulo p: the page's Word and modp's; polynomials of whole numbers modulo p. (gen/pw.py)
-/
import Derived.Test.YtnniipekcbjloaaDoorPU19
import Derived.Test.YtnniipekcbjloaaDoorPU21
import Derived.Test.YtnniipekcbjloaaDoorPU22
import Derived.Test.YtnniipekcbjloaaDoorPU23
import Derived.Deep.DeepCutAuto
namespace Go.Proofs.YtnniipekcbjloaaDoor
open Go.RowKit Go.Shelf
set_option linter.unusedVariables false
set_option linter.unusedSimpArgs false
theorem val_dropM {zs : List Int} {k : Nat} (h : k < zs.length) : val 18446744073709551616 (zs.drop k) = dig zs k + 18446744073709551616 * val 18446744073709551616 (zs.drop (k + 1)) := by
  have e : zs.drop k = dig zs k :: zs.drop (k + 1) := by
    rw [List.drop_eq_getElem_cons h]
    simp [dig, h]
  rw [e]; rfl
theorem rem_stepM (V z p : Int) : (V % p * 18446744073709551616 + z) % p = (z + 18446744073709551616 * V) % p := by
  rw [Int.add_emod, emod_mul, ← Int.add_emod, Int.mul_comm V, Int.add_comm]
theorem neg_rem (a p r0 : Int) (h : a % p = r0) : (0 - r0) % p = (-a) % p := by
  rw [← h, sub_emod]; congr 1; omega
set_option maxRecDepth 100000 in
set_option maxHeartbeats 2000000 in
theorem mof_any (p v r : Int) (n : Bool) (ao : Option Addr) (l c : Nat) (w : World) (hp : 2 ≤ p ∧ p ≤ 2147483648) (hx : IntAt w n ao l c v) (hl : l ≤ 100000) (hr : v % p = r) :
    Calls Tryd.prog 57 #[.int .u64 p, .agg #[.bool n, .slice ao l c]] w fun e w' => e = .returned (.int .u64 r) ∧ Below w.heap.size w w' := by
  have hp0 : 0 < p := by omega
  obtain ⟨X, hX⟩ : ∃ X, X = w.alloc (.cells #[.bool n, .slice ao l c] 65) := ⟨_, rfl⟩
  have HX : Hid (Below w.heap.size w X ∧ X.cell? ⟨w.heap.size, 0, none⟩ = some (.bool n) ∧ X.cell? ⟨w.heap.size, 1, none⟩ = some (.slice ao l c) ∧ w.heap.size < X.heap.size) := by
    rw [hX]; exact ⟨(Below.refl _ _).alloc (Nat.le_refl _) _, by simp [go_sem], by simp [go_sem], by simp⟩
  have HI : Hid (IntAt X n ao l c v ∧ l = (mag v.natAbs).length ∧ (0 < p ∧ p < 18446744073709551616) ∧ v % p = r ∧ (0 < p ∧ p ≤ 2147483648)) := ⟨hx.later HX.out.1, hx.row.hlen, ⟨by omega, by omega⟩, hr, by omega, hp.2⟩
  have hlc := hx.row.hcap
  clear hx hr hp
  obtain ⟨rb, hrb⟩ : ∃ rb, rb = w.heap.size := ⟨_, rfl⟩
  have KS : Hid (∀ W, Below X.heap.size X W → W.cell? ⟨rb, 0, none⟩ = some (.bool n) ∧ W.cell? ⟨rb, 1, none⟩ = some (.slice ao l c)) := fun W hb => by
    rw [hrb]; exact ⟨(hb.cell (p := ⟨w.heap.size, 0, none⟩) HX.out.2.2.2).trans HX.out.2.1, (hb.cell (p := ⟨w.heap.size, 1, none⟩) HX.out.2.2.2).trans HX.out.2.2.1⟩
  obtain ⟨k0, k1⟩ := KS.out X (Below.refl _ _)
  go_enter Tryd.func57, Tryd.ntmps57
  go_upto_region 1 with fail
  rw [← hX, ← hrb]
  clear hX hrb
  go_wp2
  clear k0 k1
  go_loopw [5, 6] (fun s i wr => ∃ (k : Nat) (z : Int), k ≤ l ∧ i = .int .i64 ((k : Int) - 1) ∧ s = .int .u64 z ∧ Hid (z = val 18446744073709551616 ((mag v.natAbs).drop k) % p ∧ Below X.heap.size X wr)) (fun _ i _ => (intOf i + 1).toNat)
  case atStart => exact ⟨l, 0, Nat.le_refl _, by go_num, rfl, by rw [List.drop_eq_nil_of_le (by rw [← HI.out.2.1]; exact Nat.le_refl _)]; simp [val], Below.refl _ _⟩
  case round =>
    obtain ⟨k, z, hk, rfl, rfl, HZ⟩ := hrel
    obtain ⟨k0, k1⟩ := KS.out wr HZ.out.2
    have hzb : 0 ≤ z ∧ z < p := by rw [HZ.out.1]; exact mod_in HI.out.2.2.1.1 _
    rcases k with _ | k
    · have HV : Hid (z = ((v.natAbs : Nat) : Int) % p) := by
        show _ = _
        have := HZ.out.1
        rw [List.drop_zero, mag_val] at this; exact this
      have hsg := HI.out.1.sg
      by_cases hn : v < 0
      · have hnt : n = true := by rw [hsg]; simp [sgB, hn]
        subst hnt
        have HMI : Hid (∀ W, Calls Tryd.prog 52 #[.int .u64 p, .int .u64 0, .int .u64 z] W fun e w' => e = .returned (.int .u64 r) ∧ w' = W) := fun W => mminus_any p 0 z r W HI.out.2.2.2.2 ⟨by decide, by have := HI.out.2.2.1.1; omega⟩ hzb (by
          rw [neg_rem ((v.natAbs : Nat) : Int) p z HV.out.symm, show -((v.natAbs : Nat) : Int) = v by omega]; exact HI.out.2.2.2.1)
        clear hsg hn hzb
        go_wp2_with (go_at_call 52; refine (HMI.out _).mono ?_; rintro e w2 ⟨rfl, hw2⟩; replace hw2 := hw2.symm; subst hw2)
        go_ret
        exact ⟨rfl, bnextM (B := 0) HX.out.1 HZ.out.2⟩
      · have hnt : n = false := by rw [hsg]; simp [sgB, hn]
        subst hnt
        have HE : Hid (z = r) := by
          show _ = _
          rw [HV.out, show ((v.natAbs : Nat) : Int) = v by omega]; exact HI.out.2.2.2.1
        clear hsg hn hzb
        go_wp2
        go_ret
        exact ⟨ret_int HE.out, bnextM (B := 0) HX.out.1 HZ.out.2⟩
    · obtain ⟨b, off, rfl, hb, hc⟩ := (HI.out.1.later HZ.out.2).row.get (by omega)
      have hcell := hc k (by omega)
      obtain ⟨d, hd⟩ : ∃ d, dig (mag v.natAbs) k = d := ⟨_, rfl⟩
      have hdb := (mag_wd v.natAbs).dig (by decide) k
      rw [hd] at hcell hdb
      obtain ⟨y, hy⟩ : ∃ y, (z * 18446744073709551616 + d) % p = y := ⟨_, rfl⟩
      have hrem := fun W => mrem64 z d p hzb.1 (by have := HI.out.2.2.2.2; omega) HI.out.2.2.1.1 HI.out.2.2.1.2 hdb.1 hdb.2 W
      simp only [hy] at hrem
      have HRM : Hid (∀ W, Calls Tryd.prog 76 #[.int .u64 z, .int .u64 d, .int .u64 p] W fun e w' => e = .returned (.int .u64 y) ∧ Below W.heap.size W w') := fun W => (hrem W).mono fun e w' h => ⟨h.1, by obtain ⟨_, m, rfl⟩ := h; exact below_drewN (Below.refl _ _) _⟩
      have HY : Hid (y = val 18446744073709551616 ((mag v.natAbs).drop k) % p) := by
        show _ = _
        rw [val_dropM (by rw [← HI.out.2.1]; omega), ← hy, HZ.out.1, rem_stepM, hd]
      have z1 : (k : Int) < (l : Int) := by omega
      have z2 : (0 : Int) ≤ (k : Int) := by omega
      clear hc hd hdb hy hrem hzb
      go_wp2_with (go_at_call 76; refine (HRM.out _).mono ?_; rintro e w2 ⟨rfl, hb2⟩; have HB2 : Hid (Below X.heap.size X w2) := bnextM (B := 0) HZ.out.2 hb2; clear hb2)
      go_roundw
      case rel => exact ⟨k, y, by omega, by go_num, rfl, HY.out, HB2.out⟩
      case measure => simp [intOf]
set_option maxRecDepth 100000 in
set_option maxHeartbeats 4000000 in
theorem rword_any (pn : Nat) (v r : Int) (n : Bool) (ao : Option Addr) (l c : Nat) (w : World) (hp : 2 ≤ pn ∧ pn ≤ 2147483648) (hx : IntAt w n ao l c v) (hl : l ≤ 1000) (hr : v % (pn : Int) = r) :
    Calls Tryd.prog 44 #[.agg #[.bool n, .slice ao l c], .int .u64 (pn : Int)] w fun e w' => e = .returned (.int .u64 r) ∧ Below w.heap.size w w' := by
  obtain ⟨X, hX⟩ : ∃ X, X = w.alloc (.cells #[.bool n, .slice ao l c] 65) := ⟨_, rfl⟩
  have HX : Hid (Below w.heap.size w X ∧ X.cell? ⟨w.heap.size, 0, none⟩ = some (.bool n) ∧ X.cell? ⟨w.heap.size, 1, none⟩ = some (.slice ao l c) ∧ w.heap.size < X.heap.size) := by
    rw [hX]; exact ⟨(Below.refl _ _).alloc (Nat.le_refl _) _, by simp [go_sem], by simp [go_sem], by simp⟩
  have HI : Hid (IntAt X n ao l c v ∧ (0 < (pn : Int)) ∧ v % (pn : Int) = r ∧ (2 ≤ pn ∧ pn ≤ 2147483648)) := ⟨hx.later HX.out.1, by omega, hr, hp⟩
  have HMD : Hid (∀ (W : World) (o : Option Addr) (lk k : Nat), lk ≤ 100000 → Calls Tryd.prog 66 #[.bool false, .slice o lk k] W fun e w' => e = .returned (.agg #[.bool false, .slice o lk k]) ∧ Below W.heap.size W w') := fun W o lk k h => made_any false o lk k W (by omega)
  clear hx hr
  obtain ⟨rb, hrb⟩ : ∃ rb, rb = w.heap.size := ⟨_, rfl⟩
  have KS : Hid (∀ w', Below X.heap.size X w' → w'.cell? ⟨rb, 0, none⟩ = some (.bool n) ∧ w'.cell? ⟨rb, 1, none⟩ = some (.slice ao l c)) := fun W hb => by
    rw [hrb]; exact ⟨(hb.cell (p := ⟨w.heap.size, 0, none⟩) HX.out.2.2.2).trans HX.out.2.1, (hb.cell (p := ⟨w.heap.size, 1, none⟩) HX.out.2.2.2).trans HX.out.2.2.1⟩
  go_enter Tryd.func44, Tryd.ntmps44
  go_upto_region 1 with fail
  rw [← hX, ← hrb]
  clear hX hrb
  go_cut [5, 6] (fun s5 s6 wx => ∃ r5 r6 n8 o8 l8 c8, s5 = .pointer (some ⟨r5, 0, none⟩) ∧ s6 = .pointer (some ⟨r6, 0, none⟩) ∧ Bx wx r6 [.bool n8, .slice o8 l8 c8] ∧ IntAt wx n8 o8 l8 c8 (v % (pn : Int)) ∧ Below X.heap.size X wx)
  case first => as_aux_lemma =>
    refine wp_region_noPanic ?_
    have hbV : Below X.heap.size X X.drew := ((Below.refl _ _)).drew
    refine wp_region_held_drew (S := fun w' => (w'.cell? ⟨rb, 0, none⟩ = some (.bool n) ∧ w'.cell? ⟨rb, 1, none⟩ = some (.slice ao l c))) (by kernel_rfl) (by (try dsimp only); exact KS.out _ hbV) (fun hHeld => ?_)
    clear hHeld
    generalize X.drew = V at *
    have hHeld : V.cell? ⟨rb, 0, none⟩ = some (.bool n) ∧ V.cell? ⟨rb, 1, none⟩ = some (.slice ao l c) := KS.out _ hbV
    all_goals (
      refine wpAnyH_take (i := 0) (oi := Oper.mk (some 8) _ _ _ _ _) (v := ?_) rfl (by decide +kernel) (by decide +kernel) (by decide +kernel) (fun _ _ _ h => h) (Or.inl ⟨by rfl, ?_⟩) (by assumption) ?_
      rotate_left
      · (intro w hSw; (try dsimp only at hSw); go_simp <;> (try with_reducible rfl))
      (try simp only [Act.put, List.setIfInBounds_toArray, List.set_cons_zero, List.set_cons_succ]))
    all_goals (
      refine wpAnyH_take (i := 1) (oi := Oper.mk (some 9) _ _ _ _ _) (v := ?_) rfl (by decide +kernel) (by decide +kernel) (by decide +kernel) (fun _ _ _ h => h) (Or.inl ⟨by rfl, ?_⟩) (by assumption) ?_
      rotate_left
      · (intro w hSw; (try dsimp only at hSw); go_simp <;> (try with_reducible rfl))
      (try simp only [Act.put, List.setIfInBounds_toArray, List.set_cons_zero, List.set_cons_succ]))
    all_goals repeat' (first
      | (have _g := FA; clear _g; have _g := FB; clear _g; refine wpAnyH_ready (rs := [2]) (by kernel_rfl) (by simp) ?_; refine (AllReadyH.cons (o := Oper.mk (some 10) _ _ _ _ _) rfl (fun K hK => ?_) AllReadyH.nil))
      | ((fail_if_success (have _g := FA)); have _g := FB; clear _g; refine wpAnyH_ready (rs := [2, 8]) (by kernel_rfl) (by simp) ?_; refine (AllReadyH.cons (o := Oper.mk (some 10) _ _ _ _ _) rfl (fun K hK => ?_) (AllReadyH.cons (o := Oper.mk (some 5) _ _ _ _ _) rfl (fun K hK => ?_) AllReadyH.nil)); rotate_left; (go_simp; clear hHeld; have hst : Below V.heap.size V (V.alloc (.cells #[.bool false, .slice none 0 0] 65)) := (Below.refl _ _).alloc (Nat.le_refl _) _; have FA : Hid (Bx (V.alloc (.cells #[.bool false, .slice none 0 0] 65)) V.heap.size [.bool false, .slice none 0 0]) := Bx.new _ _ _; obtain ⟨rA, hrA⟩ : ∃ r, r = V.heap.size := ⟨_, rfl⟩; have hzA : X.heap.size ≤ rA := (by rw [hrA]; exact hbV.size); (try (have hAB : rA ≠ rB := (by have q := FB.out.lt; omega))); (try replace FB : Hid (Bx (V.alloc (.cells #[.bool false, .slice none 0 0] 65)) rB [.bool false, .slice none 0 0]) := FB.out.later hst FB.out.lt); replace hbV : Below X.heap.size X (V.alloc (.cells #[.bool false, .slice none 0 0] 65)) := below_alloc hbV (Nat.le_refl _); clear hst; refine hK.out _ _ (by (try dsimp only); exact KS.out _ hbV) (fun hHeld => ?_); clear hK K hHeld; (try simp only [Act.put, List.setIfInBounds_toArray, List.set_cons_zero, List.set_cons_succ]); rw [← hrA] at FA ⊢; clear hrA; generalize V.alloc (.cells #[.bool false, .slice none 0 0] 65) = V at *; have hHeld : V.cell? ⟨rb, 0, none⟩ = some (.bool n) ∧ V.cell? ⟨rb, 1, none⟩ = some (.slice ao l c) := KS.out _ hbV); rotate_left)
      | (have _g := FA; clear _g; (fail_if_success (have _g := FB)); refine wpAnyH_ready (rs := [2, 9]) (by kernel_rfl) (by simp) ?_; refine (AllReadyH.cons (o := Oper.mk (some 10) _ _ _ _ _) rfl (fun K hK => ?_) (AllReadyH.cons (o := Oper.mk (some 6) _ _ _ _ _) rfl (fun K hK => ?_) AllReadyH.nil)); rotate_left; (go_simp; clear hHeld; have hst : Below V.heap.size V (V.alloc (.cells #[.bool false, .slice none 0 0] 65)) := (Below.refl _ _).alloc (Nat.le_refl _) _; have FB : Hid (Bx (V.alloc (.cells #[.bool false, .slice none 0 0] 65)) V.heap.size [.bool false, .slice none 0 0]) := Bx.new _ _ _; obtain ⟨rB, hrB⟩ : ∃ r, r = V.heap.size := ⟨_, rfl⟩; have hzB : X.heap.size ≤ rB := (by rw [hrB]; exact hbV.size); (try (have hAB : rA ≠ rB := (by have q := FA.out.lt; omega))); (try replace FA : Hid (Bx (V.alloc (.cells #[.bool false, .slice none 0 0] 65)) rA [.bool false, .slice none 0 0]) := FA.out.later hst FA.out.lt); replace hbV : Below X.heap.size X (V.alloc (.cells #[.bool false, .slice none 0 0] 65)) := below_alloc hbV (Nat.le_refl _); clear hst; refine hK.out _ _ (by (try dsimp only); exact KS.out _ hbV) (fun hHeld => ?_); clear hK K hHeld; (try simp only [Act.put, List.setIfInBounds_toArray, List.set_cons_zero, List.set_cons_succ]); rw [← hrB] at FB ⊢; clear hrB; generalize V.alloc (.cells #[.bool false, .slice none 0 0] 65) = V at *; have hHeld : V.cell? ⟨rb, 0, none⟩ = some (.bool n) ∧ V.cell? ⟨rb, 1, none⟩ = some (.slice ao l c) := KS.out _ hbV); rotate_left)
      | ((fail_if_success (have _g := FA)); (fail_if_success (have _g := FB)); refine wpAnyH_ready (rs := [2, 8, 9]) (by kernel_rfl) (by simp) ?_; refine (AllReadyH.cons (o := Oper.mk (some 10) _ _ _ _ _) rfl (fun K hK => ?_) (AllReadyH.cons (o := Oper.mk (some 5) _ _ _ _ _) rfl (fun K hK => ?_) (AllReadyH.cons (o := Oper.mk (some 6) _ _ _ _ _) rfl (fun K hK => ?_) AllReadyH.nil))); rotate_left; (go_simp; clear hHeld; have hst : Below V.heap.size V (V.alloc (.cells #[.bool false, .slice none 0 0] 65)) := (Below.refl _ _).alloc (Nat.le_refl _) _; have FA : Hid (Bx (V.alloc (.cells #[.bool false, .slice none 0 0] 65)) V.heap.size [.bool false, .slice none 0 0]) := Bx.new _ _ _; obtain ⟨rA, hrA⟩ : ∃ r, r = V.heap.size := ⟨_, rfl⟩; have hzA : X.heap.size ≤ rA := (by rw [hrA]; exact hbV.size); (try (have hAB : rA ≠ rB := (by have q := FB.out.lt; omega))); (try replace FB : Hid (Bx (V.alloc (.cells #[.bool false, .slice none 0 0] 65)) rB [.bool false, .slice none 0 0]) := FB.out.later hst FB.out.lt); replace hbV : Below X.heap.size X (V.alloc (.cells #[.bool false, .slice none 0 0] 65)) := below_alloc hbV (Nat.le_refl _); clear hst; refine hK.out _ _ (by (try dsimp only); exact KS.out _ hbV) (fun hHeld => ?_); clear hK K hHeld; (try simp only [Act.put, List.setIfInBounds_toArray, List.set_cons_zero, List.set_cons_succ]); rw [← hrA] at FA ⊢; clear hrA; generalize V.alloc (.cells #[.bool false, .slice none 0 0] 65) = V at *; have hHeld : V.cell? ⟨rb, 0, none⟩ = some (.bool n) ∧ V.cell? ⟨rb, 1, none⟩ = some (.slice ao l c) := KS.out _ hbV); rotate_left; (go_simp; clear hHeld; have hst : Below V.heap.size V (V.alloc (.cells #[.bool false, .slice none 0 0] 65)) := (Below.refl _ _).alloc (Nat.le_refl _) _; have FB : Hid (Bx (V.alloc (.cells #[.bool false, .slice none 0 0] 65)) V.heap.size [.bool false, .slice none 0 0]) := Bx.new _ _ _; obtain ⟨rB, hrB⟩ : ∃ r, r = V.heap.size := ⟨_, rfl⟩; have hzB : X.heap.size ≤ rB := (by rw [hrB]; exact hbV.size); (try (have hAB : rA ≠ rB := (by have q := FA.out.lt; omega))); (try replace FA : Hid (Bx (V.alloc (.cells #[.bool false, .slice none 0 0] 65)) rA [.bool false, .slice none 0 0]) := FA.out.later hst FA.out.lt); replace hbV : Below X.heap.size X (V.alloc (.cells #[.bool false, .slice none 0 0] 65)) := below_alloc hbV (Nat.le_refl _); clear hst; refine hK.out _ _ (by (try dsimp only); exact KS.out _ hbV) (fun hHeld => ?_); clear hK K hHeld; (try simp only [Act.put, List.setIfInBounds_toArray, List.set_cons_zero, List.set_cons_succ]); rw [← hrB] at FB ⊢; clear hrB; generalize V.alloc (.cells #[.bool false, .slice none 0 0] 65) = V at *; have hHeld : V.cell? ⟨rb, 0, none⟩ = some (.bool n) ∧ V.cell? ⟨rb, 1, none⟩ = some (.slice ao l c) := KS.out _ hbV); rotate_left))
    all_goals (go_simp; (go_at_call 67; refine (nof_any pn _ (by omega)).mono ?_; rintro e V ⟨o1, l1, c1, rfl, ho1, hb⟩; have H1 : Hid (IntAt V false o1 l1 c1 (pn : Int)) := Own.int (by simpa using ho1) (by simp [sgB]); have hl1 : l1 ≤ 1 := (by rw [ho1.row.hlen]; exact mag_len_one (by omega)); clear ho1; (try replace FA : Hid (Bx V rA [.bool false, .slice none 0 0]) := FA.out.later hb FA.out.lt); (try replace FB : Hid (Bx V rB [.bool false, .slice none 0 0]) := FB.out.later hb FB.out.lt); replace hbV : Below X.heap.size X V := bnext hbV hb; clear hb); (try go_wp2_with fail); clear hHeld; refine hK.out _ _ (by (try dsimp only); exact KS.out _ hbV) (fun hHeld => ?_); clear hK K; (try simp only [Act.put, List.setIfInBounds_toArray, List.set_cons_zero, List.set_cons_succ]))
    all_goals repeat' (first
      | (have _g := FA; clear _g; have _g := FB; clear _g; refine wpAnyH_ready (rs := [3]) (by kernel_rfl) (by simp) ?_; refine (AllReadyH.cons (o := Oper.mk (some 11) _ _ _ _ _) rfl (fun K hK => ?_) AllReadyH.nil))
      | ((fail_if_success (have _g := FA)); have _g := FB; clear _g; refine wpAnyH_ready (rs := [3, 8]) (by kernel_rfl) (by simp) ?_; refine (AllReadyH.cons (o := Oper.mk (some 11) _ _ _ _ _) rfl (fun K hK => ?_) (AllReadyH.cons (o := Oper.mk (some 5) _ _ _ _ _) rfl (fun K hK => ?_) AllReadyH.nil)); rotate_left; (go_simp; clear hHeld; have hst : Below V.heap.size V (V.alloc (.cells #[.bool false, .slice none 0 0] 65)) := (Below.refl _ _).alloc (Nat.le_refl _) _; have FA : Hid (Bx (V.alloc (.cells #[.bool false, .slice none 0 0] 65)) V.heap.size [.bool false, .slice none 0 0]) := Bx.new _ _ _; obtain ⟨rA, hrA⟩ : ∃ r, r = V.heap.size := ⟨_, rfl⟩; have hzA : X.heap.size ≤ rA := (by rw [hrA]; exact hbV.size); (try (have hAB : rA ≠ rB := (by have q := FB.out.lt; omega))); replace H1 : Hid (IntAt (V.alloc (.cells #[.bool false, .slice none 0 0] 65)) false o1 l1 c1 (pn : Int)) := H1.out.later hst; (try replace FB : Hid (Bx (V.alloc (.cells #[.bool false, .slice none 0 0] 65)) rB [.bool false, .slice none 0 0]) := FB.out.later hst FB.out.lt); replace hbV : Below X.heap.size X (V.alloc (.cells #[.bool false, .slice none 0 0] 65)) := below_alloc hbV (Nat.le_refl _); clear hst; refine hK.out _ _ (by (try dsimp only); exact KS.out _ hbV) (fun hHeld => ?_); clear hK K hHeld; (try simp only [Act.put, List.setIfInBounds_toArray, List.set_cons_zero, List.set_cons_succ]); rw [← hrA] at FA ⊢; clear hrA; generalize V.alloc (.cells #[.bool false, .slice none 0 0] 65) = V at *; have hHeld : V.cell? ⟨rb, 0, none⟩ = some (.bool n) ∧ V.cell? ⟨rb, 1, none⟩ = some (.slice ao l c) := KS.out _ hbV); rotate_left)
      | (have _g := FA; clear _g; (fail_if_success (have _g := FB)); refine wpAnyH_ready (rs := [3, 9]) (by kernel_rfl) (by simp) ?_; refine (AllReadyH.cons (o := Oper.mk (some 11) _ _ _ _ _) rfl (fun K hK => ?_) (AllReadyH.cons (o := Oper.mk (some 6) _ _ _ _ _) rfl (fun K hK => ?_) AllReadyH.nil)); rotate_left; (go_simp; clear hHeld; have hst : Below V.heap.size V (V.alloc (.cells #[.bool false, .slice none 0 0] 65)) := (Below.refl _ _).alloc (Nat.le_refl _) _; have FB : Hid (Bx (V.alloc (.cells #[.bool false, .slice none 0 0] 65)) V.heap.size [.bool false, .slice none 0 0]) := Bx.new _ _ _; obtain ⟨rB, hrB⟩ : ∃ r, r = V.heap.size := ⟨_, rfl⟩; have hzB : X.heap.size ≤ rB := (by rw [hrB]; exact hbV.size); (try (have hAB : rA ≠ rB := (by have q := FA.out.lt; omega))); replace H1 : Hid (IntAt (V.alloc (.cells #[.bool false, .slice none 0 0] 65)) false o1 l1 c1 (pn : Int)) := H1.out.later hst; (try replace FA : Hid (Bx (V.alloc (.cells #[.bool false, .slice none 0 0] 65)) rA [.bool false, .slice none 0 0]) := FA.out.later hst FA.out.lt); replace hbV : Below X.heap.size X (V.alloc (.cells #[.bool false, .slice none 0 0] 65)) := below_alloc hbV (Nat.le_refl _); clear hst; refine hK.out _ _ (by (try dsimp only); exact KS.out _ hbV) (fun hHeld => ?_); clear hK K hHeld; (try simp only [Act.put, List.setIfInBounds_toArray, List.set_cons_zero, List.set_cons_succ]); rw [← hrB] at FB ⊢; clear hrB; generalize V.alloc (.cells #[.bool false, .slice none 0 0] 65) = V at *; have hHeld : V.cell? ⟨rb, 0, none⟩ = some (.bool n) ∧ V.cell? ⟨rb, 1, none⟩ = some (.slice ao l c) := KS.out _ hbV); rotate_left)
      | ((fail_if_success (have _g := FA)); (fail_if_success (have _g := FB)); refine wpAnyH_ready (rs := [3, 8, 9]) (by kernel_rfl) (by simp) ?_; refine (AllReadyH.cons (o := Oper.mk (some 11) _ _ _ _ _) rfl (fun K hK => ?_) (AllReadyH.cons (o := Oper.mk (some 5) _ _ _ _ _) rfl (fun K hK => ?_) (AllReadyH.cons (o := Oper.mk (some 6) _ _ _ _ _) rfl (fun K hK => ?_) AllReadyH.nil))); rotate_left; (go_simp; clear hHeld; have hst : Below V.heap.size V (V.alloc (.cells #[.bool false, .slice none 0 0] 65)) := (Below.refl _ _).alloc (Nat.le_refl _) _; have FA : Hid (Bx (V.alloc (.cells #[.bool false, .slice none 0 0] 65)) V.heap.size [.bool false, .slice none 0 0]) := Bx.new _ _ _; obtain ⟨rA, hrA⟩ : ∃ r, r = V.heap.size := ⟨_, rfl⟩; have hzA : X.heap.size ≤ rA := (by rw [hrA]; exact hbV.size); (try (have hAB : rA ≠ rB := (by have q := FB.out.lt; omega))); replace H1 : Hid (IntAt (V.alloc (.cells #[.bool false, .slice none 0 0] 65)) false o1 l1 c1 (pn : Int)) := H1.out.later hst; (try replace FB : Hid (Bx (V.alloc (.cells #[.bool false, .slice none 0 0] 65)) rB [.bool false, .slice none 0 0]) := FB.out.later hst FB.out.lt); replace hbV : Below X.heap.size X (V.alloc (.cells #[.bool false, .slice none 0 0] 65)) := below_alloc hbV (Nat.le_refl _); clear hst; refine hK.out _ _ (by (try dsimp only); exact KS.out _ hbV) (fun hHeld => ?_); clear hK K hHeld; (try simp only [Act.put, List.setIfInBounds_toArray, List.set_cons_zero, List.set_cons_succ]); rw [← hrA] at FA ⊢; clear hrA; generalize V.alloc (.cells #[.bool false, .slice none 0 0] 65) = V at *; have hHeld : V.cell? ⟨rb, 0, none⟩ = some (.bool n) ∧ V.cell? ⟨rb, 1, none⟩ = some (.slice ao l c) := KS.out _ hbV); rotate_left; (go_simp; clear hHeld; have hst : Below V.heap.size V (V.alloc (.cells #[.bool false, .slice none 0 0] 65)) := (Below.refl _ _).alloc (Nat.le_refl _) _; have FB : Hid (Bx (V.alloc (.cells #[.bool false, .slice none 0 0] 65)) V.heap.size [.bool false, .slice none 0 0]) := Bx.new _ _ _; obtain ⟨rB, hrB⟩ : ∃ r, r = V.heap.size := ⟨_, rfl⟩; have hzB : X.heap.size ≤ rB := (by rw [hrB]; exact hbV.size); (try (have hAB : rA ≠ rB := (by have q := FA.out.lt; omega))); replace H1 : Hid (IntAt (V.alloc (.cells #[.bool false, .slice none 0 0] 65)) false o1 l1 c1 (pn : Int)) := H1.out.later hst; (try replace FA : Hid (Bx (V.alloc (.cells #[.bool false, .slice none 0 0] 65)) rA [.bool false, .slice none 0 0]) := FA.out.later hst FA.out.lt); replace hbV : Below X.heap.size X (V.alloc (.cells #[.bool false, .slice none 0 0] 65)) := below_alloc hbV (Nat.le_refl _); clear hst; refine hK.out _ _ (by (try dsimp only); exact KS.out _ hbV) (fun hHeld => ?_); clear hK K hHeld; (try simp only [Act.put, List.setIfInBounds_toArray, List.set_cons_zero, List.set_cons_succ]); rw [← hrB] at FB ⊢; clear hrB; generalize V.alloc (.cells #[.bool false, .slice none 0 0] 65) = V at *; have hHeld : V.cell? ⟨rb, 0, none⟩ = some (.bool n) ∧ V.cell? ⟨rb, 1, none⟩ = some (.slice ao l c) := KS.out _ hbV); rotate_left))
    all_goals (go_simp; (go_at_call 66; refine (HMD.out _ o1 l1 c1 (by omega)).mono ?_; rintro e V ⟨rfl, hb⟩; skip; replace H1 : Hid (IntAt V false o1 l1 c1 (pn : Int)) := H1.out.later hb; (try replace FA : Hid (Bx V rA [.bool false, .slice none 0 0]) := FA.out.later hb FA.out.lt); (try replace FB : Hid (Bx V rB [.bool false, .slice none 0 0]) := FB.out.later hb FB.out.lt); replace hbV : Below X.heap.size X V := bnext hbV hb; clear hb); (try go_wp2_with fail); clear hHeld; refine hK.out _ _ (by (try dsimp only); exact KS.out _ hbV) (fun hHeld => ?_); clear hK K; (try simp only [Act.put, List.setIfInBounds_toArray, List.set_cons_zero, List.set_cons_succ]))
    all_goals repeat' (first
      | (have _g := FA; clear _g; have _g := FB; clear _g; refine wpAnyH_ready (rs := [4]) (by kernel_rfl) (by simp) ?_; refine (AllReadyH.cons (o := Oper.mk (some 12) _ _ _ _ _) rfl (fun K hK => ?_) AllReadyH.nil))
      | ((fail_if_success (have _g := FA)); have _g := FB; clear _g; refine wpAnyH_ready (rs := [4, 8]) (by kernel_rfl) (by simp) ?_; refine (AllReadyH.cons (o := Oper.mk (some 12) _ _ _ _ _) rfl (fun K hK => ?_) (AllReadyH.cons (o := Oper.mk (some 5) _ _ _ _ _) rfl (fun K hK => ?_) AllReadyH.nil)); rotate_left; (go_simp; clear hHeld; have hst : Below V.heap.size V (V.alloc (.cells #[.bool false, .slice none 0 0] 65)) := (Below.refl _ _).alloc (Nat.le_refl _) _; have FA : Hid (Bx (V.alloc (.cells #[.bool false, .slice none 0 0] 65)) V.heap.size [.bool false, .slice none 0 0]) := Bx.new _ _ _; obtain ⟨rA, hrA⟩ : ∃ r, r = V.heap.size := ⟨_, rfl⟩; have hzA : X.heap.size ≤ rA := (by rw [hrA]; exact hbV.size); (try (have hAB : rA ≠ rB := (by have q := FB.out.lt; omega))); replace H1 : Hid (IntAt (V.alloc (.cells #[.bool false, .slice none 0 0] 65)) false o1 l1 c1 (pn : Int)) := H1.out.later hst; (try replace FB : Hid (Bx (V.alloc (.cells #[.bool false, .slice none 0 0] 65)) rB [.bool false, .slice none 0 0]) := FB.out.later hst FB.out.lt); replace hbV : Below X.heap.size X (V.alloc (.cells #[.bool false, .slice none 0 0] 65)) := below_alloc hbV (Nat.le_refl _); clear hst; refine hK.out _ _ (by (try dsimp only); exact KS.out _ hbV) (fun hHeld => ?_); clear hK K hHeld; (try simp only [Act.put, List.setIfInBounds_toArray, List.set_cons_zero, List.set_cons_succ]); rw [← hrA] at FA ⊢; clear hrA; generalize V.alloc (.cells #[.bool false, .slice none 0 0] 65) = V at *; have hHeld : V.cell? ⟨rb, 0, none⟩ = some (.bool n) ∧ V.cell? ⟨rb, 1, none⟩ = some (.slice ao l c) := KS.out _ hbV); rotate_left)
      | (have _g := FA; clear _g; (fail_if_success (have _g := FB)); refine wpAnyH_ready (rs := [4, 9]) (by kernel_rfl) (by simp) ?_; refine (AllReadyH.cons (o := Oper.mk (some 12) _ _ _ _ _) rfl (fun K hK => ?_) (AllReadyH.cons (o := Oper.mk (some 6) _ _ _ _ _) rfl (fun K hK => ?_) AllReadyH.nil)); rotate_left; (go_simp; clear hHeld; have hst : Below V.heap.size V (V.alloc (.cells #[.bool false, .slice none 0 0] 65)) := (Below.refl _ _).alloc (Nat.le_refl _) _; have FB : Hid (Bx (V.alloc (.cells #[.bool false, .slice none 0 0] 65)) V.heap.size [.bool false, .slice none 0 0]) := Bx.new _ _ _; obtain ⟨rB, hrB⟩ : ∃ r, r = V.heap.size := ⟨_, rfl⟩; have hzB : X.heap.size ≤ rB := (by rw [hrB]; exact hbV.size); (try (have hAB : rA ≠ rB := (by have q := FA.out.lt; omega))); replace H1 : Hid (IntAt (V.alloc (.cells #[.bool false, .slice none 0 0] 65)) false o1 l1 c1 (pn : Int)) := H1.out.later hst; (try replace FA : Hid (Bx (V.alloc (.cells #[.bool false, .slice none 0 0] 65)) rA [.bool false, .slice none 0 0]) := FA.out.later hst FA.out.lt); replace hbV : Below X.heap.size X (V.alloc (.cells #[.bool false, .slice none 0 0] 65)) := below_alloc hbV (Nat.le_refl _); clear hst; refine hK.out _ _ (by (try dsimp only); exact KS.out _ hbV) (fun hHeld => ?_); clear hK K hHeld; (try simp only [Act.put, List.setIfInBounds_toArray, List.set_cons_zero, List.set_cons_succ]); rw [← hrB] at FB ⊢; clear hrB; generalize V.alloc (.cells #[.bool false, .slice none 0 0] 65) = V at *; have hHeld : V.cell? ⟨rb, 0, none⟩ = some (.bool n) ∧ V.cell? ⟨rb, 1, none⟩ = some (.slice ao l c) := KS.out _ hbV); rotate_left)
      | ((fail_if_success (have _g := FA)); (fail_if_success (have _g := FB)); refine wpAnyH_ready (rs := [4, 8, 9]) (by kernel_rfl) (by simp) ?_; refine (AllReadyH.cons (o := Oper.mk (some 12) _ _ _ _ _) rfl (fun K hK => ?_) (AllReadyH.cons (o := Oper.mk (some 5) _ _ _ _ _) rfl (fun K hK => ?_) (AllReadyH.cons (o := Oper.mk (some 6) _ _ _ _ _) rfl (fun K hK => ?_) AllReadyH.nil))); rotate_left; (go_simp; clear hHeld; have hst : Below V.heap.size V (V.alloc (.cells #[.bool false, .slice none 0 0] 65)) := (Below.refl _ _).alloc (Nat.le_refl _) _; have FA : Hid (Bx (V.alloc (.cells #[.bool false, .slice none 0 0] 65)) V.heap.size [.bool false, .slice none 0 0]) := Bx.new _ _ _; obtain ⟨rA, hrA⟩ : ∃ r, r = V.heap.size := ⟨_, rfl⟩; have hzA : X.heap.size ≤ rA := (by rw [hrA]; exact hbV.size); (try (have hAB : rA ≠ rB := (by have q := FB.out.lt; omega))); replace H1 : Hid (IntAt (V.alloc (.cells #[.bool false, .slice none 0 0] 65)) false o1 l1 c1 (pn : Int)) := H1.out.later hst; (try replace FB : Hid (Bx (V.alloc (.cells #[.bool false, .slice none 0 0] 65)) rB [.bool false, .slice none 0 0]) := FB.out.later hst FB.out.lt); replace hbV : Below X.heap.size X (V.alloc (.cells #[.bool false, .slice none 0 0] 65)) := below_alloc hbV (Nat.le_refl _); clear hst; refine hK.out _ _ (by (try dsimp only); exact KS.out _ hbV) (fun hHeld => ?_); clear hK K hHeld; (try simp only [Act.put, List.setIfInBounds_toArray, List.set_cons_zero, List.set_cons_succ]); rw [← hrA] at FA ⊢; clear hrA; generalize V.alloc (.cells #[.bool false, .slice none 0 0] 65) = V at *; have hHeld : V.cell? ⟨rb, 0, none⟩ = some (.bool n) ∧ V.cell? ⟨rb, 1, none⟩ = some (.slice ao l c) := KS.out _ hbV); rotate_left; (go_simp; clear hHeld; have hst : Below V.heap.size V (V.alloc (.cells #[.bool false, .slice none 0 0] 65)) := (Below.refl _ _).alloc (Nat.le_refl _) _; have FB : Hid (Bx (V.alloc (.cells #[.bool false, .slice none 0 0] 65)) V.heap.size [.bool false, .slice none 0 0]) := Bx.new _ _ _; obtain ⟨rB, hrB⟩ : ∃ r, r = V.heap.size := ⟨_, rfl⟩; have hzB : X.heap.size ≤ rB := (by rw [hrB]; exact hbV.size); (try (have hAB : rA ≠ rB := (by have q := FA.out.lt; omega))); replace H1 : Hid (IntAt (V.alloc (.cells #[.bool false, .slice none 0 0] 65)) false o1 l1 c1 (pn : Int)) := H1.out.later hst; (try replace FA : Hid (Bx (V.alloc (.cells #[.bool false, .slice none 0 0] 65)) rA [.bool false, .slice none 0 0]) := FA.out.later hst FA.out.lt); replace hbV : Below X.heap.size X (V.alloc (.cells #[.bool false, .slice none 0 0] 65)) := below_alloc hbV (Nat.le_refl _); clear hst; refine hK.out _ _ (by (try dsimp only); exact KS.out _ hbV) (fun hHeld => ?_); clear hK K hHeld; (try simp only [Act.put, List.setIfInBounds_toArray, List.set_cons_zero, List.set_cons_succ]); rw [← hrB] at FB ⊢; clear hrB; generalize V.alloc (.cells #[.bool false, .slice none 0 0] 65) = V at *; have hHeld : V.cell? ⟨rb, 0, none⟩ = some (.bool n) ∧ V.cell? ⟨rb, 1, none⟩ = some (.slice ao l c) := KS.out _ hbV); rotate_left))
    all_goals (go_simp; (go_at_call 65; refine (rdivide_any n false ao o1 l c l1 c1 v (pn : Int) _ (HI.out.1.later hbV) H1.out (by omega) (by omega) (Int.ne_of_gt HI.out.2.1)).mono ?_; rintro e V ⟨q', r', hfl, n7, o7, l7, c7, n8, o8, l8, c8, rfl, hi7, hi8, hb⟩; have hqr := hfl.pos HI.out.2.1; have H8 : Hid (IntAt V n8 o8 l8 c8 (v % (pn : Int))) := (by rw [← hqr.2]; exact hi8); clear hfl hqr hi7 hi8; replace H1 : Hid (IntAt V false o1 l1 c1 (pn : Int)) := H1.out.later hb; (try replace FA : Hid (Bx V rA [.bool false, .slice none 0 0]) := FA.out.later hb FA.out.lt); (try replace FB : Hid (Bx V rB [.bool false, .slice none 0 0]) := FB.out.later hb FB.out.lt); replace hbV : Below X.heap.size X V := bnext hbV hb; clear hb); (try go_wp2_with fail); clear hHeld; refine hK.out _ _ (by (try dsimp only); exact KS.out _ hbV) (fun hHeld => ?_); clear hK K; (try simp only [Act.put, List.setIfInBounds_toArray, List.set_cons_zero, List.set_cons_succ]))
    all_goals (
      refine wpAnyH_take (i := 5) (oi := Oper.mk (some 7) _ _ _ _ _) (v := ?_) rfl (by decide +kernel) (by decide +kernel) (by decide +kernel) (fun _ _ _ h => h) (Or.inl ⟨by rfl, ?_⟩) (by assumption) ?_
      rotate_left
      · (intro w hSw; (try dsimp only at hSw); go_simp <;> (try with_reducible rfl))
      (try simp only [Act.put, List.setIfInBounds_toArray, List.set_cons_zero, List.set_cons_succ]))
    all_goals (
      refine wpAnyH_take (i := 6) (oi := Oper.mk (some 13) _ _ _ _ _) (v := ?_) rfl (by decide +kernel) (by decide +kernel) (by decide +kernel) (fun _ _ _ h => h) (Or.inl ⟨by rfl, ?_⟩) (by assumption) ?_
      rotate_left
      · (intro w hSw; (try dsimp only at hSw); go_simp <;> (try with_reducible rfl))
      (try simp only [Act.put, List.setIfInBounds_toArray, List.set_cons_zero, List.set_cons_succ]))
    all_goals (
      refine wpAnyH_take (i := 7) (oi := Oper.mk (some 14) _ _ _ _ _) (v := ?_) rfl (by decide +kernel) (by decide +kernel) (by decide +kernel) (fun _ _ _ h => h) (Or.inl ⟨by rfl, ?_⟩) (by assumption) ?_
      rotate_left
      · (intro w hSw; (try dsimp only at hSw); go_simp <;> (try with_reducible rfl))
      (try simp only [Act.put, List.setIfInBounds_toArray, List.set_cons_zero, List.set_cons_succ]))
    all_goals clear H1
    all_goals repeat' (first
      | (have _g := FA; clear _g; have _g := FB; clear _g; refine wpAnyH_ready (rs := [10]) (by kernel_rfl) (by simp) ?_; refine (AllReadyH.cons (o := Oper.mk none _ _ _ _ _) rfl (fun K hK => ?_) AllReadyH.nil))
      | ((fail_if_success (have _g := FA)); have _g := FB; clear _g; refine wpAnyH_ready (rs := [8]) (by kernel_rfl) (by simp) ?_; refine (AllReadyH.cons (o := Oper.mk (some 5) _ _ _ _ _) rfl (fun K hK => ?_) AllReadyH.nil); (go_simp; clear hHeld; have hst : Below V.heap.size V (V.alloc (.cells #[.bool false, .slice none 0 0] 65)) := (Below.refl _ _).alloc (Nat.le_refl _) _; have FA : Hid (Bx (V.alloc (.cells #[.bool false, .slice none 0 0] 65)) V.heap.size [.bool false, .slice none 0 0]) := Bx.new _ _ _; obtain ⟨rA, hrA⟩ : ∃ r, r = V.heap.size := ⟨_, rfl⟩; have hzA : X.heap.size ≤ rA := (by rw [hrA]; exact hbV.size); (try (have hAB : rA ≠ rB := (by have q := FB.out.lt; omega))); replace H8 : Hid (IntAt (V.alloc (.cells #[.bool false, .slice none 0 0] 65)) n8 o8 l8 c8 (v % (pn : Int))) := H8.out.later hst; (try replace FB : Hid (Bx (V.alloc (.cells #[.bool false, .slice none 0 0] 65)) rB [.bool false, .slice none 0 0]) := FB.out.later hst FB.out.lt); replace hbV : Below X.heap.size X (V.alloc (.cells #[.bool false, .slice none 0 0] 65)) := below_alloc hbV (Nat.le_refl _); clear hst; refine hK.out _ _ (by (try dsimp only); exact KS.out _ hbV) (fun hHeld => ?_); clear hK K hHeld; (try simp only [Act.put, List.setIfInBounds_toArray, List.set_cons_zero, List.set_cons_succ]); rw [← hrA] at FA ⊢; clear hrA; generalize V.alloc (.cells #[.bool false, .slice none 0 0] 65) = V at *; have hHeld : V.cell? ⟨rb, 0, none⟩ = some (.bool n) ∧ V.cell? ⟨rb, 1, none⟩ = some (.slice ao l c) := KS.out _ hbV))
      | (have _g := FA; clear _g; (fail_if_success (have _g := FB)); refine wpAnyH_ready (rs := [9]) (by kernel_rfl) (by simp) ?_; refine (AllReadyH.cons (o := Oper.mk (some 6) _ _ _ _ _) rfl (fun K hK => ?_) AllReadyH.nil); (go_simp; clear hHeld; have hst : Below V.heap.size V (V.alloc (.cells #[.bool false, .slice none 0 0] 65)) := (Below.refl _ _).alloc (Nat.le_refl _) _; have FB : Hid (Bx (V.alloc (.cells #[.bool false, .slice none 0 0] 65)) V.heap.size [.bool false, .slice none 0 0]) := Bx.new _ _ _; obtain ⟨rB, hrB⟩ : ∃ r, r = V.heap.size := ⟨_, rfl⟩; have hzB : X.heap.size ≤ rB := (by rw [hrB]; exact hbV.size); (try (have hAB : rA ≠ rB := (by have q := FA.out.lt; omega))); replace H8 : Hid (IntAt (V.alloc (.cells #[.bool false, .slice none 0 0] 65)) n8 o8 l8 c8 (v % (pn : Int))) := H8.out.later hst; (try replace FA : Hid (Bx (V.alloc (.cells #[.bool false, .slice none 0 0] 65)) rA [.bool false, .slice none 0 0]) := FA.out.later hst FA.out.lt); replace hbV : Below X.heap.size X (V.alloc (.cells #[.bool false, .slice none 0 0] 65)) := below_alloc hbV (Nat.le_refl _); clear hst; refine hK.out _ _ (by (try dsimp only); exact KS.out _ hbV) (fun hHeld => ?_); clear hK K hHeld; (try simp only [Act.put, List.setIfInBounds_toArray, List.set_cons_zero, List.set_cons_succ]); rw [← hrB] at FB ⊢; clear hrB; generalize V.alloc (.cells #[.bool false, .slice none 0 0] 65) = V at *; have hHeld : V.cell? ⟨rb, 0, none⟩ = some (.bool n) ∧ V.cell? ⟨rb, 1, none⟩ = some (.slice ao l c) := KS.out _ hbV))
      | ((fail_if_success (have _g := FA)); (fail_if_success (have _g := FB)); refine wpAnyH_ready (rs := [8, 9]) (by kernel_rfl) (by simp) ?_; refine (AllReadyH.cons (o := Oper.mk (some 5) _ _ _ _ _) rfl (fun K hK => ?_) (AllReadyH.cons (o := Oper.mk (some 6) _ _ _ _ _) rfl (fun K hK => ?_) AllReadyH.nil)); (go_simp; clear hHeld; have hst : Below V.heap.size V (V.alloc (.cells #[.bool false, .slice none 0 0] 65)) := (Below.refl _ _).alloc (Nat.le_refl _) _; have FA : Hid (Bx (V.alloc (.cells #[.bool false, .slice none 0 0] 65)) V.heap.size [.bool false, .slice none 0 0]) := Bx.new _ _ _; obtain ⟨rA, hrA⟩ : ∃ r, r = V.heap.size := ⟨_, rfl⟩; have hzA : X.heap.size ≤ rA := (by rw [hrA]; exact hbV.size); (try (have hAB : rA ≠ rB := (by have q := FB.out.lt; omega))); replace H8 : Hid (IntAt (V.alloc (.cells #[.bool false, .slice none 0 0] 65)) n8 o8 l8 c8 (v % (pn : Int))) := H8.out.later hst; (try replace FB : Hid (Bx (V.alloc (.cells #[.bool false, .slice none 0 0] 65)) rB [.bool false, .slice none 0 0]) := FB.out.later hst FB.out.lt); replace hbV : Below X.heap.size X (V.alloc (.cells #[.bool false, .slice none 0 0] 65)) := below_alloc hbV (Nat.le_refl _); clear hst; refine hK.out _ _ (by (try dsimp only); exact KS.out _ hbV) (fun hHeld => ?_); clear hK K hHeld; (try simp only [Act.put, List.setIfInBounds_toArray, List.set_cons_zero, List.set_cons_succ]); rw [← hrA] at FA ⊢; clear hrA; generalize V.alloc (.cells #[.bool false, .slice none 0 0] 65) = V at *; have hHeld : V.cell? ⟨rb, 0, none⟩ = some (.bool n) ∧ V.cell? ⟨rb, 1, none⟩ = some (.slice ao l c) := KS.out _ hbV); rotate_left; (go_simp; clear hHeld; have hst : Below V.heap.size V (V.alloc (.cells #[.bool false, .slice none 0 0] 65)) := (Below.refl _ _).alloc (Nat.le_refl _) _; have FB : Hid (Bx (V.alloc (.cells #[.bool false, .slice none 0 0] 65)) V.heap.size [.bool false, .slice none 0 0]) := Bx.new _ _ _; obtain ⟨rB, hrB⟩ : ∃ r, r = V.heap.size := ⟨_, rfl⟩; have hzB : X.heap.size ≤ rB := (by rw [hrB]; exact hbV.size); (try (have hAB : rA ≠ rB := (by have q := FA.out.lt; omega))); replace H8 : Hid (IntAt (V.alloc (.cells #[.bool false, .slice none 0 0] 65)) n8 o8 l8 c8 (v % (pn : Int))) := H8.out.later hst; (try replace FA : Hid (Bx (V.alloc (.cells #[.bool false, .slice none 0 0] 65)) rA [.bool false, .slice none 0 0]) := FA.out.later hst FA.out.lt); replace hbV : Below X.heap.size X (V.alloc (.cells #[.bool false, .slice none 0 0] 65)) := below_alloc hbV (Nat.le_refl _); clear hst; refine hK.out _ _ (by (try dsimp only); exact KS.out _ hbV) (fun hHeld => ?_); clear hK K hHeld; (try simp only [Act.put, List.setIfInBounds_toArray, List.set_cons_zero, List.set_cons_succ]); rw [← hrB] at FB ⊢; clear hrB; generalize V.alloc (.cells #[.bool false, .slice none 0 0] 65) = V at *; have hHeld : V.cell? ⟨rb, 0, none⟩ = some (.bool n) ∧ V.cell? ⟨rb, 1, none⟩ = some (.slice ao l c) := KS.out _ hbV); rotate_left))
    all_goals (have bf := FA.out.2; have b0 := FA.out.1 0 _ rfl; have b1 := FA.out.1 1 _ rfl; go_simp; clear hHeld bf b0 b1; replace H8 : Hid (IntAt ((V.setCell ⟨rA, 0, none⟩ (.bool n7)).setCell ⟨rA, 1, none⟩ (.slice o7 l7 c7)) n8 o8 l8 c8 (v % (pn : Int))) := ⟨H8.out.sg, FA.out.row (by simp [NoWord]) (ws := [.bool n7, .slice o7 l7 c7]) rfl H8.out.row⟩; (try replace FB : Hid (Bx ((V.setCell ⟨rA, 0, none⟩ (.bool n7)).setCell ⟨rA, 1, none⟩ (.slice o7 l7 c7)) rB [.bool false, .slice none 0 0]) := FB.out.off (ws := [.bool n7, .slice o7 l7 c7]) (by first | assumption | exact Ne.symm (by assumption) | omega) 0); have BA : Hid (Bx ((V.setCell ⟨rA, 0, none⟩ (.bool n7)).setCell ⟨rA, 1, none⟩ (.slice o7 l7 c7)) rA [.bool n7, .slice o7 l7 c7]) := FA.out.put (ws := [.bool n7, .slice o7 l7 c7]) rfl; clear FA; replace hbV : Below X.heap.size X ((V.setCell ⟨rA, 0, none⟩ (.bool n7)).setCell ⟨rA, 1, none⟩ (.slice o7 l7 c7)) := putl_below hzA [.bool n7, .slice o7 l7 c7] 0 _ hbV; refine hK.out _ _ (by (try dsimp only); exact KS.out _ hbV) (fun hHeld => ?_); clear hK K hHeld; (try simp only [Act.put, List.setIfInBounds_toArray, List.set_cons_zero, List.set_cons_succ]); generalize ((V.setCell ⟨rA, 0, none⟩ (.bool n7)).setCell ⟨rA, 1, none⟩ (.slice o7 l7 c7)) = V at *; have hHeld : V.cell? ⟨rb, 0, none⟩ = some (.bool n) ∧ V.cell? ⟨rb, 1, none⟩ = some (.slice ao l c) := KS.out _ hbV)
    all_goals repeat' (first
      | (have _g := FB; clear _g; refine wpAnyH_ready (rs := [11]) (by kernel_rfl) (by simp) ?_; refine (AllReadyH.cons (o := Oper.mk none _ _ _ _ _) rfl (fun K hK => ?_) AllReadyH.nil))
      | ((fail_if_success (have _g := FB)); refine wpAnyH_ready (rs := [9]) (by kernel_rfl) (by simp) ?_; refine (AllReadyH.cons (o := Oper.mk (some 6) _ _ _ _ _) rfl (fun K hK => ?_) AllReadyH.nil); (go_simp; clear hHeld; have hst : Below V.heap.size V (V.alloc (.cells #[.bool false, .slice none 0 0] 65)) := (Below.refl _ _).alloc (Nat.le_refl _) _; have FB : Hid (Bx (V.alloc (.cells #[.bool false, .slice none 0 0] 65)) V.heap.size [.bool false, .slice none 0 0]) := Bx.new _ _ _; obtain ⟨rB, hrB⟩ : ∃ r, r = V.heap.size := ⟨_, rfl⟩; have hzB : X.heap.size ≤ rB := (by rw [hrB]; exact hbV.size); have hBBA : rB ≠ rA := (by have q := BA.out.lt; omega); replace H8 : Hid (IntAt (V.alloc (.cells #[.bool false, .slice none 0 0] 65)) n8 o8 l8 c8 (v % (pn : Int))) := H8.out.later hst; replace BA : Hid (Bx (V.alloc (.cells #[.bool false, .slice none 0 0] 65)) rA [.bool n7, .slice o7 l7 c7]) := BA.out.later hst BA.out.lt; replace hbV : Below X.heap.size X (V.alloc (.cells #[.bool false, .slice none 0 0] 65)) := below_alloc hbV (Nat.le_refl _); clear hst; refine hK.out _ _ (by (try dsimp only); exact KS.out _ hbV) (fun hHeld => ?_); clear hK K hHeld; (try simp only [Act.put, List.setIfInBounds_toArray, List.set_cons_zero, List.set_cons_succ]); rw [← hrB] at FB ⊢; clear hrB; generalize V.alloc (.cells #[.bool false, .slice none 0 0] 65) = V at *; have hHeld : V.cell? ⟨rb, 0, none⟩ = some (.bool n) ∧ V.cell? ⟨rb, 1, none⟩ = some (.slice ao l c) := KS.out _ hbV)))
    all_goals (have bf := FB.out.2; have b0 := FB.out.1 0 _ rfl; have b1 := FB.out.1 1 _ rfl; go_simp; clear hHeld bf b0 b1; replace H8 : Hid (IntAt ((V.setCell ⟨rB, 0, none⟩ (.bool n8)).setCell ⟨rB, 1, none⟩ (.slice o8 l8 c8)) n8 o8 l8 c8 (v % (pn : Int))) := ⟨H8.out.sg, FB.out.row (by simp [NoWord]) (ws := [.bool n8, .slice o8 l8 c8]) rfl H8.out.row⟩; replace BA : Hid (Bx ((V.setCell ⟨rB, 0, none⟩ (.bool n8)).setCell ⟨rB, 1, none⟩ (.slice o8 l8 c8)) rA [.bool n7, .slice o7 l7 c7]) := BA.out.off (ws := [.bool n8, .slice o8 l8 c8]) (by first | assumption | exact Ne.symm (by assumption) | omega) 0; have BB : Hid (Bx ((V.setCell ⟨rB, 0, none⟩ (.bool n8)).setCell ⟨rB, 1, none⟩ (.slice o8 l8 c8)) rB [.bool n8, .slice o8 l8 c8]) := FB.out.put (ws := [.bool n8, .slice o8 l8 c8]) rfl; clear FB; replace hbV : Below X.heap.size X ((V.setCell ⟨rB, 0, none⟩ (.bool n8)).setCell ⟨rB, 1, none⟩ (.slice o8 l8 c8)) := putl_below hzB [.bool n8, .slice o8 l8 c8] 0 _ hbV; refine hK.out _ _ (by (try dsimp only); exact KS.out _ hbV) (fun hHeld => ?_); clear hK K hHeld; (try simp only [Act.put, List.setIfInBounds_toArray, List.set_cons_zero, List.set_cons_succ]); generalize ((V.setCell ⟨rB, 0, none⟩ (.bool n8)).setCell ⟨rB, 1, none⟩ (.slice o8 l8 c8)) = V at *; have hHeld : V.cell? ⟨rb, 0, none⟩ = some (.bool n) ∧ V.cell? ⟨rb, 1, none⟩ = some (.slice ao l c) := KS.out _ hbV)
    all_goals (refine wpAnyH_done (by decide +kernel) ?_ _; refine NoPanic.normal ?_)
    all_goals (go_wp2; go_meet; exact ⟨_, _, _, _, _, _, rfl, rfl, BB.out, H8.out, hbV⟩)
  case rest => as_aux_lemma =>
    obtain ⟨r5, r6, n8, o8, l8, c8, rfl, rfl, hx8, h8, hbX⟩ := hcut
    have b0 := hx8.1 0 _ rfl
    have b1 := hx8.1 1 _ rfl
    have HB : Hid (Below w.heap.size w wc) := bnextM (B := 0) HX.out.1 hbX
    have hm := mod_in HI.out.2.1 v
    rw [HI.out.2.2.1] at h8 hm
    have hlen := h8.row.hlen
    by_cases h0 : l8 = 0
    · have HR : Hid (0 = r) := by
        show _ = _
        have h3 := mag_len_pos (n := r.natAbs)
        have : ¬ 0 < r.natAbs := fun h => by have := h3.2 h; omega
        omega
      subst h0
      clear h8 hm hlen hx8 hbX KS
      go_wp2
      go_ret
      exact ⟨ret_int HR.out, HB.out⟩
    · have hr0 : 0 < r.natAbs := by
        refine mag_len_pos.1 ?_
        omega
      have hone := mag_one hr0 (by have := HI.out.2.2.2; omega)
      obtain ⟨b, off, rfl, _, hc⟩ := h8.row.get (by omega)
      have hcell := hc 0 (by omega)
      rw [hone] at hcell hlen
      have hrr : ((r.natAbs : Nat) : Int) = r := by omega
      have hd : dig [((r.natAbs : Nat) : Int)] 0 = r := by rw [hrr]; rfl
      rw [hd, Nat.add_zero] at hcell
      have e1 : ((l8 : Int) == 0) = false := by simp; omega
      have hl1 : l8 = 1 := by simpa using hlen
      subst hl1
      clear h8 hm hlen hx8 hbX KS hc hone hd hrr hr0 h0
      go_wp2
      go_ret
      exact ⟨rfl, HB.out⟩
/-- the coefficients modulo p -/
def ofM (p : Int) (a : List Int) : List Int := a.map (· % p)
theorem ofM_len (p : Int) (a : List Int) : (ofM p a).length = a.length := by simp [ofM]
theorem ofM_dig (p : Int) (a : List Int) (t : Nat) (h : t < a.length) : dig (ofM p a) t = dig a t % p := mapF_dig _ a t h
theorem ofM_wd {p : Int} (hp : 0 < p) (a : List Int) : Wd p (ofM p a) := fun z hz => by
  obtain ⟨y, _, rfl⟩ := List.mem_map.1 hz
  exact mod_in hp _
set_option maxRecDepth 100000 in
set_option maxHeartbeats 2000000 in
theorem rofF_any (pn : Nat) (ao : Option Addr) (la ca : Nat) (a : List Int) (w : World) (hp : 2 ≤ pn ∧ pn ≤ 2147483648) (ha : PolyAt w ao la ca a) (hla : la ≤ 1025) (hlim : Lim 1000 a) :
    Calls Tryd.prog 15 #[.slice ao la ca, .int .u64 (pn : Int)] w fun e w' => PageF (pn : Int) w w' e fun zs => TrimOf zs (ofM (pn : Int) a) := by
  have HA : Hid (PolyAt w ao la ca a ∧ la = a.length ∧ Lim 1000 a ∧ (2 ≤ pn ∧ pn ≤ 2147483648) ∧ 0 < (pn : Int)) := ⟨ha, ha.hlen, hlim, hp, by omega⟩
  obtain ⟨i0, hi, hz0, hz1', hz2⟩ := info_parts info64
  clear ha hlim hp
  go_enter Tryd.func15, Tryd.ntmps15
  go_wp2
  go_loopw [5, 6] (fun v i wr => ∃ (k : Nat) (u : Value), v = u ∧ k ≤ la ∧ i = .int .i64 k ∧ Hid (wr.ownsRow w.heap.size 25 1 u k (((ofM (pn : Int) a).take k).map (Value.int .u64)) ∧ Below w.heap.size w wr)) (fun _ i _ => la - (intOf i).toNat)
  case atStart => exact ⟨0, _, rfl, Nat.zero_le _, rfl, World.ownsRow_nil _ _ _ _, Below.refl _ _⟩
  case round =>
    obtain ⟨k, u, hu, hk, rfl, HS⟩ := hrel
    replace hu := hu.symm
    subst hu
    by_cases hlt : k < la
    · obtain ⟨b, off, n1, ao1, l1, c1, rfl, f0, f1, hi1⟩ := (HA.out.1.later HS.out.2).at hlt
      obtain ⟨y, hy⟩ : ∃ y, dig a k % (pn : Int) = y := ⟨_, rfl⟩
      have HW : Hid (Calls Tryd.prog 44 #[.agg #[.bool n1, .slice ao1 l1 c1], .int .u64 (pn : Int)] wr fun e w' => e = .returned (.int .u64 y) ∧ Below wr.heap.size wr w') := rword_any pn (dig a k) y n1 ao1 l1 c1 wr HA.out.2.2.2.1 hi1 (by rw [hi1.lim]; exact HA.out.2.2.1 k) hy
      have h63 : Hid (k + 1 ≤ maxLen) := by show _ ≤ _; unfold maxLen; omega
      have hby : Hid ((k + 1) * 8 ≤ 140737488355328) := by show _ ≤ _; omega
      have HXX : Hid (((ofM (pn : Int) a).take (k + 1)).map (Value.int .u64) = ((ofM (pn : Int) a).take k).map (Value.int .u64) ++ [.int .u64 y]) := by
        show _ = _
        have hkl : k < a.length := by rw [← HA.out.2.1]; exact hlt
        have a1 : (ofM (pn : Int) a).getD k 0 = y := by
          have : dig (ofM (pn : Int) a) k = y := by rw [ofM_dig _ _ _ hkl, hy]
          exact this
        rw [take_getD (by rw [ofM_len]; exact hkl), List.map_append, a1]; rfl
      have z1 : (k : Int) < (la : Int) := by omega
      have z2 : (0 : Int) ≤ (k : Int) := by omega
      clear hi1 hy
      go_wp2_with (first
        | (go_at_call 44; refine HW.out.mono ?_; rintro e w4 ⟨rfl, hb4⟩; have HB4 : Hid (w4.ownsRow w.heap.size 25 1 u k (((ofM (pn : Int) a).take k).map (Value.int .u64)) ∧ Below w.heap.size w w4) := ⟨ownsRow_belowM HS.out.1 hb4, bnextM (B := 0) HS.out.2 hb4⟩; have hbz : Hid (w.heap.size ≤ w4.heap.size + 1) := (by have := HB4.out.2.size; show _ ≤ _; omega); clear hb4)
        | (at_builtin; refine wpList_append_lies _ rfl _ _ 24 rfl w.heap.size 25 i0 (.int .u64 0) 1 8 Tryd.underlying24 hi hz0 hz1' hz2 rfl (by decide) _ k _ rfl (HB4.out.1.alloc _) ⟨w4.heap.size, 0, none⟩ 1 1 [.int .u64 y] rfl rfl (World.news_of_block (cs := #[.int .u64 y]) (t := 25) (fr := (0, 0)) (heap_alloc_new w4 _)) (by simp [Value.oneCell']) (by decide) h63.out hby.out (by simpa using hbz.out) (w4.heap.size + 1) (by simp) ?_; intro g cp w5 hown1 hgrow hat hltg; have HB5 : Hid (w5.ownsRow w.heap.size 25 1 (.slice (some ⟨g, 0, none⟩) (k + 1) cp) (k + 1) (((ofM (pn : Int) a).take (k + 1)).map (Value.int .u64)) ∧ Below w.heap.size w w5) := ⟨(by rw [HXX.out]; exact hown1), (HB4.out.2.alloc HB4.out.2.size _).grown hgrow (by simpa using hbz.out) (own_from HB4.out.1)⟩; clear hown1 hgrow hat hltg))
      go_roundw
      case rel => exact ⟨k + 1, _, rfl, by omega, by go_num, HB5.out⟩
      case measure => simp [intOf]; omega
    · obtain rfl : k = la := by omega
      have hown := HS.out.1
      have hlen : (ofM (pn : Int) a).length = k := by rw [ofM_len]; exact HA.out.2.1.symm
      have hkl : Hid ((ofM (pn : Int) a).take k = ofM (pn : Int) a) := List.take_of_length_le (by omega)
      rw [hkl.out] at hown
      obtain ⟨ao1, c1, hv, hrow⟩ := row_of_owns hlen hown
      subst hv
      have hcap := cap_of_owns hown
      have HE : Hid (RowAt wr .u64 ao1 k c1 (ofM (pn : Int) a) ∧ (ofM (pn : Int) a).length = k ∧ Below w.heap.size w wr) := ⟨hrow, hlen, HS.out.2⟩
      have HT := rtrim_any ao1 k c1 (ofM (pn : Int) a) wr hrow hcap
      have z1 : ¬ (k : Int) < (k : Int) := by omega
      clear hrow hown hlen HS
      go_wp2_with (go_at_call 40; refine HT.mono ?_; rintro e w4 ⟨⟨n, hn, rfl, hcan, hz⟩, hw4⟩; replace hw4 := hw4.symm; subst hw4; have HZ : Hid (n ≤ k ∧ Can ((ofM (pn : Int) a).take n) ∧ ∀ t, n ≤ t → dig (ofM (pn : Int) a) t = 0) := ⟨hn, hcan, hz⟩; clear hn hcan hz)
      go_ret
      have ht : TrimOf ((ofM (pn : Int) a).take n) (ofM (pn : Int) a) := ⟨n, by rw [HE.out.2.1]; exact HZ.out.1, rfl, HZ.out.2⟩
      exact ⟨_, _, _, (ofM (pn : Int) a).take n, rfl, ⟨HE.out.1.take HZ.out.1, (ofM_wd HA.out.2.2.2.2 a).take n, by have := HZ.out.1; omega⟩, ht, HE.out.2.2⟩
set_option maxRecDepth 100000 in
set_option maxHeartbeats 2000000 in
theorem mOf_any (p : Int) (ao : Option Addr) (la ca : Nat) (rs : List (Bool × List Int)) (a : List Int) (w : World) (hp : PrimeT p w) (hr : RawsAt w ao la ca rs) (hm : pmayB la rs = true) (ha : PolyAt w ao la ca a) (hla : la ≤ 1000) (hlim : Lim 1000 a) (hrl : ∀ t, (rv rs t).2.length ≤ 100000) :
    Calls Tryd.prog 25 #[.slice ao la ca, .int .u64 p] w fun e w' => ∃ o l c zs, e = .returned (.tuple #[.slice o l c, .int .i64 0]) ∧ Own w.heap.size w' .u64 25 o l c zs ∧ TrimOf zs (ofM p a) ∧ l ≤ 4194304 ∧ Below w.heap.size w w' := by
  have hp2 := hp.1.two
  have hp3 := hp.2.1
  have H1 := pcheck_is ao la ca rs w hr hla hrl 0 (by rw [hm]; rfl)
  have H2 : Hid (∀ W, Below w.heap.size w W → Calls Tryd.prog 48 #[.int .u64 p] W fun e w' => e = .returned (.bool true) ∧ Below W.heap.size W w') := fun W hb => isPrime_any p W hp.1 hp.2.1 (mtab_later hp.2.2 hb)
  have HA : Hid (PolyAt w ao la ca a ∧ la = a.length ∧ Lim 1000 a ∧ (2 ≤ p ∧ p ≤ 2147483648) ∧ 0 < p) := ⟨ha, ha.hlen, hlim, ⟨hp2, by omega⟩, by omega⟩
  obtain ⟨i0, hi, hz0, hz1, hz2⟩ := info_parts info64
  have b1 : Hid (i0.bytes * la ≤ 281474976710656) := by show _ ≤ _; rw [hz2]; omega
  have b2 : Hid (la ≤ maxLen) := by show _ ≤ _; unfold maxLen; omega
  clear hp hr hm ha hlim hrl hp2 hp3
  go_enter Tryd.func25, Tryd.ntmps25
  go_wp2_with (first
    | (go_at_call 56; refine H1.mono ?_; rintro e w1 ⟨rfl, hb1⟩; have HB1 : Hid (Below w.heap.size w w1) := hb1; clear hb1)
    | (go_at_call 48; refine (H2.out _ HB1.out).mono ?_; rintro e w2 ⟨rfl, hb2⟩; have HB2 : Hid (Below w.heap.size w w2) := bnextM (B := 0) HB1.out hb2; clear hb2)
    | (at_make; refine wpList_make_full _ rfl (.tmp 18) (.tmp 18) 24 rfl w2.heap.size 25 i0 (.int .u64 0) 1 Tryd.underlying24 hi hz0 hz1 .i64 .i64 _ _ la rfl rfl rfl rfl b1.out b2.out (Nat.le_refl _) ?_; intro w3 hown1 hgrow1; have HM : Hid (Blk w3 w2.heap.size .u64 25 (List.replicate la 0) ∧ Below w2.heap.size w2 w3) := ⟨made_blk hown1, grown_below hgrow1⟩; clear hown1 hgrow1))
  obtain ⟨G, hG⟩ : ∃ G, G = w2.heap.size := ⟨_, rfl⟩
  rw [← hG] at HM ⊢
  have HG : Hid (G = w2.heap.size ∧ w.heap.size ≤ G) := ⟨hG, by rw [hG]; exact HB2.out.size⟩
  have HM2 : Hid (Blk w3 G .u64 25 (List.replicate la 0) ∧ Below w.heap.size w w3) := ⟨HM.out.1, bnextM (B := 0) HB2.out (by have := HM.out.2; rwa [hG] at this)⟩
  clear hG HM
  go_loopw [22] (fun i wr => ∃ (j : Nat) (M : List Int), i = .int .i64 (j : Int) ∧ j ≤ la ∧ Hid (Blk wr G .u64 25 M ∧ M.length = la ∧ (∀ t, t < j → dig M t = dig (ofM p a) t) ∧ Below w.heap.size w wr)) (fun i _ => la - (intOf i).toNat)
  case atStart => exact ⟨0, _, rfl, Nat.zero_le _, HM2.out.1, by simp, fun t h => absurd h (by omega), HM2.out.2⟩
  case round =>
    obtain ⟨j, M, rfl, hj, HS⟩ := hrel
    clear HM2
    by_cases hlt : j < la
    · obtain ⟨b, off, n1, ao1, l1, c1, rfl, f0, f1, hi1⟩ := (HA.out.1.later HS.out.2.2.2).at hlt
      obtain ⟨y, hy⟩ : ∃ y, dig a j % p = y := ⟨_, rfl⟩
      have HO : Hid (∀ W, Below wr.heap.size wr W → Calls Tryd.prog 57 #[.int .u64 p, .agg #[.bool n1, .slice ao1 l1 c1]] W fun e w' => e = .returned (.int .u64 y) ∧ Below W.heap.size W w') := fun W hb =>
        mof_any p (dig a j) y n1 ao1 l1 c1 W HA.out.2.2.2.1 (hi1.later hb) (by rw [hi1.lim]; have := HA.out.2.2.1 j; omega) hy
      have HR : Hid (dig (ofM p a) j = y ∧ j < M.length) := ⟨by rw [ofM_dig _ _ _ (by rw [← HA.out.2.1]; exact hlt), hy], by rw [HS.out.2.1]; exact hlt⟩
      have z1 : (j : Int) < (la : Int) := by omega
      have z2 : (0 : Int) ≤ (j : Int) := by omega
      have HAL : Hid (Below wr.heap.size wr (wr.alloc (.cells #[.bool n1, .slice ao1 l1 c1] 65))) := (Below.refl _ _).alloc (Nat.le_refl _) _
      clear hi1 hy
      go_wp2_with (go_at_call 57; refine (HO.out _ HAL.out).mono ?_; rintro e w4 ⟨rfl, hb4⟩; have HB : Hid (Blk w4 G .u64 25 M ∧ Below w.heap.size w w4) := ⟨HS.out.1.all (bnextM (B := 0) HAL.out hb4), bnextM (B := 0) HS.out.2.2.2 (bnextM (B := 0) HAL.out hb4)⟩; have r0 := HB.out.1.cell HR.out.2; have r1 := HB.out.1.frozen; clear hb4)
      go_roundw
      case rel => exact ⟨j + 1, M.set j y, by go_num, by omega, HB.out.1.set j y, by rw [List.length_set]; exact HS.out.2.1, fun t ht => by
        rw [dig_set _ HR.out.2]
        by_cases e : t = j
        · subst e; rw [if_pos rfl]; exact HR.out.1.symm
        · rw [if_neg e]; exact HS.out.2.2.1 t (by omega), HB.out.2.setCell (p := ⟨G, j, none⟩) HG.out.2 _⟩
      case measure => simp [intOf]; omega
    · have HL : Hid (M = ofM p a) := dig_ext (by rw [ofM_len, HS.out.2.1]; exact HA.out.2.1) fun t ht => HS.out.2.2.1 t (by rw [HS.out.2.1] at ht; omega)
      have HO : Hid (Own w.heap.size wr .u64 25 (some ⟨G, 0, none⟩) la la (ofM p a) ∧ (ofM p a).length = la ∧ Below w.heap.size w wr) := ⟨by have := Own.whole HS.out.1 HG.out.2 HS.out.2.1.symm; rwa [HL.out] at this, by rw [ofM_len]; exact HA.out.2.1.symm, HS.out.2.2.2⟩
      have HT := mtrimmed_any (some ⟨G, 0, none⟩) la la (ofM p a) wr HO.out.1.row (by omega)
      have z1 : ¬ (j : Int) < (la : Int) := by omega
      clear HS HL
      go_wp2_with (go_at_call 54; refine HT.mono ?_; rintro e w4 ⟨⟨n, hn, rfl, hcan, hz⟩, hw4⟩; replace hw4 := hw4.symm; subst hw4; have HZ : Hid (n ≤ la ∧ Can ((ofM p a).take n) ∧ ∀ t, n ≤ t → dig (ofM p a) t = 0) := ⟨hn, hcan, hz⟩; clear hn hcan hz)
      go_ret2
      exact ⟨_, _, _, (ofM p a).take n, rfl, HO.out.1.take HZ.out.1, ⟨n, by rw [HO.out.2.1]; exact HZ.out.1, rfl, HZ.out.2⟩, (by have := HZ.out.1; omega), HO.out.2.2⟩
set_option maxHeartbeats 1000000 in
theorem mOf_no (p : Int) (ao : Option Addr) (la ca : Nat) (rs : List (Bool × List Int)) (w : World) (hp : 0 ≤ p ∧ p < 18446744073709551616) (hT : TabAt 0 Lib.deBruijn64tab w) (hr : RawsAt w ao la ca rs) (hla : la ≤ 1000) (hrl : ∀ t, (rv rs t).2.length ≤ 100000) (h : ¬ (pmayB la rs = true ∧ IsPr p ∧ p < 2147483648)) :
    Calls Tryd.prog 25 #[.slice ao la ca, .int .u64 p] w fun e w' => e = .returned (.tuple #[.slice none 0 0, .int .i64 90]) ∧ Below w.heap.size w w' := by
  by_cases hm : pmayB la rs = true
  · have H1 := pcheck_is ao la ca rs w hr hla hrl 0 (by rw [hm]; rfl)
    have H2 : Hid (∀ W, Below w.heap.size w W → Calls Tryd.prog 48 #[.int .u64 p] W fun e w' => e = .returned (.bool false) ∧ Below W.heap.size W w') := fun W hb => isPrime_no p W hp (fun k => h ⟨hm, k⟩) (mtab_later hT hb)
    clear h hT hr hrl hp hm
    go_enter Tryd.func25, Tryd.ntmps25
    go_wp2_with (first
      | (go_at_call 56; refine H1.mono ?_; rintro e w1 ⟨rfl, hb1⟩)
      | (go_at_call 48; refine (H2.out _ hb1).mono ?_; rintro e w2 ⟨rfl, hb2⟩))
    go_ret2
    exact ⟨rfl, bnextM (B := 0) hb1 hb2⟩
  · have H1 := pcheck_is ao la ca rs w hr hla hrl 50 (by rw [if_neg hm])
    clear h hT hr hrl hp hm
    go_enter Tryd.func25, Tryd.ntmps25
    go_wp2_with (go_at_call 56; refine H1.mono ?_; rintro e w1 ⟨rfl, hb1⟩)
    go_ret2
    exact ⟨rfl, hb1⟩
end Go.Proofs.YtnniipekcbjloaaDoor
