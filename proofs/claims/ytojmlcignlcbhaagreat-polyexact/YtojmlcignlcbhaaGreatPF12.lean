/-
  A pack of walks and facts: UF, UG.
-/
import Derived.Test.YtojmlcignlcbhaaGreatPF11
set_option maxRecDepth 100000
set_option maxHeartbeats 40000000
set_option linter.unusedVariables false
set_option linter.unusedSimpArgs false
namespace Go.Proofs.YtojmlcignlcbhaaGreat
open Go.RowKit
theorem lim_small (a : Int) (h : 0 ≤ a ∧ a < 18446744073709551616) : lim a ≤ 1 := mag_len_one (by omega)
def derF (p : List Int) (t : Nat) : Int := dig p (t + 1) * ((t : Int) + 1)
theorem pder_any (ao : Option Addr) (la ca A : Nat) (p : List Int) (w : World) (hp : PolyAt w ao la ca p) (hla : la ≤ 1000) (hA : A ≤ 100000) (hlp : Lim A p) :
  Calls Tryz.prog 14 #[.slice ao la ca] w fun e w' => NewPolyB w w' e (trimL (tab (la - 1) (derF p))) := by
 have HR : Hid (PolyAt w ao la ca p ∧ Lim A p ∧ A ≤ 100000) := ⟨hp, hlp, hA⟩
 clear hp hlp hA
 obtain ⟨i0, hi, hz0, hz1, hz2⟩ := info_parts infoInt
 go_enter Tryz.func14, Tryz.ntmps14
 go_wp2
 go_loopw [3, 4] (fun v i wr => ∃ j m : Nat, m + 1 = j ∧ m ≤ la - 1 ∧ i = .int .i64 (j : Int) ∧ Below w.heap.size w wr ∧ LRow w.heap.size wr v (rsOf (tab m (derF p)))) (fun _ i _ => la + 1 - (intOf i).toNat)
 case atStart => exact ⟨1, 0, rfl, Nat.zero_le _, rfl, Below.refl _ _, LRow.nil _ _⟩
 case round =>
  obtain ⟨j, m, hjm, hm, rfl, hbel, hL⟩ := hrel
  have HJ : Hid (m + 1 = j) := hjm
  have hj1 : 1 ≤ j := by omega
  have hjl : j ≤ la - 1 + 1 := by omega
  have hjN : j ≤ 1001 := by omega
  clear hjm
  have HLR := hL
  obtain ⟨xs, hown, hx⟩ := hL
  rw [rsOf_len, tab_len] at hown
  obtain ⟨vo, vc, rfl, _⟩ := lrow_cells hown
  have HX : Hid (wr.ownsRow w.heap.size 28 2 (.slice vo m vc) m xs ∧ Elems w.heap.size wr xs (rsOf (tab m (derF p))) ∧ LRow w.heap.size wr (.slice vo m vc) (rsOf (tab m (derF p)))) := ⟨hown, hx, HLR⟩
  clear hown hx HLR
  by_cases hlt : j < la
  ·
   have h63 : Hid (m + 1 ≤ maxLen) := by show _ ≤ _; unfold maxLen; omega
   have hby : Hid ((m + 1) * 32 ≤ 140737488355328) := by show _ ≤ _; omega
   have HAT : Hid (∃ b off n1 ao1 l1 c1, ao = some ⟨b, off, none⟩ ∧ w.cell? ⟨b, off + j * 2, none⟩ = some (.bool n1) ∧ w.cell? ⟨b, off + j * 2 + 1, none⟩ = some (.slice ao1 l1 c1) ∧ IntAt w n1 ao1 l1 c1 (dig p j)) := HR.out.1.at hlt
   obtain ⟨b, off, n1, ao1, l1, c1, rfl, f0', f1', hi1⟩ := HAT.out
   have KS : Hid (∀ w', Below w.heap.size w w' → w'.cell? ⟨b, off + j * 2, none⟩ = some (.bool n1) ∧ w'.cell? ⟨b, off + j * 2 + 1, none⟩ = some (.slice ao1 l1 c1)) := fun w' hb => ⟨(hb.cell (p := ⟨b, off + j * 2, none⟩) (cell_lt f0')).trans f0', (hb.cell (p := ⟨b, off + j * 2 + 1, none⟩) (cell_lt f1')).trans f1'⟩
   have HI : Hid (IntAt wr n1 ao1 l1 c1 (dig p j)) := hi1.later hbel
   have hl1 : l1 ≤ 100000 := by rw [hi1.lim]; exact Nat.le_trans (HR.out.2.1 j) HR.out.2.2
   have z1 : (0 : Int) ≤ (j : Int) := by omega
   have z2 : (j : Int) < (la : Int) := by omega
   clear hi1 f0' f1' HAT
   go_wp2
   refine wp_region_noPanic ?_
   refine wp_region_held_drew (S := fun w' => (w'.cell? ⟨b, off + j * 2, none⟩ = some (.bool n1) ∧ w'.cell? ⟨b, off + j * 2 + 1, none⟩ = some (.slice ao1 l1 c1))) (by kernel_rfl) (by (try dsimp only); exact KS.out _ hbel.drew) (fun hHeld => ?_)
   refine wpAnyH_take (i := 0) (oi := Oper.mk (some 11) _ _ _ _ _) (v := ?_) rfl (by decide +kernel) (by decide +kernel) (by decide +kernel) (fun _ _ _ h => h) (Or.inl ⟨by rfl, ?_⟩) (by assumption) ?_
   rotate_left
   ·
    (intro w hSw; (try dsimp only at hSw); go_simp <;> (try with_reducible rfl))
   (try simp only [Act.put, List.setIfInBounds_toArray, List.set_cons_zero, List.set_cons_succ])
   refine wpAnyH_take (i := 1) (oi := Oper.mk (some 12) _ _ _ _ _) (v := ?_) rfl (by decide +kernel) (by decide +kernel) (by decide +kernel) (fun _ _ _ h => h) (Or.inl ⟨by rfl, ?_⟩) (by assumption) ?_
   rotate_left
   ·
    (intro w hSw; (try dsimp only at hSw); go_simp <;> (try with_reducible rfl))
   (try simp only [Act.put, List.setIfInBounds_toArray, List.set_cons_zero, List.set_cons_succ])
   refine wpAnyH_take (i := 2) (oi := Oper.mk (some 13) _ _ _ _ _) (v := ?_) rfl (by decide +kernel) (by decide +kernel) (by decide +kernel) (fun _ _ _ h => h) (Or.inl ⟨by rfl, ?_⟩) (by assumption) ?_
   rotate_left
   ·
    (intro w hSw; (try dsimp only at hSw); go_simp <;> (try with_reducible rfl))
   (try simp only [Act.put, List.setIfInBounds_toArray, List.set_cons_zero, List.set_cons_succ])
   refine wpAnyH_take (i := 3) (oi := Oper.mk (some 14) _ _ _ _ _) (v := ?_) rfl (by decide +kernel) (by decide +kernel) (by decide +kernel) (fun _ _ _ h => h) (Or.inl ⟨by rfl, ?_⟩) (by assumption) ?_
   rotate_left
   ·
    (intro w hSw; (try dsimp only at hSw); go_simp <;> (try with_reducible rfl))
   (try simp only [Act.put, List.setIfInBounds_toArray, List.set_cons_zero, List.set_cons_succ])
   refine wpAnyH_take (i := 4) (oi := Oper.mk (some 15) _ _ _ _ _) (v := ?_) rfl (by decide +kernel) (by decide +kernel) (by decide +kernel) (fun _ _ _ h => h) (Or.inl ⟨by rfl, ?_⟩) (by assumption) ?_
   rotate_left
   ·
    (intro w hSw; (try dsimp only at hSw); go_simp <;> (try with_reducible rfl))
   (try simp only [Act.put, List.setIfInBounds_toArray, List.set_cons_zero, List.set_cons_succ])
   refine wpAnyH_take (i := 5) (oi := Oper.mk (some 16) _ _ _ _ _) (v := ?_) rfl (by decide +kernel) (by decide +kernel) (by decide +kernel) (fun _ _ _ h => h) (Or.inl ⟨by rfl, ?_⟩) (by assumption) ?_
   rotate_left
   ·
    (intro w hSw; (try dsimp only at hSw); go_simp <;> (try with_reducible rfl))
   (try simp only [Act.put, List.setIfInBounds_toArray, List.set_cons_zero, List.set_cons_succ])
   refine wpAnyH_ready (rs := [6]) (by decide +kernel) (by simp) ?_
   refine AllReadyH.cons (o := Oper.mk (some 17) _ _ _ _ _) rfl (fun K hK => ?_) AllReadyH.nil
   go_simp
   (go_at_call 44; refine (rfrom_any (j : Int) _ (by omega) (by omega)).mono ?_; rintro e w2 ⟨n2, ao2, l2, c2, rfl, hs2, ho2, hb2'⟩; have hb2 : Below wr.heap.size wr w2 := bnext (Below.refl _ _).drew hb2'; have H2 : Hid (IntAt w2 n2 ao2 l2 c2 (j : Int) ∧ IntAt w2 n1 ao1 l1 c1 (dig p j)) := ⟨ho2.int hs2, HI.out.later hb2⟩; have hl2 : l2 ≤ 100000 := (by rw [(ho2.int hs2).lim]; exact Nat.le_trans (lim_small _ (by omega)) (by decide)); clear hs2 ho2 hb2')
   (try go_wp2_with fail)
   clear hHeld
   refine hK.out _ _ (by (try dsimp only); exact KS.out _ (bnext hbel hb2)) (fun hHeld => ?_)
   clear hK K
   (try simp only [Act.put, List.setIfInBounds_toArray, List.set_cons_zero, List.set_cons_succ])
   refine wpAnyH_ready (rs := [7]) (by decide +kernel) (by simp) ?_
   refine AllReadyH.cons (o := Oper.mk (some 18) _ _ _ _ _) rfl (fun K hK => ?_) AllReadyH.nil
   go_simp
   (go_at_call 42; refine (rtimes_any n1 n2 ao1 ao2 l1 c1 l2 c2 (dig p j) (j : Int) _ H2.out.2 H2.out.1 (by omega) (by omega)).mono ?_; rintro e w3 ⟨n3, ao3, l3, c3, rfl, hs3, ho3, hb3'⟩; have hb3 : Below wr.heap.size wr w3 := bnext hb2 hb3'; have H3 : Hid (n3 = sgB (dig p j * (j : Int)) ∧ Own w.heap.size w3 .u64 74 ao3 l3 c3 (mag (dig p j * (j : Int)).natAbs)) := ⟨hs3, ho3.mono (Nat.le_trans hbel.size hb2.size)⟩; have hA3 : Below wr.heap.size wr (w3.alloc (.cells #[.bool n3, .slice ao3 l3 c3] 28)) := bnext hb3 ((Below.refl _ _).alloc (Nat.le_refl _) _); clear hs3 ho3 hb3')
   (try go_wp2_with fail)
   clear hHeld
   refine hK.out _ _ (by (try dsimp only); exact KS.out _ (bnext hbel hb3)) (fun hHeld => ?_)
   clear hK K
   (try simp only [Act.put, List.setIfInBounds_toArray, List.set_cons_zero, List.set_cons_succ])
   refine wpAnyH_ready (rs := [8]) (by decide +kernel) (by simp) ?_
   refine AllReadyH.cons (o := Oper.mk (some 19) _ _ _ _ _) rfl (fun K hK => ?_) AllReadyH.nil
   go_simp
   clear hHeld
   refine hK.out _ _ (by (try dsimp only); exact KS.out _ (bnext hbel hA3)) (fun hHeld => ?_)
   clear hK K
   (try simp only [Act.put, List.setIfInBounds_toArray, List.set_cons_zero, List.set_cons_succ])
   refine wpAnyH_ready (rs := [9]) (by decide +kernel) (by simp) ?_
   refine AllReadyH.cons (o := Oper.mk (some 20) _ _ _ _ _) rfl (fun K hK => ?_) AllReadyH.nil
   (refine wp_append_own _ _ _ 24 rfl w.heap.size 28 i0 (.agg #[.bool false, .slice none 0 0]) 2 32 Tryz.underlying24 hi hz0 hz1 hz2 rfl (by decide) _ _ _ rfl (owns_later2 HX.out.1 hA3) ⟨w3.heap.size, 0, none⟩ 1 1 [.bool n3, .slice ao3 l3 c3] rfl rfl (World.news_of_block (cs := #[.bool n3, .slice ao3 l3 c3]) (t := 28) (fr := (0, 0)) (heap_alloc_new w3 _)) (by simp [Value.oneCell']) h63.out hby.out (Nat.le_trans hbel.size hA3.size) ?_; intro v4 w4 hown4 hgrow hnil; have hb4 : Below w.heap.size w w4 := grown_owns2 (bnext hbel hA3) (Nat.le_trans hbel.size hA3.size) (owns_later2 HX.out.1 hA3) hgrow)
   clear hHeld
   refine hK.out _ _ (by (try dsimp only); exact KS.out _ hb4) (fun hHeld => ?_)
   clear hK K
   (try simp only [Act.put, List.setIfInBounds_toArray, List.set_cons_zero, List.set_cons_succ])
   refine wpAnyH_take (i := 10) (oi := Oper.mk (some 3) _ _ _ _ _) (v := ?_) rfl (by decide +kernel) (by decide +kernel) (by decide +kernel) (fun _ _ _ h => h) (Or.inl ⟨by rfl, ?_⟩) (by assumption) ?_
   rotate_left
   ·
    (intro w hSw; (try dsimp only at hSw); go_simp <;> (try with_reducible rfl))
   (try simp only [Act.put, List.setIfInBounds_toArray, List.set_cons_zero, List.set_cons_succ])
   refine wpAnyH_done (by decide +kernel) ?_ _
   refine NoPanic.normal ?_
   go_wp2
   go_roundw
   case rel =>
    refine ⟨j + 1, m + 1, by have := HJ.out; omega, by have := HJ.out; omega, by go_num, hb4, ?_⟩
    have e : dig p j * (j : Int) = derF p m := by unfold derF; rw [← HJ.out]; rfl
    rw [rsOf_tab, ← e, ← H3.out.1]
    exact lrow_push (by rw [rsOf_len, tab_len]) (owns_later2 HX.out.1 hA3) (HX.out.2.1.later hA3) (own_alloc H3.out.2) hown4 hgrow
   case measure => simp [intOf]; omega
  ·
   have HM : Hid (m = la - 1) := by show m = _; have := HJ.out; omega
   have hj2 : ¬ (j : Int) < (la : Int) := by omega
   go_wp2_with (go_at_call 41; refine (ptrim_any vo m vc _ _ HX.out.2.2.polyAt (by omega)).mono ?_; rintro e w1 ⟨m', hm', rfl, hp1, hb1⟩; clear hm')
   go_ret
   exact ⟨_, _, _, rfl, by rw [HM.out] at hp1; exact hp1, owns_base HX.out.1, bnext hbel hb1⟩
def cmpD (p s : List Int) : Nat → Int
 | 0 => 0
 | n + 1 => if cmpI (dig p n) (dig s n) = 0 then cmpD p s n else cmpI (dig p n) (dig s n)
def cmpP (p s : List Int) : Int := if p.length = s.length then cmpD p s p.length else if p.length < s.length then -1 else 1
theorem pcmp_any (ao bo : Option Addr) (la ca lb cb A : Nat) (p s : List Int) (v : Int) (w : World) (hp : PolyAt w ao la ca p) (hs : PolyAt w bo lb cb s) (hla : la ≤ 1000) (hlb : lb ≤ 1000) (hA : A ≤ 100000) (hlp : Lim A p) (hls : Lim A s) (hv : cmpP p s = v) :
  Calls Tryz.prog 12 #[.slice ao la ca, .slice bo lb cb] w fun e w' => e = .returned (.int .i64 v) ∧ Below w.heap.size w w' := by
 have h1 := hp.hlen
 have h2 := hs.hlen
 unfold cmpP at hv
 rw [← h1, ← h2] at hv
 by_cases he : la = lb
 ·
  subst he
  rw [if_pos rfl] at hv
  have HR : Hid (PolyAt w ao la ca p ∧ PolyAt w bo la cb s ∧ Lim A p ∧ Lim A s ∧ A ≤ 100000) := ⟨hp, hs, hlp, hls, hA⟩
  have HV : Hid (v = cmpD p s la) := hv.symm
  clear hp hs hlp hls hA h1 h2 hv
  go_enter Tryz.func12, Tryz.ntmps12
  go_wp2
  go_loopw [5] (fun i wr => ∃ k : Nat, k ≤ la ∧ i = .int .i64 ((k : Int) - 1) ∧ Below w.heap.size w wr ∧ cmpD p s k = cmpD p s la) (fun i _ => (intOf i + 1).toNat)
  case atStart => exact ⟨la, Nat.le_refl _, rfl, Below.refl _ _, rfl⟩
  case round =>
   obtain ⟨k, hk, rfl, hbel, hst⟩ := hrel
   have HS : Hid (cmpD p s k = cmpD p s la) := hst
   clear hst
   by_cases hk0 : k = 0
   ·
    subst hk0
    go_wp2
    go_ret
    exact ⟨by rw [HV.out, ← HS.out]; rfl, hbel⟩
   ·
    obtain ⟨j, rfl⟩ : ∃ j, k = j + 1 := ⟨k - 1, by omega⟩
    have hki : ((j + 1 : Nat) : Int) - 1 = (j : Int) := by omega
    rw [hki]
    have HAT := HR.out.1.at (show j < la by omega)
    have HBT := HR.out.2.1.at (show j < la by omega)
    obtain ⟨b, off, n1, ao1, l1, c1, rfl, f0', f1', hi1⟩ := HAT
    obtain ⟨b', off', n2, ao2, l2, c2, rfl, g0', g1', hi2⟩ := HBT
    have KS : Hid (∀ w', Below w.heap.size w w' → w'.cell? ⟨b, off + j * 2, none⟩ = some (.bool n1) ∧ w'.cell? ⟨b, off + j * 2 + 1, none⟩ = some (.slice ao1 l1 c1) ∧ w'.cell? ⟨b', off' + j * 2, none⟩ = some (.bool n2) ∧ w'.cell? ⟨b', off' + j * 2 + 1, none⟩ = some (.slice ao2 l2 c2)) := fun w' hb => ⟨(hb.cell (p := ⟨b, off + j * 2, none⟩) (cell_lt f0')).trans f0', (hb.cell (p := ⟨b, off + j * 2 + 1, none⟩) (cell_lt f1')).trans f1', (hb.cell (p := ⟨b', off' + j * 2, none⟩) (cell_lt g0')).trans g0', (hb.cell (p := ⟨b', off' + j * 2 + 1, none⟩) (cell_lt g1')).trans g1'⟩
    have HI : Hid (IntAt wr n1 ao1 l1 c1 (dig p j) ∧ IntAt wr n2 ao2 l2 c2 (dig s j)) := ⟨hi1.later hbel, hi2.later hbel⟩
    have hl1 : l1 ≤ 100000 := by rw [hi1.lim]; exact Nat.le_trans (HR.out.2.2.1 j) HR.out.2.2.2.2
    have hl2 : l2 ≤ 100000 := by rw [hi2.lim]; exact Nat.le_trans (HR.out.2.2.2.1 j) HR.out.2.2.2.2
    have z0 : (0 : Int) ≤ (j : Int) := by omega
    have z1 : (j : Int) < (la : Int) := by omega
    obtain ⟨c, hc⟩ : ∃ c, cmpI (dig p j) (dig s j) = c := ⟨_, rfl⟩
    have HC : Hid (cmpI (dig p j) (dig s j) = c) := hc
    clear hi1 hi2 f0' f1' g0' g1' hk0 hki hc
    by_cases hc0 : c = 0
    ·
     subst hc0
     go_wp2
     refine wp_region_noPanic ?_
     refine wp_region_held_drew (S := fun w' => (w'.cell? ⟨b, off + j * 2, none⟩ = some (.bool n1) ∧ w'.cell? ⟨b, off + j * 2 + 1, none⟩ = some (.slice ao1 l1 c1) ∧ w'.cell? ⟨b', off' + j * 2, none⟩ = some (.bool n2) ∧ w'.cell? ⟨b', off' + j * 2 + 1, none⟩ = some (.slice ao2 l2 c2))) (by kernel_rfl) (by (try dsimp only); exact KS.out _ hbel.drew) (fun hHeld => ?_)
     refine wpAnyH_take (i := 0) (oi := Oper.mk (some 24) _ _ _ _ _) (v := ?_) rfl (by decide +kernel) (by decide +kernel) (by decide +kernel) (fun _ _ _ h => h) (Or.inl ⟨by rfl, ?_⟩) (by assumption) ?_
     rotate_left
     ·
      (intro w hSw; (try dsimp only at hSw); go_simp <;> (try with_reducible rfl))
     (try simp only [Act.put, List.setIfInBounds_toArray, List.set_cons_zero, List.set_cons_succ])
     refine wpAnyH_take (i := 1) (oi := Oper.mk (some 25) _ _ _ _ _) (v := ?_) rfl (by decide +kernel) (by decide +kernel) (by decide +kernel) (fun _ _ _ h => h) (Or.inl ⟨by rfl, ?_⟩) (by assumption) ?_
     rotate_left
     ·
      (intro w hSw; (try dsimp only at hSw); go_simp <;> (try with_reducible rfl))
     (try simp only [Act.put, List.setIfInBounds_toArray, List.set_cons_zero, List.set_cons_succ])
     refine wpAnyH_take (i := 2) (oi := Oper.mk (some 26) _ _ _ _ _) (v := ?_) rfl (by decide +kernel) (by decide +kernel) (by decide +kernel) (fun _ _ _ h => h) (Or.inl ⟨by rfl, ?_⟩) (by assumption) ?_
     rotate_left
     ·
      (intro w hSw; (try dsimp only at hSw); go_simp <;> (try with_reducible rfl))
     (try simp only [Act.put, List.setIfInBounds_toArray, List.set_cons_zero, List.set_cons_succ])
     refine wpAnyH_take (i := 3) (oi := Oper.mk (some 27) _ _ _ _ _) (v := ?_) rfl (by decide +kernel) (by decide +kernel) (by decide +kernel) (fun _ _ _ h => h) (Or.inl ⟨by rfl, ?_⟩) (by assumption) ?_
     rotate_left
     ·
      (intro w hSw; (try dsimp only at hSw); go_simp <;> (try with_reducible rfl))
     (try simp only [Act.put, List.setIfInBounds_toArray, List.set_cons_zero, List.set_cons_succ])
     refine wpAnyH_take (i := 4) (oi := Oper.mk (some 28) _ _ _ _ _) (v := ?_) rfl (by decide +kernel) (by decide +kernel) (by decide +kernel) (fun _ _ _ h => h) (Or.inl ⟨by rfl, ?_⟩) (by assumption) ?_
     rotate_left
     ·
      (intro w hSw; (try dsimp only at hSw); go_simp <;> (try with_reducible rfl))
     (try simp only [Act.put, List.setIfInBounds_toArray, List.set_cons_zero, List.set_cons_succ])
     refine wpAnyH_take (i := 5) (oi := Oper.mk (some 29) _ _ _ _ _) (v := ?_) rfl (by decide +kernel) (by decide +kernel) (by decide +kernel) (fun _ _ _ h => h) (Or.inl ⟨by rfl, ?_⟩) (by assumption) ?_
     rotate_left
     ·
      (intro w hSw; (try dsimp only at hSw); go_simp <;> (try with_reducible rfl))
     (try simp only [Act.put, List.setIfInBounds_toArray, List.set_cons_zero, List.set_cons_succ])
     refine wpAnyH_take (i := 6) (oi := Oper.mk (some 30) _ _ _ _ _) (v := ?_) rfl (by decide +kernel) (by decide +kernel) (by decide +kernel) (fun _ _ _ h => h) (Or.inl ⟨by rfl, ?_⟩) (by assumption) ?_
     rotate_left
     ·
      (intro w hSw; (try dsimp only at hSw); go_simp <;> (try with_reducible rfl))
     (try simp only [Act.put, List.setIfInBounds_toArray, List.set_cons_zero, List.set_cons_succ])
     refine wpAnyH_take (i := 7) (oi := Oper.mk (some 31) _ _ _ _ _) (v := ?_) rfl (by decide +kernel) (by decide +kernel) (by decide +kernel) (fun _ _ _ h => h) (Or.inl ⟨by rfl, ?_⟩) (by assumption) ?_
     rotate_left
     ·
      (intro w hSw; (try dsimp only at hSw); go_simp <;> (try with_reducible rfl))
     (try simp only [Act.put, List.setIfInBounds_toArray, List.set_cons_zero, List.set_cons_succ])
     refine wpAnyH_ready (rs := [8]) (by decide +kernel) (by simp) ?_
     refine AllReadyH.cons (o := Oper.mk (some 32) _ _ _ _ _) rfl (fun K hK => ?_) AllReadyH.nil
     go_simp
     (go_at_call 43; refine (rcmp_any n1 n2 ao1 ao2 l1 c1 l2 c2 (dig p j) (dig s j) _ (HI.out.1.later (Below.refl _ _).drew) (HI.out.2.later (Below.refl _ _).drew) (by omega) (by omega) 0 HC.out).mono ?_; rintro e w1 ⟨rfl, hb1'⟩; have hb1 : Below wr.heap.size wr w1 := bnext (Below.refl _ _).drew hb1'; clear hb1')
     (try go_wp2_with fail)
     clear hHeld
     refine hK.out _ _ (by (try dsimp only); exact KS.out _ (bnext hbel hb1)) (fun hHeld => ?_)
     clear hK K
     (try simp only [Act.put, List.setIfInBounds_toArray, List.set_cons_zero, List.set_cons_succ])
     refine wpAnyH_take (i := 9) (oi := Oper.mk (some 6) _ _ _ _ _) (v := ?_) rfl (by decide +kernel) (by decide +kernel) (by decide +kernel) (fun _ _ _ h => h) (Or.inl ⟨by rfl, ?_⟩) (by assumption) ?_
     rotate_left
     ·
      (intro w hSw; (try dsimp only at hSw); go_simp <;> (try with_reducible rfl))
     (try simp only [Act.put, List.setIfInBounds_toArray, List.set_cons_zero, List.set_cons_succ])
     refine wpAnyH_done (by decide +kernel) ?_ _
     refine NoPanic.normal ?_
     go_wp2
     go_roundw
     case rel => exact ⟨j, by omega, by go_num, bnext hbel hb1, by rw [← HS.out]; simp [cmpD, HC.out]⟩
     case measure => simp [intOf]
    ·
     have hc1 : (c != 0) = true := by simpa using hc0
     have HCV : Hid (c = v) := by show c = v; rw [HV.out, ← HS.out]; simp only [cmpD, HC.out, if_neg hc0]
     clear hc0
     go_wp2
     refine wp_region_noPanic ?_
     refine wp_region_held_drew (S := fun w' => (w'.cell? ⟨b, off + j * 2, none⟩ = some (.bool n1) ∧ w'.cell? ⟨b, off + j * 2 + 1, none⟩ = some (.slice ao1 l1 c1) ∧ w'.cell? ⟨b', off' + j * 2, none⟩ = some (.bool n2) ∧ w'.cell? ⟨b', off' + j * 2 + 1, none⟩ = some (.slice ao2 l2 c2))) (by kernel_rfl) (by (try dsimp only); exact KS.out _ hbel.drew) (fun hHeld => ?_)
     refine wpAnyH_take (i := 0) (oi := Oper.mk (some 24) _ _ _ _ _) (v := ?_) rfl (by decide +kernel) (by decide +kernel) (by decide +kernel) (fun _ _ _ h => h) (Or.inl ⟨by rfl, ?_⟩) (by assumption) ?_
     rotate_left
     ·
      (intro w hSw; (try dsimp only at hSw); go_simp <;> (try with_reducible rfl))
     (try simp only [Act.put, List.setIfInBounds_toArray, List.set_cons_zero, List.set_cons_succ])
     refine wpAnyH_take (i := 1) (oi := Oper.mk (some 25) _ _ _ _ _) (v := ?_) rfl (by decide +kernel) (by decide +kernel) (by decide +kernel) (fun _ _ _ h => h) (Or.inl ⟨by rfl, ?_⟩) (by assumption) ?_
     rotate_left
     ·
      (intro w hSw; (try dsimp only at hSw); go_simp <;> (try with_reducible rfl))
     (try simp only [Act.put, List.setIfInBounds_toArray, List.set_cons_zero, List.set_cons_succ])
     refine wpAnyH_take (i := 2) (oi := Oper.mk (some 26) _ _ _ _ _) (v := ?_) rfl (by decide +kernel) (by decide +kernel) (by decide +kernel) (fun _ _ _ h => h) (Or.inl ⟨by rfl, ?_⟩) (by assumption) ?_
     rotate_left
     ·
      (intro w hSw; (try dsimp only at hSw); go_simp <;> (try with_reducible rfl))
     (try simp only [Act.put, List.setIfInBounds_toArray, List.set_cons_zero, List.set_cons_succ])
     refine wpAnyH_take (i := 3) (oi := Oper.mk (some 27) _ _ _ _ _) (v := ?_) rfl (by decide +kernel) (by decide +kernel) (by decide +kernel) (fun _ _ _ h => h) (Or.inl ⟨by rfl, ?_⟩) (by assumption) ?_
     rotate_left
     ·
      (intro w hSw; (try dsimp only at hSw); go_simp <;> (try with_reducible rfl))
     (try simp only [Act.put, List.setIfInBounds_toArray, List.set_cons_zero, List.set_cons_succ])
     refine wpAnyH_take (i := 4) (oi := Oper.mk (some 28) _ _ _ _ _) (v := ?_) rfl (by decide +kernel) (by decide +kernel) (by decide +kernel) (fun _ _ _ h => h) (Or.inl ⟨by rfl, ?_⟩) (by assumption) ?_
     rotate_left
     ·
      (intro w hSw; (try dsimp only at hSw); go_simp <;> (try with_reducible rfl))
     (try simp only [Act.put, List.setIfInBounds_toArray, List.set_cons_zero, List.set_cons_succ])
     refine wpAnyH_take (i := 5) (oi := Oper.mk (some 29) _ _ _ _ _) (v := ?_) rfl (by decide +kernel) (by decide +kernel) (by decide +kernel) (fun _ _ _ h => h) (Or.inl ⟨by rfl, ?_⟩) (by assumption) ?_
     rotate_left
     ·
      (intro w hSw; (try dsimp only at hSw); go_simp <;> (try with_reducible rfl))
     (try simp only [Act.put, List.setIfInBounds_toArray, List.set_cons_zero, List.set_cons_succ])
     refine wpAnyH_take (i := 6) (oi := Oper.mk (some 30) _ _ _ _ _) (v := ?_) rfl (by decide +kernel) (by decide +kernel) (by decide +kernel) (fun _ _ _ h => h) (Or.inl ⟨by rfl, ?_⟩) (by assumption) ?_
     rotate_left
     ·
      (intro w hSw; (try dsimp only at hSw); go_simp <;> (try with_reducible rfl))
     (try simp only [Act.put, List.setIfInBounds_toArray, List.set_cons_zero, List.set_cons_succ])
     refine wpAnyH_take (i := 7) (oi := Oper.mk (some 31) _ _ _ _ _) (v := ?_) rfl (by decide +kernel) (by decide +kernel) (by decide +kernel) (fun _ _ _ h => h) (Or.inl ⟨by rfl, ?_⟩) (by assumption) ?_
     rotate_left
     ·
      (intro w hSw; (try dsimp only at hSw); go_simp <;> (try with_reducible rfl))
     (try simp only [Act.put, List.setIfInBounds_toArray, List.set_cons_zero, List.set_cons_succ])
     refine wpAnyH_ready (rs := [8]) (by decide +kernel) (by simp) ?_
     refine AllReadyH.cons (o := Oper.mk (some 32) _ _ _ _ _) rfl (fun K hK => ?_) AllReadyH.nil
     go_simp
     (go_at_call 43; refine (rcmp_any n1 n2 ao1 ao2 l1 c1 l2 c2 (dig p j) (dig s j) _ (HI.out.1.later (Below.refl _ _).drew) (HI.out.2.later (Below.refl _ _).drew) (by omega) (by omega) c HC.out).mono ?_; rintro e w1 ⟨rfl, hb1'⟩; have hb1 : Below wr.heap.size wr w1 := bnext (Below.refl _ _).drew hb1'; clear hb1')
     (try go_wp2_with fail)
     clear hHeld
     refine hK.out _ _ (by (try dsimp only); exact KS.out _ (bnext hbel hb1)) (fun hHeld => ?_)
     clear hK K
     (try simp only [Act.put, List.setIfInBounds_toArray, List.set_cons_zero, List.set_cons_succ])
     refine wpAnyH_take (i := 9) (oi := Oper.mk (some 6) _ _ _ _ _) (v := ?_) rfl (by decide +kernel) (by decide +kernel) (by decide +kernel) (fun _ _ _ h => h) (Or.inl ⟨by rfl, ?_⟩) (by assumption) ?_
     rotate_left
     ·
      (intro w hSw; (try dsimp only at hSw); go_simp <;> (try with_reducible rfl))
     (try simp only [Act.put, List.setIfInBounds_toArray, List.set_cons_zero, List.set_cons_succ])
     refine wpAnyH_done (by decide +kernel) ?_ _
     refine NoPanic.normal ?_
     go_wp2
     go_ret
     exact ⟨by have h : c = v := HCV.out; rw [← h]; rfl, bnext hbel hb1⟩
 ·
  rw [if_neg he] at hv
  have he1 : ((la : Int) == (lb : Int)) = false := by simp; omega
  by_cases hl : la < lb
  ·
   rw [if_pos hl] at hv
   subst hv
   have hl1 : (la : Int) < (lb : Int) := by omega
   clear hp hs hlp hls h1 h2 he hl
   go_enter Tryz.func12, Tryz.ntmps12
   go_wp2
   go_ret
   exact ⟨rfl, Below.refl _ _⟩
  ·
   rw [if_neg hl] at hv
   subst hv
   have hl1 : ¬ (la : Int) < (lb : Int) := by omega
   clear hp hs hlp hls h1 h2 he hl
   go_enter Tryz.func12, Tryz.ntmps12
   go_wp2
   go_ret
   exact ⟨rfl, Below.refl _ _⟩
theorem pdeg_any (ao : Option Addr) (la ca : Nat) (w : World) (hl : la ≤ 1000) :
  Calls Tryz.prog 15 #[.slice ao la ca] w fun e w' => e = .returned (.int .i64 ((la : Int) - 1)) ∧ Below w.heap.size w w' := by
 go_enter Tryz.func15, Tryz.ntmps15
 go_wp2
 go_ret
 exact ⟨by go_num, Below.refl _ _⟩
theorem plead_any (ao : Option Addr) (len cap : Nat) (p : List Int) (w : World) (hp : PolyAt w ao len cap p) (hl : len ≤ 1000) :
  Calls Tryz.prog 16 #[.slice ao len cap] w fun e w' => RefInt w w' e (dig p (len - 1)) := by
 have hbW : Below w.heap.size w (w.alloc (.cells #[.bool false, .slice none 0 0] 28)) := (Below.refl _ _).alloc (Nat.le_refl _) _
 by_cases h0 : len = 0
 ·
  subst h0
  have HZ : Hid (dig p (0 - 1) = 0) := dig_past (by rw [← hp.hlen]; omega)
  clear hp
  go_enter Tryz.func16, Tryz.ntmps16
  go_wp2_with (go_at_call 44; refine (rfrom_any 0 _ (by decide) (by decide)).mono ?_; rintro e w1 ⟨n1, ao1, l1, c1, rfl, hs, ho, hb1⟩; have HS : Hid (IntAt w1 n1 ao1 l1 c1 0) := ho.int hs; clear hs ho; have hf := (Fresh.new w).later hb1 (by simp); obtain ⟨g5, g3, g4⟩ := hf)
  exact bodyPost_ret (v := .agg #[.bool n1, .slice ao1 l1 c1]) (by simp [results, Tryz.results16, go_sem, g3, g4]) rfl
   ⟨_, _, _, _, rfl, ⟨by rw [HZ.out]; exact HS.out.sg, by rw [HZ.out]; exact HS.out.row.kept ⟨g5, g3, g4⟩ _ _⟩, below_store (bnext hbW hb1) (Nat.le_refl _) _ _⟩
 ·
  obtain ⟨k, rfl⟩ : ∃ k, len = k + 1 := ⟨len - 1, by omega⟩
  obtain ⟨b, off, n1, ao1, l1, c1, rfl, h0', h1', hi⟩ := hp.at (show k < k + 1 by omega)
  have h0 := (hbW.cell (p := ⟨b, off + k * 2, none⟩) (cell_lt h0')).trans h0'
  have h1 := (hbW.cell (p := ⟨b, off + k * 2 + 1, none⟩) (cell_lt h1')).trans h1'
  have hn : (((k + 1 : Nat) : Int) == 0) = false := by simp; omega
  have hki : ((k + 1 : Nat) : Int) - 1 = (k : Int) := by omega
  have hk1 : (k : Int) < ((k + 1 : Nat) : Int) := by omega
  have hk2 : (0 : Int) ≤ (k : Int) := by omega
  have HI : Hid (IntAt w n1 ao1 l1 c1 (dig p k)) := hi
  clear hp hi h0' h1'
  go_enter Tryz.func16, Tryz.ntmps16
  go_wp2
  exact bodyPost_ret (v := .agg #[.bool n1, .slice ao1 l1 c1]) (by simp [results, Tryz.results16, go_sem]) rfl
   ⟨_, _, _, _, rfl, HI.out.later ((Below.refl _ _).alloc (Nat.le_refl _) _), (Below.refl _ _).alloc (Nat.le_refl _) _⟩
theorem ptimes_nil (ao bo : Option Addr) (la ca lb cb : Nat) (w : World) (h : la = 0 ∨ lb = 0) :
  Calls Tryz.prog 11 #[.slice ao la ca, .slice bo lb cb] w fun e w' => NewPolyB w w' e [] := by
 rcases Nat.eq_zero_or_pos la with e | e
 ·
  subst e
  clear h
  go_enter Tryz.func11, Tryz.ntmps11
  go_wp2
  go_ret
  exact ⟨_, _, _, rfl, PolyAt.nilPoly _, fun a ha => (by cases ha), Below.refl _ _⟩
 ·
  obtain rfl : lb = 0 := by omega
  have hn : ((la : Int) == 0) = false := by simp; omega
  clear h e
  go_enter Tryz.func11, Tryz.ntmps11
  go_wp2
  go_ret
  exact ⟨_, _, _, rfl, PolyAt.nilPoly _, fun a ha => (by cases ha), Below.refl _ _⟩
end Go.Proofs.YtojmlcignlcbhaaGreat
namespace Go.Proofs.YtojmlcignlcbhaaGreat
open Go.RowKit
theorem plplus_any (na nb : Bool) (ao bo : Option Addr) (la ca lb cb : Nat) (a b : Int) (w : World) (hx : IntAt w na ao la ca a) (hy : IntAt w nb bo lb cb b) (hl : la ≤ 2147483648) (hl' : lb ≤ 2147483648) :
  Calls Tryz.prog 54 #[.agg #[.bool na, .slice ao la ca], .agg #[.bool nb, .slice bo lb cb]] w fun e w' => NewInt w w' e (a + b) := by
 obtain ⟨W, hT⟩ := Two3.mk' w na nb ao bo la ca lb cb
 have hsz := hT.size
 have hRx := hx.later hT.below
 have hRy := hy.later hT.below
 clear hx hy
 go_enter Tryz.func54, Tryz.ntmps54
 go_wp2_with (first
  | (go_at_call 80; rw [← hT.eq]; refine (add_any na nb ao bo la ca lb cb a b _ hRx hRy (by omega) (by omega)).mono ?_; rintro e w1 ⟨n1, ao1, l1, c1, rfl, hsg1, ho1, hb1⟩; have HS : Hid (n1 = sgB (a + b)) := hsg1; clear hsg1; have hs1 := hb1.size; have hbA : Below W.heap.size W (w1.alloc (.cells #[.bool n1, .slice ao1 l1 c1] 28)) := hb1.trans ((Below.refl _ _).alloc hs1 _); obtain ⟨g5, g3, g4⟩ := hT.r.later hbA (by omega)))
 exact bodyPost_ret (v := .agg #[.bool n1, .slice ao1 l1 c1]) (by simp [results, Tryz.results54, go_sem, g3, g4]) rfl
  ⟨_, _, _, _, rfl, HS.out, (((ho1.later ((Below.refl _ _).alloc (Nat.le_refl _) _)).store (by omega) _ _).mono (by omega)), below_store (bnext hT.below hbA) (by omega) _ _⟩
theorem plminus_any (na nb : Bool) (ao bo : Option Addr) (la ca lb cb : Nat) (a b : Int) (w : World) (hx : IntAt w na ao la ca a) (hy : IntAt w nb bo lb cb b) (hl : la ≤ 2147483648) (hl' : lb ≤ 2147483648) :
  Calls Tryz.prog 56 #[.agg #[.bool na, .slice ao la ca], .agg #[.bool nb, .slice bo lb cb]] w fun e w' => NewInt w w' e (a - b) := by
 obtain ⟨W, hT⟩ := Two3.mk' w na nb ao bo la ca lb cb
 have hsz := hT.size
 have hRx := hx.later hT.below
 have hRy := hy.later hT.below
 clear hx hy
 go_enter Tryz.func56, Tryz.ntmps56
 go_wp2_with (first
  | (go_at_call 82; rw [← hT.eq]; refine (sub_any na nb ao bo la ca lb cb a b _ hRx hRy (by omega) (by omega)).mono ?_; rintro e w1 ⟨n1, ao1, l1, c1, rfl, hsg1, ho1, hb1⟩; have HS : Hid (n1 = sgB (a - b)) := hsg1; clear hsg1; have hs1 := hb1.size; have hbA : Below W.heap.size W (w1.alloc (.cells #[.bool n1, .slice ao1 l1 c1] 28)) := hb1.trans ((Below.refl _ _).alloc hs1 _); obtain ⟨g5, g3, g4⟩ := hT.r.later hbA (by omega)))
 exact bodyPost_ret (v := .agg #[.bool n1, .slice ao1 l1 c1]) (by simp [results, Tryz.results56, go_sem, g3, g4]) rfl
  ⟨_, _, _, _, rfl, HS.out, (((ho1.later ((Below.refl _ _).alloc (Nat.le_refl _) _)).store (by omega) _ _).mono (by omega)), below_store (bnext hT.below hbA) (by omega) _ _⟩
theorem pltimes_any (na nb : Bool) (ao bo : Option Addr) (la ca lb cb : Nat) (a b : Int) (w : World) (hx : IntAt w na ao la ca a) (hy : IntAt w nb bo lb cb b) (hl : la ≤ 2147483648) (hl' : lb ≤ 2147483648) :
  Calls Tryz.prog 83 #[.agg #[.bool na, .slice ao la ca], .agg #[.bool nb, .slice bo lb cb]] w fun e w' => NewInt w w' e (a * b) := by
 obtain ⟨W, hT⟩ := Two3.mk' w na nb ao bo la ca lb cb
 have hsz := hT.size
 have hRx := hx.later hT.below
 have hRy := hy.later hT.below
 clear hx hy
 go_enter Tryz.func83, Tryz.ntmps83
 go_wp2_with (first
  | (go_at_call 95; rw [← hT.eq]; refine (bmul_any na nb ao bo la ca lb cb a b _ hRx hRy (by omega) (by omega)).mono ?_; rintro e w1 ⟨n1, ao1, l1, c1, rfl, hsg1, ho1, hb1⟩; have HS : Hid (n1 = sgB (a * b)) := hsg1; clear hsg1; have hs1 := hb1.size; have hbA : Below W.heap.size W (w1.alloc (.cells #[.bool n1, .slice ao1 l1 c1] 28)) := hb1.trans ((Below.refl _ _).alloc hs1 _); obtain ⟨g5, g3, g4⟩ := hT.r.later hbA (by omega)))
 exact bodyPost_ret (v := .agg #[.bool n1, .slice ao1 l1 c1]) (by simp [results, Tryz.results83, go_sem, g3, g4]) rfl
  ⟨_, _, _, _, rfl, HS.out, (((ho1.later ((Below.refl _ _).alloc (Nat.le_refl _) _)).store (by omega) _ _).mono (by omega)), below_store (bnext hT.below hbA) (by omega) _ _⟩
theorem plat_any (ao : Option Addr) (len cap k : Nat) (p : List Int) (w : World) (hp : PolyAt w ao len cap p) :
  Calls Tryz.prog 78 #[.slice ao len cap, .int .i64 (k : Int)] w fun e w' => RefInt w w' e (dig p k) := by
 have hbW : Below w.heap.size w (w.alloc (.cells #[.bool false, .slice none 0 0] 28)) := (Below.refl _ _).alloc (Nat.le_refl _) _
 by_cases hk : k < len
 ·
  obtain ⟨b, off, n1, ao1, l1, c1, rfl, h0', h1', hi⟩ := hp.at hk
  have h0 := (hbW.cell (p := ⟨b, off + k * 2, none⟩) (cell_lt h0')).trans h0'
  have h1 := (hbW.cell (p := ⟨b, off + k * 2 + 1, none⟩) (cell_lt h1')).trans h1'
  have hk1 : (k : Int) < (len : Int) := by omega
  have HI : Hid (IntAt w n1 ao1 l1 c1 (dig p k)) := hi
  clear hp hi hk h0' h1'
  go_enter Tryz.func78, Tryz.ntmps78
  go_wp2
  exact bodyPost_ret (v := .agg #[.bool n1, .slice ao1 l1 c1]) (by simp [results, Tryz.results78, go_sem]) rfl
   ⟨_, _, _, _, rfl, HI.out.later ((Below.refl _ _).alloc (Nat.le_refl _) _), (Below.refl _ _).alloc (Nat.le_refl _) _⟩
 ·
  have hk1 : ¬ (k : Int) < (len : Int) := by omega
  have HZ : Hid (dig p k = 0) := dig_past (by rw [← hp.hlen]; omega)
  clear hp hk
  go_enter Tryz.func78, Tryz.ntmps78
  go_wp2
  exact bodyPost_ret (v := .agg #[.bool false, .slice none 0 0]) (by simp [results, Tryz.results78, go_sem]) rfl
   ⟨_, _, _, _, rfl, (by rw [HZ.out]; exact ⟨rfl, RowAt.nilRow _ _⟩), (Below.refl _ _).alloc (Nat.le_refl _) _⟩
theorem room_any (n : Nat) (w : World) (hn : n ≤ 1048576) :
  Calls Tryz.prog 77 #[.int .i64 (n : Int)] w fun e w' => e = .returned (.slice (some ⟨w.heap.size, 0, none⟩) n n) ∧ (∀ B, PBlkO B w' w.heap.size (List.replicate n 0)) ∧ w.heap.size < w'.heap.size ∧ Below w.heap.size w w' := by
 obtain ⟨i0, hi, hz0, hz1, hz2⟩ := info_parts infoInt
 have b1 : Hid (i0.bytes * n ≤ 281474976710656) := by show _ ≤ _; rw [hz2]; omega
 have b2 : Hid (n ≤ maxLen) := by show _ ≤ _; unfold maxLen; omega
 go_enter Tryz.func77, Tryz.ntmps77
 go_wp2_with (at_make; refine wpList_make_full _ rfl (.tmp 3) (.tmp 3) 24 rfl w.heap.size 28 i0 (.agg #[.bool false, .slice none 0 0]) 2 Tryz.underlying24 hi hz0 hz1 .i64 .i64 _ _ n rfl rfl rfl rfl b1.out b2.out (Nat.le_refl _) ?_; intro w1 hown1 hgrow1)
 go_ret
 exact ⟨rfl, fun B => (pblkO_of_made hown1).1, (pblkO_of_made (C := 0) hown1).2, grown_below hgrow1⟩
theorem trimmed_any (ao : Option Addr) (len cap : Nat) (p : List Int) (w : World) (hp : PolyAt w ao len cap p) (hl : len ≤ 1048576) :
  Calls Tryz.prog 79 #[.slice ao len cap] w fun e w' => ∃ ao' m, m = trimN p p.length ∧ e = .returned (.slice ao' m m) ∧ (m = 0 → ao' = none) ∧ (0 < m → ao' = ao) ∧ Below w.heap.size w w' := by
 have HP : Hid (PolyAt w ao len cap p ∧ len = p.length) := ⟨hp, hp.hlen⟩
 have hcap := hp.hcap
 have hnil := hp.hnil
 clear hp
 go_enter Tryz.func79, Tryz.ntmps79
 go_wp2
 go_loopw [3] (fun i wr => ∃ k : Nat, k ≤ len ∧ i = .int .i64 (k : Int) ∧ Below w.heap.size w wr ∧ trimN p k = trimN p len) (fun i _ => (intOf i).toNat)
 case atStart => exact ⟨len, Nat.le_refl _, rfl, Below.refl _ _, rfl⟩
 case round =>
  obtain ⟨k, hk, rfl, hbel, htr⟩ := hrel
  have HT : Hid (trimN p k = trimN p len) := htr
  clear htr
  have y2 : (k : Int) ≤ (cap : Int) := by omega
  have y1 : (0 : Int) ≤ (k : Int) := by omega
  by_cases hk0 : k = 0
  ·
   subst hk0
   go_wp2
   go_ret
   exact ⟨none, 0, by rw [← HP.out.2, ← HT.out]; rfl, rfl, fun _ => rfl, fun h => absurd h (by omega), hbel⟩
  ·
   obtain ⟨i, rfl⟩ : ∃ i, k = i + 1 := ⟨k - 1, by omega⟩
   have hpI : (0 : Int) < ((i + 1 : Nat) : Int) := by omega
   have hpE : (((i + 1 : Nat) : Int) == 0) = false := by simp; omega
   have hidx : ((i + 1 : Nat) : Int) - 1 = (i : Int) := by omega
   have hil : (i : Int) < (len : Int) := by omega
   have hi0 : (0 : Int) ≤ (i : Int) := by omega
   obtain ⟨b, off, n1, ao1, l1, c1, rfl, e0, e1, hi1⟩ := (HP.out.1.later hbel).at (show i < len by omega)
   have HI : Hid (l1 = lim (dig p i)) := hi1.lim
   clear hi1 hk0
   by_cases hz : l1 = 0
   ·
    have hcon : ∀ W', Calls Tryz.prog 45 #[.agg #[.bool n1, .slice ao1 l1 c1]] W' fun e w' => e = .returned (.bool true) ∧ Below W'.heap.size W' w' := fun W' => isZero_any n1 ao1 l1 c1 W' true (by simp; omega)
    have HZ : Hid (dig p i = 0) := zero_of_lim (by rw [← HI.out]; exact hz)
    clear hz
    go_wp2_with (go_at_call 45; refine (hcon _).mono ?_; rintro e w1 ⟨rfl, hb1⟩)
    go_roundw
    case rel => exact ⟨i, by omega, by go_num, bnext hbel hb1, by rw [← HT.out, trimN_zero HZ.out]⟩
    case measure => simp [intOf]
   ·
    have hcon : ∀ W', Calls Tryz.prog 45 #[.agg #[.bool n1, .slice ao1 l1 c1]] W' fun e w' => e = .returned (.bool false) ∧ Below W'.heap.size W' w' := fun W' => isZero_any n1 ao1 l1 c1 W' false (by simp; omega)
    have HZ : Hid (dig p i ≠ 0) := fun e => hz (by rw [HI.out, e]; exact lim_zero)
    clear hz
    go_wp2_with (go_at_call 45; refine (hcon _).mono ?_; rintro e w1 ⟨rfl, hb1⟩)
    go_ret
    exact ⟨_, i + 1, by rw [← HP.out.2, ← HT.out, trimN_keep HZ.out], rfl, fun h => absurd h (by omega), fun _ => rfl, bnext hbel hb1⟩
def rv (rs : List (Bool × List Int)) (t : Nat) : Bool × List Int := rs.getD t (false, [])
theorem rv_eq {rs : List (Bool × List Int)} {t : Nat} (h : t < rs.length) : rv rs t = rs[t] := by unfold rv; rw [List.getD_eq_getElem?_getD, List.getElem?_eq_getElem h]; rfl
theorem RawsAt.at {w : World} {ao : Option Addr} {len cap k : Nat} {rs : List (Bool × List Int)} (h : RawsAt w ao len cap rs) (hk : k < len) : ∃ b off n1 ao1 l1 c1, ao = some ⟨b, off, none⟩ ∧ w.cell? ⟨b, off + k * 2, none⟩ = some (.bool n1) ∧ w.cell? ⟨b, off + k * 2 + 1, none⟩ = some (.slice ao1 l1 c1) ∧ n1 = (rv rs k).1 ∧ RowAt w .u64 ao1 l1 c1 (rv rs k).2 ∧ Wd 18446744073709551616 (rv rs k).2 := by
 have hk2 : k < rs.length := by rw [← h.hlen]; exact hk
 obtain ⟨b, off, h1, hat⟩ := h.get (by omega)
 obtain ⟨ao1, l1, c1, ⟨h0, h1'⟩, hr, hw⟩ := hat k hk2
 rw [rv_eq hk2]
 exact ⟨b, off, _, ao1, l1, c1, h1, h0, h1', rfl, hr, hw⟩
theorem pcheck_is (ao : Option Addr) (len cap : Nat) (rs : List (Bool × List Int)) (w : World) (hr : RawsAt w ao len cap rs) (hl : len ≤ 1000) (hlim : ∀ t, (rv rs t).2.length ≤ 100000) (c : Int) (hc : (if pmayB len rs then 0 else 50 : Int) = c) :
  Calls Tryz.prog 19 #[.slice ao len cap] w fun e w' => e = .returned (.int .i64 c) ∧ Below w.heap.size w w' := by
 have hl1 : ¬ ((1025 : Int) < (len : Int)) := by omega
 have HR : Hid (RawsAt w ao len cap rs ∧ (∀ t, (rv rs t).2.length ≤ 100000) ∧ len = rs.length) := ⟨hr, hlim, hr.hlen⟩
 clear hr hlim
 by_cases h0 : len = 0
 ·
  subst h0
  obtain rfl : rs = [] := List.eq_nil_of_length_eq_zero HR.out.2.2.symm
  obtain rfl : c = 0 := by rw [← hc]; rfl
  clear hc
  go_enter Tryz.func19, Tryz.ntmps19
  go_wp2
  go_loopw [24] (fun i wr => i = .int .i64 0 ∧ wr = w) (fun i _ => 0)
  case atStart => exact ⟨rfl, rfl⟩
  case round =>
   obtain ⟨rfl, rfl⟩ := hrel
   go_wp2
   go_ret
   exact ⟨rfl, Below.refl _ _⟩
 ·
  obtain ⟨b, off, n1, ao1, l1, c1, rfl, h1, h2, hn1, hrow, hw1⟩ := HR.out.1.at (show len - 1 < len by omega)
  clear hn1 hw1
  have hidx : (len : Int) - 1 = ((len - 1 : Nat) : Int) := by omega
  have hk1 : len - 1 < len := by omega
  have hpos : (0 : Int) < (len : Int) := by omega
  have hlr : l1 = (rv rs (len - 1)).2.length := hrow.hlen
  clear hrow
  by_cases hz : l1 = 0
  ·
   have hcz : ∀ W', Calls Tryz.prog 45 #[.agg #[.bool n1, .slice ao1 l1 c1]] W' fun e w' => e = .returned (.bool true) ∧ Below W'.heap.size W' w' := fun W' => isZero_any n1 ao1 l1 c1 W' true (by simp; omega)
   obtain rfl : c = 50 := by
    rw [← hc, if_neg]
    intro hm
    have := (pmayB_true hm).2.2 (by omega)
    exact this (List.eq_nil_of_length_eq_zero (by show (rv rs (len - 1)).2.length = 0; omega))
   clear hc hz hlr h0
   go_enter Tryz.func19, Tryz.ntmps19
   go_wp2_with (go_at_call 45; refine (hcz _).mono ?_; rintro e w1 ⟨rfl, hb1⟩)
   go_ret
   exact ⟨rfl, hb1⟩
  ·
   have hcz : ∀ W', Calls Tryz.prog 45 #[.agg #[.bool n1, .slice ao1 l1 c1]] W' fun e w' => e = .returned (.bool false) ∧ Below W'.heap.size W' w' := fun W' => isZero_any n1 ao1 l1 c1 W' false (by simp; omega)
   have HC : Hid ((if rs.all (fun r => mayB r.1 r.2) then 0 else 50 : Int) = c) := by
    show _ = _
    rw [← hc]
    have e1 : (rs.getD (len - 1) (false, [])).2 ≠ [] := fun e => hz (by rw [hlr]; show (rs.getD (len - 1) (false, [])).2.length = 0; rw [e]; rfl)
    have e2 : pmayB len rs = rs.all (fun r => mayB r.1 r.2) := by
     unfold pmayB
     rw [decide_eq_true (show len ≤ 1025 by omega), decide_eq_true e1, Bool.or_true, Bool.and_true, Bool.true_and]
    rw [e2]
   clear hc hz hlr h0
   go_enter Tryz.func19, Tryz.ntmps19
   go_wp2_with (go_at_call 45; refine (hcz _).mono ?_; rintro e w1 ⟨rfl, hb1⟩)
   go_loopw [24] (fun i wr => ∃ k : Nat, k ≤ len ∧ i = .int .i64 k ∧ Below w.heap.size w wr ∧ ∀ t, (ht : t < rs.length) → t < k → mayB (rs[t]).1 (rs[t]).2 = true) (fun i _ => len - (intOf i).toNat)
   case atStart => exact ⟨0, Nat.zero_le _, rfl, hb1, fun t _ h => absurd h (by omega)⟩
   case round =>
    clear h1 h2
    obtain ⟨k, hk, rfl, hbel, hz⟩ := hrel
    have HZ : Hid (∀ t, (ht : t < rs.length) → t < k → mayB (rs[t]).1 (rs[t]).2 = true) := hz
    clear hz
    by_cases hlt : k < len
    ·
     obtain ⟨b', off', n2, ao2, l2, c2, he, h1, h2, hn2, hrow, hw2⟩ := (HR.out.1.later hbel).at hlt
     clear hw2
     cases he
     have hA : Below wr.heap.size wr (wr.alloc (.cells #[.bool n2, .slice ao2 l2 c2] 28)) := (Below.refl _ _).alloc (Nat.le_refl _) _
     have hl2 : l2 ≤ 100000 := by rw [hrow.hlen]; exact HR.out.2.1 k
     have hkr : k < rs.length := by rw [← HR.out.2.2]; exact hlt
     obtain ⟨d, hd⟩ : ∃ d, mayB n2 (rv rs k).2 = d := ⟨_, rfl⟩
     have HD : Hid (mayB (rv rs k).1 (rv rs k).2 = d) := by show _ = d; rw [← hn2]; exact hd
     have hcon : ∀ c', (if d then 0 else 10 : Int) = c' → Calls Tryz.prog 46 #[.agg #[.bool n2, .slice ao2 l2 c2]] (wr.alloc (.cells #[.bool n2, .slice ao2 l2 c2] 28)) fun e w' => e = .returned (.int .i64 c') ∧ Below (wr.alloc (.cells #[.bool n2, .slice ao2 l2 c2] 28)).heap.size (wr.alloc (.cells #[.bool n2, .slice ao2 l2 c2] 28)) w' := fun c' hc' => check_at n2 ao2 l2 c2 _ _ (hrow.later hA) (by omega) c' (by rw [hd]; exact hc')
     have HKR : Hid (k < rs.length) := hkr
     clear hrow hn2 hd hkr
     cases d
     ·
      have hcon := hcon 10 rfl
      obtain rfl : c = 50 := by
       rw [← HC.out, if_neg]
       rw [List.all_eq_true]
       intro h
       have := h _ (List.getElem_mem HKR.out)
       rw [← rv_eq HKR.out, HD.out] at this
       cases this
      go_wp2_with (go_at_call 46; refine hcon.mono ?_; rintro e w2 ⟨rfl, hb2⟩)
      go_ret
      exact ⟨rfl, bnext hbel (bnext hA hb2)⟩
     ·
      have hcon := hcon 0 rfl
      go_wp2_with (go_at_call 46; refine hcon.mono ?_; rintro e w2 ⟨rfl, hb2⟩)
      go_roundw
      case rel => exact ⟨k + 1, by omega, by go_num, bnext hbel (bnext hA hb2), fun t ht htk => by
       by_cases e : t = k
       ·
        subst e; rw [← rv_eq ht]; exact HD.out
       ·
        exact HZ.out t ht (by omega)⟩
      case measure => simp [intOf]; omega
    ·
     obtain rfl : k = len := by omega
     obtain rfl : c = 0 := by
      rw [← HC.out, if_pos]
      rw [List.all_eq_true]
      intro r hr
      obtain ⟨t, ht, rfl⟩ := List.getElem_of_mem hr
      exact HZ.out t ht (by rw [HR.out.2.2]; exact ht)
     go_wp2
     go_ret
     exact ⟨rfl, hbel⟩
end Go.Proofs.YtojmlcignlcbhaaGreat
