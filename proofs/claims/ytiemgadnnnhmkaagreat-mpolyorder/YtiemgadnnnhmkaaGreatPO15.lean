/-
  NT: walks: mpoly's Mul of two polynomials of one term each. (gen/nt.py)
-/
import Derived.Test.YtiemgadnnnhmkaaGreatPO14
namespace Go.Proofs.YtiemgadnnnhmkaaGreat
open Go.RowKit
set_option linter.unusedVariables false
set_option linter.unusedSimpArgs false
theorem goodOne {a b : Int} (ha : 0 ≤ a ∧ a ≤ 1024) (hb : 0 ≤ b ∧ b ≤ 1024) : GoodM 2 [([a, b], false, [1])] := by
  refine ⟨by decide, by simp, fun t ht => ?_, fun t ht => by simp at ht⟩
  obtain rfl : t = 0 := by simp at ht; omega
  exact ⟨rfl, rfl, by simp, fun e he => by
    rcases List.mem_cons.1 he with rfl | he
    · exact ha
    · rcases List.mem_cons.1 he with rfl | he
      · exact hb
      · cases he⟩
set_option maxRecDepth 100000 in
set_option maxHeartbeats 2000000 in
theorem mul_one (a b c d : Int) (B s1 s2 : Nat) (w : World) (h : TermOne B w s1 a b) (hq : TermOne B w s2 c d) (ha : 0 ≤ a ∧ a ≤ 500) (hb : 0 ≤ b ∧ b ≤ 500) (hc : 0 ≤ c ∧ c ≤ 500) (hd : 0 ≤ d ∧ d ≤ 500) :
    Calls Tryz.prog 17 #[.agg #[.int .i64 2, .slice (some ⟨s1, 0, none⟩) 1 1], .agg #[.int .i64 2, .slice (some ⟨s2, 0, none⟩) 1 1]] w (OneME (a + c) (b + d) w) := by
  obtain ⟨W0, hW0⟩ : ∃ W0, W0 = (w.alloc (.cells #[.int .i64 2, .slice (some ⟨s1, 0, none⟩) 1 1] 25)).alloc (.cells #[.int .i64 2, .slice (some ⟨s2, 0, none⟩) 1 1] 25) := ⟨_, rfl⟩
  obtain ⟨hb0, hk⟩ := box2 hW0
  obtain ⟨W, hW⟩ : ∃ W, W = W0.alloc (.cells #[.int .i64 0, .slice none 0 0] 25) := ⟨_, rfl⟩
  have hs0 : W0.heap.size = w.heap.size + 2 := by rw [hW0]; simp
  have hb1 : Below W0.heap.size W0 W := by rw [hW]; exact (Below.refl _ _).alloc (Nat.le_refl _) _
  have hx := Bx.new W0 [.int .i64 0, .slice none 0 0] 25
  rw [← hW, hs0] at hx
  have HB : Hid (Below w.heap.size w W ∧ W.heap.size = w.heap.size + 3) := ⟨bnext hb0 hb1, by rw [hW]; simp [hs0]⟩
  have KC : Hid (∀ w', Below W.heap.size W w' → w'.cell? ⟨w.heap.size, 0, none⟩ = some (.int .i64 2) ∧ w'.cell? ⟨w.heap.size, 1, none⟩ = some (.slice (some ⟨s1, 0, none⟩) 1 1) ∧ w'.cell? ⟨w.heap.size + 1, 0, none⟩ = some (.int .i64 2) ∧ w'.cell? ⟨w.heap.size + 1, 1, none⟩ = some (.slice (some ⟨s2, 0, none⟩) 1 1)) := fun w' h => hk w' (bnext hb1 h)
  have KX : Hid (∀ w', Below W.heap.size W w' → w'.cell? ⟨w.heap.size + 1 + 1, 0, none⟩ = some (.int .i64 0) ∧ w'.cell? ⟨w.heap.size + 1 + 1, 1, none⟩ = some (.slice none 0 0) ∧ ∀ j, w'.frozen? ⟨w.heap.size + 1 + 1, j, none⟩ = false) := fun w' h => by
    have := hx.later h hx.lt
    exact ⟨this.1 0 _ rfl, this.1 1 _ rfl, this.2⟩
  have K2 : Hid (∀ (w' : World) (i : Nat) (x : Value), (w'.cell? ⟨w.heap.size, 0, none⟩ = some (.int .i64 2) ∧ w'.cell? ⟨w.heap.size, 1, none⟩ = some (.slice (some ⟨s1, 0, none⟩) 1 1) ∧ w'.cell? ⟨w.heap.size + 1, 0, none⟩ = some (.int .i64 2) ∧ w'.cell? ⟨w.heap.size + 1, 1, none⟩ = some (.slice (some ⟨s2, 0, none⟩) 1 1)) → (w'.setCell ⟨w.heap.size + 1 + 1, i, none⟩ x).cell? ⟨w.heap.size, 0, none⟩ = some (.int .i64 2) ∧ (w'.setCell ⟨w.heap.size + 1 + 1, i, none⟩ x).cell? ⟨w.heap.size, 1, none⟩ = some (.slice (some ⟨s1, 0, none⟩) 1 1) ∧ (w'.setCell ⟨w.heap.size + 1 + 1, i, none⟩ x).cell? ⟨w.heap.size + 1, 0, none⟩ = some (.int .i64 2) ∧ (w'.setCell ⟨w.heap.size + 1 + 1, i, none⟩ x).cell? ⟨w.heap.size + 1, 1, none⟩ = some (.slice (some ⟨s2, 0, none⟩) 1 1)) := fun w' i x h => ⟨by rw [cell_off (by omega)]; exact h.1, by rw [cell_off (by omega)]; exact h.2.1, by rw [cell_off (by omega)]; exact h.2.2.1, by rw [cell_off (by omega)]; exact h.2.2.2⟩
  have HWE : Hid (W = ((w.alloc (.cells #[.int .i64 2, .slice (some ⟨s1, 0, none⟩) 1 1] 25)).alloc (.cells #[.int .i64 2, .slice (some ⟨s2, 0, none⟩) 1 1] 25)).alloc (.cells #[.int .i64 0, .slice none 0 0] 25)) := by show _ = _; rw [← hW0]; exact hW
  have HP : Hid (TermOne B W s1 a b ∧ TermOne B W s2 c d) := ⟨h.later HB.out.1, hq.later HB.out.1⟩
  have HA : Hid ((0 ≤ a ∧ a ≤ 500) ∧ (0 ≤ b ∧ b ≤ 500) ∧ (0 ≤ c ∧ c ≤ 500) ∧ (0 ≤ d ∧ d ≤ 500)) := ⟨ha, hb, hc, hd⟩
  clear hW0 hW hb0 hk hs0 hb1 hx h hq ha hb hc hd
  go_enter Tryz.func17, Tryz.ntmps17
  go_wp2_with (first
    | (go_at_call 13; rw [← HWE.out]; refine (mcheckBoth_good 2 _ _ 1 1 1 1 _ _ W ⟨HP.out.1.terms, goodOne (by have := HA.out; omega) (by have := HA.out; omega)⟩ ⟨HP.out.2.terms, goodOne (by have := HA.out; omega) (by have := HA.out; omega)⟩).mono ?_; rintro e w2 ⟨rfl, hb2⟩; have H2 : Hid (Below W.heap.size W w2) := hb2; clear hb2; obtain ⟨c0, c1, c2, c3⟩ := KC.out _ H2.out)
    | (go_at_call 31; have _t := H2; (fail_if_success (have _g := H3)); refine (isZero_any 2 _ 1 1 false _ (by decide)).mono ?_; rintro e w3 ⟨rfl, hb3⟩; have H3 : Hid (Below W.heap.size W w3) := bnext H2.out hb3; clear hb3 c0 c1 c2 c3; obtain ⟨c0, c1, c2, c3⟩ := KC.out _ H3.out)
    | (go_at_call 31; have _t := H3; (fail_if_success (have _g := H4)); refine (isZero_any 2 _ 1 1 false _ (by decide)).mono ?_; rintro e w4 ⟨rfl, hb4⟩; have H4 : Hid (Below W.heap.size W w4) := bnext H3.out hb4; clear hb4 c0 c1 c2 c3; obtain ⟨c0, c1, c2, c3⟩ := KC.out _ H4.out)
    | (go_at_call 32; refine (tooHigh_one a b c d _ _ 1 1 _ (HP.out.1.later H4.out).terms (HP.out.2.later H4.out).terms HA.out.1 HA.out.2.1 HA.out.2.2.1 HA.out.2.2.2).mono ?_; rintro e w5 ⟨rfl, hb5⟩; have H5 : Hid (Below W.heap.size W w5) := bnext H4.out hb5; clear hb5 c0 c1 c2 c3))
  refine wp_region_noPanic ?_
  refine wp_region_held_drew (S := fun w' => (w'.cell? ⟨w.heap.size, 0, none⟩ = some (.int .i64 2) ∧ w'.cell? ⟨w.heap.size, 1, none⟩ = some (.slice (some ⟨s1, 0, none⟩) 1 1) ∧ w'.cell? ⟨w.heap.size + 1, 0, none⟩ = some (.int .i64 2) ∧ w'.cell? ⟨w.heap.size + 1, 1, none⟩ = some (.slice (some ⟨s2, 0, none⟩) 1 1))) (by kernel_rfl) (by (try dsimp only); exact KC.out _ (H5.out.drew)) (fun hHeld => ?_)
  refine wpAnyH_take (i := 0) (oi := Oper.mk (some 29) _ _ _ _ _) (v := ?_) rfl (by decide +kernel) (by decide +kernel) (by decide +kernel) (fun _ _ _ h => h) (Or.inl ⟨by rfl, ?_⟩) (by assumption) ?_
  rotate_left
  · (intro w hSw; (try dsimp only at hSw); go_simp <;> (try with_reducible rfl))
  (try simp only [Act.put, List.setIfInBounds_toArray, List.set_cons_zero, List.set_cons_succ])
  refine wpAnyH_take (i := 1) (oi := Oper.mk (some 30) _ _ _ _ _) (v := ?_) rfl (by decide +kernel) (by decide +kernel) (by decide +kernel) (fun _ _ _ h => h) (Or.inl ⟨by rfl, ?_⟩) (by assumption) ?_
  rotate_left
  · (intro w hSw; (try dsimp only at hSw); go_simp <;> (try with_reducible rfl))
  (try simp only [Act.put, List.setIfInBounds_toArray, List.set_cons_zero, List.set_cons_succ])
  refine wpAnyH_take (i := 2) (oi := Oper.mk (some 31) _ _ _ _ _) (v := ?_) rfl (by decide +kernel) (by decide +kernel) (by decide +kernel) (fun _ _ _ h => h) (Or.inl ⟨by rfl, ?_⟩) (by assumption) ?_
  rotate_left
  · (intro w hSw; (try dsimp only at hSw); go_simp <;> (try with_reducible rfl))
  (try simp only [Act.put, List.setIfInBounds_toArray, List.set_cons_zero, List.set_cons_succ])
  refine wpAnyH_take (i := 4) (oi := Oper.mk (some 33) _ _ _ _ _) (v := ?_) rfl (by decide +kernel) (by decide +kernel) (by decide +kernel) (fun _ _ _ h => h) (Or.inl ⟨by rfl, ?_⟩) (by assumption) ?_
  rotate_left
  · (intro w hSw; (try dsimp only at hSw); go_simp <;> (try with_reducible rfl))
  (try simp only [Act.put, List.setIfInBounds_toArray, List.set_cons_zero, List.set_cons_succ])
  refine wpAnyH_ready (rs := [3]) (by decide +kernel) (by simp) ?_
  refine AllReadyH.cons (o := Oper.mk (some 32) _ _ _ _ _) rfl (fun K hK => ?_) AllReadyH.nil
  go_simp
  (go_at_call 34; refine (entries_one a b B s1 _ (HP.out.1.later H5.out.drew) (by have := HA.out; omega) (by have := HA.out; omega)).mono ?_; rintro e w6 ⟨gA, kA, oA, lA, cA, rfl, hE, hr⟩; have H6 : Hid (Below W.heap.size W w6 ∧ Bx w6 gA (entry2 a b oA lA cA) ∧ RowAt w6 .u64 oA lA cA [1]) := ⟨bnext H5.out.drew hE.2.1, hE.1, hr⟩; clear hE hr)
  (try go_wp2_with fail)
  clear hHeld
  refine hK.out _ _ (by (try dsimp only); exact KC.out _ H6.out.1) (fun hHeld => ?_)
  clear hK K
  (try simp only [Act.put, List.setIfInBounds_toArray, List.set_cons_zero, List.set_cons_succ])
  refine wpAnyH_ready (rs := [5]) (by decide +kernel) (by simp) ?_
  refine AllReadyH.cons (o := Oper.mk (some 34) _ _ _ _ _) rfl (fun K hK => ?_) AllReadyH.nil
  go_simp
  (go_at_call 34; refine (entries_one c d B s2 _ (HP.out.2.later H6.out.1) (by have := HA.out; omega) (by have := HA.out; omega)).mono ?_; rintro e w7 ⟨gB, kB, oB, lB, cB, rfl, hE, hr⟩; have H7 : Hid (Below W.heap.size W w7 ∧ (Bx w7 gA (entry2 a b oA lA cA) ∧ RowAt w7 .u64 oA lA cA [1]) ∧ Bx w7 gB (entry2 c d oB lB cB) ∧ RowAt w7 .u64 oB lB cB [1]) := ⟨bnext H6.out.1 hE.2.1, ⟨H6.out.2.1.later hE.2.1 H6.out.2.1.lt, H6.out.2.2.later hE.2.1⟩, hE.1, hr⟩; clear hE hr)
  (try go_wp2_with fail)
  clear hHeld
  refine hK.out _ _ (by (try dsimp only); exact KC.out _ H7.out.1) (fun hHeld => ?_)
  clear hK K
  (try simp only [Act.put, List.setIfInBounds_toArray, List.set_cons_zero, List.set_cons_succ])
  refine wpAnyH_ready (rs := [6]) (by decide +kernel) (by simp) ?_
  refine AllReadyH.cons (o := Oper.mk (some 35) _ _ _ _ _) rfl (fun K hK => ?_) AllReadyH.nil
  go_simp
  (go_at_call 33; refine (product_one a b c d gA gB kA kB oA oB lA cA lB cB _ H7.out.2.1.1 H7.out.2.2.1 H7.out.2.1.2 H7.out.2.2.2 HA.out.1 HA.out.2.1 HA.out.2.2.1 HA.out.2.2.2).mono ?_; rintro e w8 ⟨gC, kC, oC, lC, cC, rfl, hE, hr⟩; have H8 : Hid (Below W.heap.size W w8 ∧ Bx w8 gC (entry2 (a + c) (b + d) oC lC cC) ∧ RowAt w8 .u64 oC lC cC [1]) := ⟨bnext H7.out.1 hE.2.1, hE.1, hr⟩; clear hE hr)
  (try go_wp2_with fail)
  clear hHeld
  refine hK.out _ _ (by (try dsimp only); exact KC.out _ H8.out.1) (fun hHeld => ?_)
  clear hK K
  (try simp only [Act.put, List.setIfInBounds_toArray, List.set_cons_zero, List.set_cons_succ])
  refine wpAnyH_ready (rs := [7]) (by decide +kernel) (by simp) ?_
  refine AllReadyH.cons (o := Oper.mk (some 36) _ _ _ _ _) rfl (fun K hK => ?_) AllReadyH.nil
  go_simp
  (go_at_call 30; refine (laid_one (a + c) (b + d) gC 0 kC oC lC cC _ (by have := HA.out; omega) (by have := HA.out; omega) (fun j v hj => by rw [Nat.zero_add]; exact H8.out.2.1.1 j v hj) H8.out.2.1.lt H8.out.2.2).mono ?_; rintro e w9 ⟨sC, rfl, hT, hb9⟩; have H9 : Hid (Below W.heap.size W w9 ∧ TermOne W.heap.size w9 sC (a + c) (b + d)) := ⟨bnext H8.out.1 hb9, hT.mono H8.out.1.size⟩; clear hT hb9; obtain ⟨p0, p1, pf⟩ := KX.out _ H9.out.1)
  (try go_wp2_with fail)
  clear hHeld
  refine hK.out _ _ (by (try dsimp only); exact KC.out _ H9.out.1) (fun hHeld => ?_)
  clear hK K
  (try simp only [Act.put, List.setIfInBounds_toArray, List.set_cons_zero, List.set_cons_succ])
  refine wpAnyH_take (i := 8) (oi := Oper.mk (some 37) _ _ _ _ _) (v := ?_) rfl (by decide +kernel) (by decide +kernel) (by decide +kernel) (fun _ _ _ h => h) (Or.inl ⟨by rfl, ?_⟩) (by assumption) ?_
  rotate_left
  · (intro w hSw; (try dsimp only at hSw); go_simp <;> (try with_reducible rfl))
  (try simp only [Act.put, List.setIfInBounds_toArray, List.set_cons_zero, List.set_cons_succ])
  refine wpAnyH_take (i := 9) (oi := Oper.mk (some 38) _ _ _ _ _) (v := ?_) rfl (by decide +kernel) (by decide +kernel) (by decide +kernel) (fun _ _ _ h => h) (Or.inl ⟨by rfl, ?_⟩) (by assumption) ?_
  rotate_left
  · (intro w hSw; (try dsimp only at hSw); go_simp <;> (try with_reducible rfl))
  (try simp only [Act.put, List.setIfInBounds_toArray, List.set_cons_zero, List.set_cons_succ])
  refine wpAnyH_ready (rs := [10]) (by decide +kernel) (by simp) ?_
  refine AllReadyH.cons (o := Oper.mk none _ _ _ _ _) rfl (fun K hK => ?_) AllReadyH.nil
  go_simp
  clear hHeld
  refine hK.out _ _ (by (try dsimp only); exact K2.out _ _ _ (K2.out _ _ _ (KC.out _ H9.out.1))) (fun hHeld => ?_)
  clear hK K
  (try simp only [Act.put, List.setIfInBounds_toArray, List.set_cons_zero, List.set_cons_succ])
  refine wpAnyH_take (i := 11) (oi := Oper.mk (some 5) _ _ _ _ _) (v := ?_) rfl (by decide +kernel) (by decide +kernel) (by decide +kernel) (fun _ _ _ h => h) (Or.inl ⟨by rfl, ?_⟩) (by assumption) ?_
  rotate_left
  · (intro w hSw; (try dsimp only at hSw); go_simp <;> (try with_reducible rfl))
  (try simp only [Act.put, List.setIfInBounds_toArray, List.set_cons_zero, List.set_cons_succ])
  refine wpAnyH_done (by decide +kernel) ?_ _
  refine NoPanic.normal ?_
  clear hHeld
  go_wp2
  have q1 : (w9.setCell ⟨w.heap.size + 1 + 1, 0, none⟩ (.int .i64 2)).cell? ⟨w.heap.size + 1 + 1, 1, none⟩ = some (.slice none 0 0) := by simp [go_sem, p0, p1]
  have hsz := HB.out.2
  have hO : OneME (a + c) (b + d) w (.returned (.tuple #[.agg #[.int .i64 2, .slice (some ⟨sC, 0, none⟩) 1 1], .int .i64 0])) ((w9.setCell ⟨w.heap.size + 1 + 1, 0, none⟩ (.int .i64 2)).setCell ⟨w.heap.size + 1 + 1, 1, none⟩ (.slice (some ⟨sC, 0, none⟩) 1 1)) :=
    ⟨sC, rfl, ((H9.out.2.store (r := w.heap.size + 1 + 1) (by omega) p0 (fun z e => by cases e)).store (r := w.heap.size + 1 + 1) (by omega) q1 (fun z e => by cases e)).mono (by omega), below_store (bnext HB.out.1 H9.out.1) (by omega) _ _⟩
  exact bodyPost_ret (v := .tuple #[.agg #[.int .i64 2, .slice (some ⟨sC, 0, none⟩) 1 1], .int .i64 0]) (by simp [results, Tryz.results17, go_sem, p0, p1, pf]) rfl hO
end Go.Proofs.YtiemgadnnnhmkaaGreat
/-
  NU: walks: the page's CopyNumbers, by of a term and a polynomial of one term. (gen/nu.py)
-/
namespace Go.Proofs.YtiemgadnnnhmkaaGreat
open Go.RowKit
set_option linter.unusedVariables false
set_option linter.unusedSimpArgs false
set_option maxRecDepth 100000 in
set_option maxHeartbeats 1000000 in
theorem copyNumbers_any (ao : Option Addr) (len cap : Nat) (zs : List Int) (w : World) (hr : RowAt w .i64 ao len cap zs) (hl : len ≤ 4294967296) :
    Calls Tryz.prog 58 #[.slice ao len cap] w fun e w' => ∃ v, e = .returned v ∧ w'.ownsRow w.heap.size 3 1 v len (zs.map (Value.int .i64)) ∧ Below w.heap.size w w' := by
  obtain ⟨i0, hi, hz0, hz1, hz2⟩ := info_parts infoInt
  have HL : Hid (len = zs.length) := hr.hlen
  go_enter Tryz.func58, Tryz.ntmps58
  go_wp2
  go_loopw [3, 4] (fun v i wr => ∃ k : Nat, k ≤ len ∧ i = .int .i64 (k : Nat) ∧ wr.ownsRow w.heap.size 3 1 v k ((zs.take k).map (Value.int .i64)) ∧ Below w.heap.size w wr) (fun _ i _ => len - (intOf i).toNat)
  case atStart => exact ⟨0, Nat.zero_le _, rfl, World.ownsRow_nil _ _ _ _, Below.refl _ _⟩
  case round =>
    obtain ⟨k, hk, rfl, hown, hbel⟩ := hrel
    by_cases hlt : k < len
    · obtain ⟨b, off, rfl, hb, hc⟩ := hr.get (by omega)
      have hcell : wr.cell? ⟨b, off + k, none⟩ = some (.int .i64 (dig zs k)) := (hbel.cell (p := ⟨b, off + k, none⟩) hb).trans (hc k hlt)
      obtain ⟨x, hx⟩ : ∃ x, dig zs k = x := ⟨_, rfl⟩
      rw [hx] at hcell
      have hbs : b < wr.heap.size := by have := hbel.size; omega
      have h63 : Hid (k + 1 ≤ maxLen) := by show _ ≤ _; unfold maxLen; omega
      have hby : Hid ((k + 1) * 8 ≤ 140737488355328) := by show _ ≤ _; omega
      have hbz : Hid (w.heap.size ≤ wr.heap.size + 1) := by show _ ≤ _; have := hbel.size; omega
      have HX : Hid ((zs.take (k + 1)).map (Value.int .i64) = (zs.take k).map (Value.int .i64) ++ [.int .i64 x]) := by
        show _ = _
        have a1 : zs.getD k 0 = x := hx
        rw [take_getD (by have := HL.out; omega), List.map_append, a1]; rfl
      clear hc hx
      go_wp2_with (at_builtin; refine wpList_append_lies _ rfl _ _ 54 rfl w.heap.size 3 i0 (.int .i64 0) 1 8 Tryz.underlying54 hi hz0 hz1 hz2 rfl (by decide) _ k _ rfl (hown.alloc _) ⟨wr.heap.size, 0, none⟩ 1 1 [.int .i64 x] rfl rfl (World.news_of_block (cs := #[.int .i64 x]) (t := 3) (fr := (0, 0)) (heap_alloc_new wr _)) (by simp [Value.oneCell']) (by decide) h63.out hby.out (by simpa using hbz.out) (wr.heap.size + 1) (by simp) ?_; intro g cp w1 hown1 hgrow hat hltg)
      have hB1 : Below w.heap.size w w1 := (hbel.alloc hbel.size _).grown hgrow (by simpa using hbz.out) (own_from hown)
      go_roundw
      case rel => exact ⟨k + 1, by omega, by go_num, by rw [HX.out]; exact hown1, hB1⟩
      case measure => simp [intOf]; omega
    · obtain rfl : k = len := by omega
      have hkl : Hid (zs.take k = zs) := List.take_of_length_le (by have := HL.out; omega)
      rw [hkl.out] at hown
      go_wp2
      go_ret
      exact ⟨_, rfl, hown, hbel⟩
/-- a list of one term of two variables -/
def TermV (W : World) (v : Value) (a b : Int) : Prop := ∃ s cp g ec ao la ca, v = .slice (some ⟨s, 0, none⟩) 1 cp ∧ 2 ≤ ec ∧ W.cell? ⟨g, 0, none⟩ = some (.int .i64 a) ∧ W.cell? ⟨g, 1, none⟩ = some (.int .i64 b) ∧ W.cell? ⟨s, 0, none⟩ = some (.slice (some ⟨g, 0, none⟩) 2 ec) ∧ W.cell? ⟨s, 1, none⟩ = some (.bool false) ∧ W.cell? ⟨s, 2, none⟩ = some (.slice ao la ca) ∧ RowAt W .u64 ao la ca [1]
theorem TermV.later {W W' : World} {v : Value} {a b : Int} (h : TermV W v a b) (hb : Below W.heap.size W W') : TermV W' v a b := by
  obtain ⟨s, cp, g, ec, ao, la, ca, h1, h2, c0, c1, s0, s1, s2, hr⟩ := h
  exact ⟨s, cp, g, ec, ao, la, ca, h1, h2, (hb.cell (p := ⟨g, 0, none⟩) (cell_lt c0)).trans c0, (hb.cell (p := ⟨g, 1, none⟩) (cell_lt c1)).trans c1, (hb.cell (p := ⟨s, 0, none⟩) (cell_lt s0)).trans s0, (hb.cell (p := ⟨s, 1, none⟩) (cell_lt s1)).trans s1, (hb.cell (p := ⟨s, 2, none⟩) (cell_lt s2)).trans s2, hr.later hb⟩
theorem TermV.terms {W : World} {v : Value} {a b : Int} (h : TermV W v a b) : ∃ tp cp, v = .slice tp 1 cp ∧ TermsAt W tp 1 cp [([a, b], false, [1])] := by
  obtain ⟨s, cp, g, ec, ao, la, ca, h1, h2, c0, c1, s0, s1, s2, hr⟩ := h
  refine ⟨_, cp, h1, rfl, fun t ht => ?_⟩
  obtain rfl : t = 0 := by simp at ht; omega
  refine ⟨s, 0, rfl, some ⟨g, 0, none⟩, 2, ec, ao, la, ca, ⟨s0, s1, s2⟩, ⟨⟨rfl, h2, fun e => (by cases e), Or.inr ⟨g, 0, rfl, cell_lt c0, fun t ht => ?_⟩⟩, by simp⟩, hr, ?_, ?_⟩
  · match t, ht with
    | 0, _ => simpa [dig] using c0
    | 1, _ => simpa [dig] using c1
  · intro z hz
    simp at hz
    subst hz
    decide
  · have := hr.hlen
    simp at this
    omega
/-- storing into a block that holds none of it -/
theorem TermV.store {W : World} {v x y : Value} {a b : Int} {r k : Nat} (h : TermV W v a b) (hg : ∀ s cp g ec, v = .slice (some ⟨s, 0, none⟩) 1 cp → W.cell? ⟨s, 0, none⟩ = some (.slice (some ⟨g, 0, none⟩) 2 ec) → s ≠ r ∧ g ≠ r) (hx : W.cell? ⟨r, k, none⟩ = some x) (hn : ∀ z, x ≠ .int .u64 z) : TermV (W.setCell ⟨r, k, none⟩ y) v a b := by
  obtain ⟨s, cp, g, ec, ao, la, ca, h1, h2, c0, c1, s0, s1, s2, hr⟩ := h
  obtain ⟨e2, e1⟩ := hg s cp g ec h1 s0
  exact ⟨s, cp, g, ec, ao, la, ca, h1, h2, by rw [cell_off e1]; exact c0, by rw [cell_off e1]; exact c1, by rw [cell_off e2]; exact s0, by rw [cell_off e2]; exact s1, by rw [cell_off e2]; exact s2, hr.cellKept9 hx hn _⟩
/-- four boxes made one behind the other -/
theorem fourBx {w W : World} {A B C D : List Value} {t1 t2 t3 t4 : TypeId} (hW : W = (((w.alloc (.cells A.toArray t1)).alloc (.cells B.toArray t2)).alloc (.cells C.toArray t3)).alloc (.cells D.toArray t4)) (hA : 0 < A.length) (hB : 0 < B.length) (hC : 0 < C.length) (hD : 0 < D.length) :
    Below w.heap.size w W ∧ W.heap.size = w.heap.size + 4 ∧ Bx W w.heap.size A ∧ Bx W (w.heap.size + 1) B ∧ Bx W (w.heap.size + 1 + 1) C ∧ Bx W (w.heap.size + 1 + 1 + 1) D := by
  obtain ⟨X, hX⟩ : ∃ X, X = w.alloc (.cells A.toArray t1) := ⟨_, rfl⟩
  obtain ⟨Y, hY⟩ : ∃ Y, Y = X.alloc (.cells B.toArray t2) := ⟨_, rfl⟩
  obtain ⟨Z, hZ⟩ : ∃ Z, Z = Y.alloc (.cells C.toArray t3) := ⟨_, rfl⟩
  rw [← hX, ← hY, ← hZ] at hW
  have x1 := Bx.new w A t1
  have x2 := Bx.new X B t2
  have x3 := Bx.new Y C t3
  have x4 := Bx.new Z D t4
  rw [← hX] at x1
  rw [← hY] at x2
  rw [← hZ] at x3
  rw [← hW] at x4
  have sX : X.heap.size = w.heap.size + 1 := by rw [hX]; simp
  have sY : Y.heap.size = w.heap.size + 1 + 1 := by rw [hY]; simp [sX]
  have sZ : Z.heap.size = w.heap.size + 1 + 1 + 1 := by rw [hZ]; simp [sY]
  have bX : Below w.heap.size w X := by rw [hX]; exact (Below.refl _ _).alloc (Nat.le_refl _) _
  have bY : Below X.heap.size X Y := by rw [hY]; exact (Below.refl _ _).alloc (Nat.le_refl _) _
  have bZ : Below Y.heap.size Y Z := by rw [hZ]; exact (Below.refl _ _).alloc (Nat.le_refl _) _
  have bW : Below Z.heap.size Z W := by rw [hW]; exact (Below.refl _ _).alloc (Nat.le_refl _) _
  rw [sX] at x2
  rw [sY] at x3
  rw [sZ] at x4
  have ltA : ∀ {W : World} {r : Nat} {L : List Value}, Bx W r L → 0 < L.length → r < W.heap.size := fun {W r L} h hl => by
    match L, hl with
    | v :: _, _ => exact cell_lt (h.1 0 v rfl)
  have l1 := ltA x1 hA
  have l2 := ltA x2 hB
  have l3 := ltA x3 hC
  exact ⟨bnext (bnext (bnext bX bY) bZ) bW, by rw [hW]; simp [sZ], x1.later (bnext (bnext bY bZ) bW) l1, x2.later (bnext bZ bW) l2, x3.later bW l3, x4⟩
end Go.Proofs.YtiemgadnnnhmkaaGreat
