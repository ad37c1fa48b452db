/-
  NW: walks: the page's Plus of nothing and one term. (gen/nw.py)
-/
import Derived.Test.YtiemgadnnnhmkaaGreatPO16
namespace Go.Proofs.YtiemgadnnnhmkaaGreat
open Go.RowKit
set_option linter.unusedVariables false
set_option linter.unusedSimpArgs false
set_option maxRecDepth 100000 in
set_option maxHeartbeats 4000000 in
theorem mplus_one (a b : Int) (v : Value) (w : World) (B : Nat) (h : TermV w v a b) (hF : Far B w v) (hB : B ≤ w.heap.size) :
    Calls Tryz.prog 35 #[.agg #[.int .i64 2, .slice none 0 0], .agg #[.int .i64 2, v]] w fun e w' => ∃ v', e = .returned (.agg #[.int .i64 2, v']) ∧ TermV w' v' a b ∧ Far B w' v' ∧ Below w.heap.size w w' := by
  obtain ⟨sq, kq, gq, eq, ao, la, ca, rfl, heq, c0, c1, s0, s1, s2, hr⟩ := h
  have HFB : Hid (B ≤ gq ∧ B ≤ w.heap.size) := ⟨(hF _ _ _ _ rfl s0).2, hB⟩
  clear hF hB
  obtain ⟨i0, hi, hz0, hz1, hz2⟩ := info_parts infoTerm
  have h63 : Hid (0 + 1 ≤ maxLen) := by show _ ≤ _; unfold maxLen; omega
  obtain ⟨W, hW⟩ : ∃ W, W = (((w.alloc (.cells #[.int .i64 2, .slice none 0 0] 25)).alloc (.cells #[.int .i64 2, .slice (some ⟨sq, 0, none⟩) 1 kq] 25)).alloc (.cells #[.int .i64 0, .slice none 0 0] 25)).alloc (.cells #[.int .i64 2, .slice none 0 0] 25) := ⟨_, rfl⟩
  have h4 := fourBx (A := [.int .i64 2, .slice none 0 0]) (B := [.int .i64 2, .slice (some ⟨sq, 0, none⟩) 1 kq]) (C := [.int .i64 0, .slice none 0 0]) (D := [.int .i64 2, .slice none 0 0]) hW (by simp) (by simp) (by simp) (by simp)
  have HB : Hid (Below w.heap.size w W ∧ W.heap.size = w.heap.size + 4) := ⟨h4.1, h4.2.1⟩
  have HX : Hid (∀ w', Below W.heap.size W w' → Bx w' w.heap.size [.int .i64 2, .slice none 0 0] ∧ Bx w' (w.heap.size + 1) [.int .i64 2, .slice (some ⟨sq, 0, none⟩) 1 kq] ∧ Bx w' (w.heap.size + 1 + 1) [.int .i64 0, .slice none 0 0] ∧ Bx w' (w.heap.size + 1 + 1 + 1) [.int .i64 2, .slice none 0 0]) := fun w' hb => ⟨h4.2.2.1.later hb h4.2.2.1.lt, h4.2.2.2.1.later hb h4.2.2.2.1.lt, h4.2.2.2.2.1.later hb h4.2.2.2.2.1.lt, h4.2.2.2.2.2.later hb h4.2.2.2.2.2.lt⟩
  have KS : Hid (∀ w', Below W.heap.size W w' → w'.cell? ⟨w.heap.size + 1, 1, none⟩ = some (.slice (some ⟨sq, 0, none⟩) 1 kq) ∧ w'.cell? ⟨sq, 0, none⟩ = some (.slice (some ⟨gq, 0, none⟩) 2 eq) ∧ w'.cell? ⟨sq, 1, none⟩ = some (.bool false) ∧ w'.cell? ⟨sq, 2, none⟩ = some (.slice ao la ca)) := fun w' hb => by
    have hb' := bnext h4.1 hb
    exact ⟨(HX.out w' hb).2.1.1 1 _ rfl, (hb'.cell (p := ⟨sq, 0, none⟩) (cell_lt s0)).trans s0, (hb'.cell (p := ⟨sq, 1, none⟩) (cell_lt s1)).trans s1, (hb'.cell (p := ⟨sq, 2, none⟩) (cell_lt s2)).trans s2⟩
  have K5 : Hid (∀ w', Below W.heap.size W w' → w'.cell? ⟨w.heap.size + 1 + 1 + 1, 0, none⟩ = some (.int .i64 2) ∧ w'.cell? ⟨w.heap.size + 1 + 1 + 1, 1, none⟩ = some (.slice none 0 0) ∧ ∀ j, w'.frozen? ⟨w.heap.size + 1 + 1 + 1, j, none⟩ = false) := fun w' hb => by
    obtain ⟨_, _, _, x⟩ := HX.out w' hb
    exact ⟨x.1 0 _ rfl, x.1 1 _ rfl, x.2⟩
  have HLT : Hid (sq < w.heap.size ∧ gq < w.heap.size) := ⟨cell_lt s0, cell_lt c0⟩
  have K2 : Hid (∀ (w' : World) (x : Value), (w'.cell? ⟨w.heap.size + 1, 1, none⟩ = some (.slice (some ⟨sq, 0, none⟩) 1 kq) ∧ w'.cell? ⟨sq, 0, none⟩ = some (.slice (some ⟨gq, 0, none⟩) 2 eq) ∧ w'.cell? ⟨sq, 1, none⟩ = some (.bool false) ∧ w'.cell? ⟨sq, 2, none⟩ = some (.slice ao la ca)) → (w'.setCell ⟨w.heap.size + 1 + 1 + 1, 1, none⟩ x).cell? ⟨w.heap.size + 1, 1, none⟩ = some (.slice (some ⟨sq, 0, none⟩) 1 kq) ∧ (w'.setCell ⟨w.heap.size + 1 + 1 + 1, 1, none⟩ x).cell? ⟨sq, 0, none⟩ = some (.slice (some ⟨gq, 0, none⟩) 2 eq) ∧ (w'.setCell ⟨w.heap.size + 1 + 1 + 1, 1, none⟩ x).cell? ⟨sq, 1, none⟩ = some (.bool false) ∧ (w'.setCell ⟨w.heap.size + 1 + 1 + 1, 1, none⟩ x).cell? ⟨sq, 2, none⟩ = some (.slice ao la ca)) := fun w' x h => by
    have := HLT.out
    exact ⟨by rw [cell_off (by omega)]; exact h.1, by rw [cell_off (by omega)]; exact h.2.1, by rw [cell_off (by omega)]; exact h.2.2.1, by rw [cell_off (by omega)]; exact h.2.2.2⟩
  have HQ : Hid ((W.cell? ⟨gq, 0, none⟩ = some (.int .i64 a) ∧ W.cell? ⟨gq, 1, none⟩ = some (.int .i64 b) ∧ RowAt W .u64 ao la ca [1]) ∧ 2 ≤ eq) := ⟨⟨(h4.1.cell (p := ⟨gq, 0, none⟩) (cell_lt c0)).trans c0, (h4.1.cell (p := ⟨gq, 1, none⟩) (cell_lt c1)).trans c1, hr.later h4.1⟩, heq⟩
  have HWE : Hid (W = (((w.alloc (.cells #[.int .i64 2, .slice none 0 0] 25)).alloc (.cells #[.int .i64 2, .slice (some ⟨sq, 0, none⟩) 1 kq] 25)).alloc (.cells #[.int .i64 0, .slice none 0 0] 25)).alloc (.cells #[.int .i64 2, .slice none 0 0] 25)) := hW
  clear hW h4 hr c0 c1 s0 s1 s2 heq
  go_enter Tryz.func35, Tryz.ntmps35
  go_wp2
  rw [← HWE.out]
  go_loopw [6, 7] (fun i k wr => (i = .int .i64 0 ∧ k = .int .i64 0 ∧ Hid (Below W.heap.size W wr)) ∨ (i = .int .i64 0 ∧ k = .int .i64 1 ∧ ∃ sv kv, Hid (TermV wr (.slice (some ⟨sv, 0, none⟩) 1 kv) a b ∧ (∀ s cp g ec, Value.slice (some ⟨sv, 0, none⟩) 1 kv = .slice (some ⟨s, 0, none⟩) 1 cp → wr.cell? ⟨s, 0, none⟩ = some (.slice (some ⟨g, 0, none⟩) 2 ec) → w.heap.size + 4 ≤ s ∧ g = gq) ∧ Below w.heap.size w wr ∧ Bx wr w.heap.size [.int .i64 2, .slice none 0 0] ∧ Bx wr (w.heap.size + 1) [.int .i64 2, .slice (some ⟨sq, 0, none⟩) 1 kq] ∧ Bx wr (w.heap.size + 1 + 1) [.int .i64 0, .slice none 0 0] ∧ Bx wr (w.heap.size + 1 + 1 + 1) [.int .i64 2, .slice (some ⟨sv, 0, none⟩) 1 kv]))) (fun _ k _ => 1 - (intOf k).toNat)
  case atStart => exact Or.inl ⟨rfl, rfl, Below.refl _ _⟩
  case round =>
    rcases hrel with ⟨rfl, rfl, HI⟩ | ⟨rfl, rfl, sv, kv, HS⟩
    · obtain ⟨x1, x2, _, _⟩ := HX.out wr HI.out
      have x11 := x1.1 1 _ rfl
      have x21 := x2.1 1 _ rfl
      obtain ⟨v0, v1, vf⟩ := K5.out wr HI.out
      have vlt := cell_lt v1
      clear x1 x2
      go_wp2
      refine wp_region_noPanic ?_
      refine wp_region_held_drew (S := fun w' => (w'.cell? ⟨w.heap.size + 1, 1, none⟩ = some (.slice (some ⟨sq, 0, none⟩) 1 kq) ∧ w'.cell? ⟨sq, 0, none⟩ = some (.slice (some ⟨gq, 0, none⟩) 2 eq) ∧ w'.cell? ⟨sq, 1, none⟩ = some (.bool false) ∧ w'.cell? ⟨sq, 2, none⟩ = some (.slice ao la ca))) (by kernel_rfl) (by (try dsimp only); exact KS.out _ HI.out.drew) (fun hHeld => ?_)
      refine wpAnyH_take (i := 0) (oi := Oper.mk (some 101) _ _ _ _ _) (v := ?_) rfl (by decide +kernel) (by decide +kernel) (by decide +kernel) (fun _ _ _ h => h) (Or.inl ⟨by rfl, ?_⟩) (by assumption) ?_
      rotate_left
      · (intro w hSw; (try dsimp only at hSw); go_simp <;> (try with_reducible rfl))
      (try simp only [Act.put, List.setIfInBounds_toArray, List.set_cons_zero, List.set_cons_succ])
      refine wpAnyH_take (i := 2) (oi := Oper.mk (some 103) _ _ _ _ _) (v := ?_) rfl (by decide +kernel) (by decide +kernel) (by decide +kernel) (fun _ _ _ h => h) (Or.inl ⟨by rfl, ?_⟩) (by assumption) ?_
      rotate_left
      · (intro w hSw; (try dsimp only at hSw); go_simp <;> (try with_reducible rfl))
      (try simp only [Act.put, List.setIfInBounds_toArray, List.set_cons_zero, List.set_cons_succ])
      refine wpAnyH_take (i := 3) (oi := Oper.mk (some 104) _ _ _ _ _) (v := ?_) rfl (by decide +kernel) (by decide +kernel) (by decide +kernel) (fun _ _ _ h => h) (Or.inl ⟨by rfl, ?_⟩) (by assumption) ?_
      rotate_left
      · (intro w hSw; (try dsimp only at hSw); go_simp <;> (try with_reducible rfl))
      (try simp only [Act.put, List.setIfInBounds_toArray, List.set_cons_zero, List.set_cons_succ])
      refine wpAnyH_take (i := 4) (oi := Oper.mk (some 105) _ _ _ _ _) (v := ?_) rfl (by decide +kernel) (by decide +kernel) (by decide +kernel) (fun _ _ _ h => h) (Or.inl ⟨by rfl, ?_⟩) (by assumption) ?_
      rotate_left
      · (intro w hSw; (try dsimp only at hSw); go_simp <;> (try with_reducible rfl))
      (try simp only [Act.put, List.setIfInBounds_toArray, List.set_cons_zero, List.set_cons_succ])
      refine wpAnyH_take (i := 5) (oi := Oper.mk (some 106) _ _ _ _ _) (v := ?_) rfl (by decide +kernel) (by decide +kernel) (by decide +kernel) (fun _ _ _ h => h) (Or.inl ⟨by rfl, ?_⟩) (by assumption) ?_
      rotate_left
      · (intro w hSw; (try dsimp only at hSw); go_simp <;> (try with_reducible rfl))
      (try simp only [Act.put, List.setIfInBounds_toArray, List.set_cons_zero, List.set_cons_succ])
      refine wpAnyH_take (i := 6) (oi := Oper.mk (some 107) _ _ _ _ _) (v := ?_) rfl (by decide +kernel) (by decide +kernel) (by decide +kernel) (fun _ _ _ h => h) (Or.inl ⟨by rfl, ?_⟩) (by assumption) ?_
      rotate_left
      · (intro w hSw; (try dsimp only at hSw); go_simp <;> (try with_reducible rfl))
      (try simp only [Act.put, List.setIfInBounds_toArray, List.set_cons_zero, List.set_cons_succ])
      refine wpAnyH_ready (rs := [1, 7]) (by decide +kernel) (by simp) ?_
      refine AllReadyH.cons (o := Oper.mk (some 102) _ _ _ _ _) rfl (fun K hK => ?_) (AllReadyH.cons (o := Oper.mk (some 108) _ _ _ _ _) rfl (fun K hK => ?_) AllReadyH.nil)
      · go_simp
        clear hHeld
        refine hK.out _ _ (by (try dsimp only); exact KS.out _ HI.out.drew) (fun hHeld => ?_)
        clear hK K
        (try simp only [Act.put, List.setIfInBounds_toArray, List.set_cons_zero, List.set_cons_succ])
        refine wpAnyH_ready (rs := [7]) (by decide +kernel) (by simp) ?_
        refine AllReadyH.cons (o := Oper.mk (some 108) _ _ _ _ _) rfl (fun K hK => ?_) AllReadyH.nil
        go_simp
        clear hHeld
        refine hK.out _ _ (by (try dsimp only); exact KS.out _ (HI.out.drew.alloc HI.out.size _)) (fun hHeld => ?_)
        clear hK K
        (try simp only [Act.put, List.setIfInBounds_toArray, List.set_cons_zero, List.set_cons_succ])
        refine wpAnyH_ready (rs := [8]) (by decide +kernel) (by simp) ?_
        refine AllReadyH.cons (o := Oper.mk (some 109) _ _ _ _ _) rfl (fun K hK => ?_) AllReadyH.nil
        (have hA6 : Below wr.heap.size wr (wr.drew.alloc (.cells #[.slice (some ⟨gq, 0, none⟩) 2 eq, .bool false, .slice ao la ca] 56)) := ((Below.refl _ _).drew).alloc (Nat.le_refl _) _; have hb6 := bnext HI.out hA6; refine wp_append_own _ _ _ 23 rfl wr.heap.size 56 i0 _ 3 56 Tryz.underlying23 hi hz0 hz1 hz2 rfl (by decide) _ 0 [] rfl (World.ownsRow_nil _ _ _ _) ⟨wr.heap.size, 0, none⟩ 1 1 [.slice (some ⟨gq, 0, none⟩) 2 eq, .bool false, .slice ao la ca] rfl rfl (World.news_of_block (cs := #[.slice (some ⟨gq, 0, none⟩) 2 eq, .bool false, .slice ao la ca]) (t := 56) (fr := (0, 0)) (heap_alloc_new wr.drew _)) (by simp [Value.oneCell']) h63.out (by decide) hA6.size ?_; intro v7 w7 hown7 hgrow hnil; have hb7 : Below wr.heap.size wr w7 := hA6.trans ((grown_below hgrow).mono hA6.size); obtain ⟨sN, kN, hv7, hsN, t0, t1, t2⟩ := term_of_own hown7; subst hv7; have H7 : Hid (Below W.heap.size W w7 ∧ wr.heap.size ≤ sN ∧ TermV w7 (.slice (some ⟨sN, 0, none⟩) 1 kN) a b ∧ w7.cell? ⟨sN, 0, none⟩ = some (.slice (some ⟨gq, 0, none⟩) 2 eq)) := ⟨bnext HI.out hb7, hsN, ⟨sN, kN, gq, eq, ao, la, ca, rfl, HQ.out.2, (bnext HI.out hb7).cell (p := ⟨gq, 0, none⟩) (cell_lt HQ.out.1.1) |>.trans HQ.out.1.1, (bnext HI.out hb7).cell (p := ⟨gq, 1, none⟩) (cell_lt HQ.out.1.2.1) |>.trans HQ.out.1.2.1, t0, t1, t2, HQ.out.1.2.2.later (bnext HI.out hb7)⟩, t0⟩; clear hsN t0 t1 t2 hb7 hown7 hgrow hnil; obtain ⟨p0, p1, pf⟩ := K5.out _ H7.out.1)
        clear hHeld
        refine hK.out _ _ (by (try dsimp only); exact KS.out _ H7.out.1) (fun hHeld => ?_)
        clear hK K
        (try simp only [Act.put, List.setIfInBounds_toArray, List.set_cons_zero, List.set_cons_succ])
        refine wpAnyH_take (i := 9) (oi := Oper.mk (some 110) _ _ _ _ _) (v := ?_) rfl (by decide +kernel) (by decide +kernel) (by decide +kernel) (fun _ _ _ h => h) (Or.inl ⟨by rfl, ?_⟩) (by assumption) ?_
        rotate_left
        · (intro w hSw; (try dsimp only at hSw); go_simp <;> (try with_reducible rfl))
        (try simp only [Act.put, List.setIfInBounds_toArray, List.set_cons_zero, List.set_cons_succ])
        refine wpAnyH_ready (rs := [10]) (by decide +kernel) (by simp) ?_
        refine AllReadyH.cons (o := Oper.mk none _ _ _ _ _) rfl (fun K hK => ?_) AllReadyH.nil
        go_simp
        clear hHeld
        refine hK.out _ _ (by (try dsimp only); exact K2.out _ _ (KS.out _ H7.out.1)) (fun hHeld => ?_)
        clear hK K
        (try simp only [Act.put, List.setIfInBounds_toArray, List.set_cons_zero, List.set_cons_succ])
        refine wpAnyH_done (by decide +kernel) ?_ _
        refine NoPanic.normal ?_
        clear hHeld
        go_wp2
        go_roundw
        case rel =>
          obtain ⟨hX1, hX2, hX3, hX4⟩ := HX.out w7 H7.out.1
          have hsN := H7.out.2.1
          have hwr := HI.out.size
          have hWs := HB.out.2
          have hgl := HLT.out
          refine Or.inr ⟨rfl, by go_num, sN, kN, H7.out.2.2.1.store (fun s c9 g9 ec e1 e2 => ?_) p1 (fun z e => by cases e), fun s c9 g9 ec e1 e2 => ?_, below_set (bnext HB.out.1 H7.out.1) (by omega), hX1.off (ws := [.slice (some ⟨sN, 0, none⟩) 1 kN]) (by omega) 1, hX2.off (ws := [.slice (some ⟨sN, 0, none⟩) 1 kN]) (by omega) 1, hX3.off (ws := [.slice (some ⟨sN, 0, none⟩) 1 kN]) (by omega) 1, hX4.set1 (j := 1) (v := .slice (some ⟨sN, 0, none⟩) 1 kN) rfl⟩
          · cases e1
            rw [H7.out.2.2.2] at e2
            cases e2
            exact ⟨by omega, by omega⟩
          · cases e1
            rw [cell_off (by omega), H7.out.2.2.2] at e2
            cases e2
            exact ⟨by omega, rfl⟩
        case measure => simp [intOf]
      · go_simp
        clear hHeld
        refine hK.out _ _ (by (try dsimp only); exact KS.out _ (HI.out.drew.alloc HI.out.size _)) (fun hHeld => ?_)
        clear hK K
        (try simp only [Act.put, List.setIfInBounds_toArray, List.set_cons_zero, List.set_cons_succ])
        refine wpAnyH_ready (rs := [1]) (by decide +kernel) (by simp) ?_
        refine AllReadyH.cons (o := Oper.mk (some 102) _ _ _ _ _) rfl (fun K hK => ?_) AllReadyH.nil
        go_simp
        clear hHeld
        refine hK.out _ _ (by (try dsimp only); exact KS.out _ (HI.out.drew.alloc HI.out.size _)) (fun hHeld => ?_)
        clear hK K
        (try simp only [Act.put, List.setIfInBounds_toArray, List.set_cons_zero, List.set_cons_succ])
        refine wpAnyH_ready (rs := [8]) (by decide +kernel) (by simp) ?_
        refine AllReadyH.cons (o := Oper.mk (some 109) _ _ _ _ _) rfl (fun K hK => ?_) AllReadyH.nil
        (have hA6 : Below wr.heap.size wr (wr.drew.alloc (.cells #[.slice (some ⟨gq, 0, none⟩) 2 eq, .bool false, .slice ao la ca] 56)) := ((Below.refl _ _).drew).alloc (Nat.le_refl _) _; have hb6 := bnext HI.out hA6; refine wp_append_own _ _ _ 23 rfl wr.heap.size 56 i0 _ 3 56 Tryz.underlying23 hi hz0 hz1 hz2 rfl (by decide) _ 0 [] rfl (World.ownsRow_nil _ _ _ _) ⟨wr.heap.size, 0, none⟩ 1 1 [.slice (some ⟨gq, 0, none⟩) 2 eq, .bool false, .slice ao la ca] rfl rfl (World.news_of_block (cs := #[.slice (some ⟨gq, 0, none⟩) 2 eq, .bool false, .slice ao la ca]) (t := 56) (fr := (0, 0)) (heap_alloc_new wr.drew _)) (by simp [Value.oneCell']) h63.out (by decide) hA6.size ?_; intro v7 w7 hown7 hgrow hnil; have hb7 : Below wr.heap.size wr w7 := hA6.trans ((grown_below hgrow).mono hA6.size); obtain ⟨sN, kN, hv7, hsN, t0, t1, t2⟩ := term_of_own hown7; subst hv7; have H7 : Hid (Below W.heap.size W w7 ∧ wr.heap.size ≤ sN ∧ TermV w7 (.slice (some ⟨sN, 0, none⟩) 1 kN) a b ∧ w7.cell? ⟨sN, 0, none⟩ = some (.slice (some ⟨gq, 0, none⟩) 2 eq)) := ⟨bnext HI.out hb7, hsN, ⟨sN, kN, gq, eq, ao, la, ca, rfl, HQ.out.2, (bnext HI.out hb7).cell (p := ⟨gq, 0, none⟩) (cell_lt HQ.out.1.1) |>.trans HQ.out.1.1, (bnext HI.out hb7).cell (p := ⟨gq, 1, none⟩) (cell_lt HQ.out.1.2.1) |>.trans HQ.out.1.2.1, t0, t1, t2, HQ.out.1.2.2.later (bnext HI.out hb7)⟩, t0⟩; clear hsN t0 t1 t2 hb7 hown7 hgrow hnil; obtain ⟨p0, p1, pf⟩ := K5.out _ H7.out.1)
        clear hHeld
        refine hK.out _ _ (by (try dsimp only); exact KS.out _ H7.out.1) (fun hHeld => ?_)
        clear hK K
        (try simp only [Act.put, List.setIfInBounds_toArray, List.set_cons_zero, List.set_cons_succ])
        refine wpAnyH_take (i := 9) (oi := Oper.mk (some 110) _ _ _ _ _) (v := ?_) rfl (by decide +kernel) (by decide +kernel) (by decide +kernel) (fun _ _ _ h => h) (Or.inl ⟨by rfl, ?_⟩) (by assumption) ?_
        rotate_left
        · (intro w hSw; (try dsimp only at hSw); go_simp <;> (try with_reducible rfl))
        (try simp only [Act.put, List.setIfInBounds_toArray, List.set_cons_zero, List.set_cons_succ])
        refine wpAnyH_ready (rs := [10]) (by decide +kernel) (by simp) ?_
        refine AllReadyH.cons (o := Oper.mk none _ _ _ _ _) rfl (fun K hK => ?_) AllReadyH.nil
        go_simp
        clear hHeld
        refine hK.out _ _ (by (try dsimp only); exact K2.out _ _ (KS.out _ H7.out.1)) (fun hHeld => ?_)
        clear hK K
        (try simp only [Act.put, List.setIfInBounds_toArray, List.set_cons_zero, List.set_cons_succ])
        refine wpAnyH_done (by decide +kernel) ?_ _
        refine NoPanic.normal ?_
        clear hHeld
        go_wp2
        go_roundw
        case rel =>
          obtain ⟨hX1, hX2, hX3, hX4⟩ := HX.out w7 H7.out.1
          have hsN := H7.out.2.1
          have hwr := HI.out.size
          have hWs := HB.out.2
          have hgl := HLT.out
          refine Or.inr ⟨rfl, by go_num, sN, kN, H7.out.2.2.1.store (fun s c9 g9 ec e1 e2 => ?_) p1 (fun z e => by cases e), fun s c9 g9 ec e1 e2 => ?_, below_set (bnext HB.out.1 H7.out.1) (by omega), hX1.off (ws := [.slice (some ⟨sN, 0, none⟩) 1 kN]) (by omega) 1, hX2.off (ws := [.slice (some ⟨sN, 0, none⟩) 1 kN]) (by omega) 1, hX3.off (ws := [.slice (some ⟨sN, 0, none⟩) 1 kN]) (by omega) 1, hX4.set1 (j := 1) (v := .slice (some ⟨sN, 0, none⟩) 1 kN) rfl⟩
          · cases e1
            rw [H7.out.2.2.2] at e2
            cases e2
            exact ⟨by omega, by omega⟩
          · cases e1
            rw [cell_off (by omega), H7.out.2.2.2] at e2
            cases e2
            exact ⟨by omega, rfl⟩
        case measure => simp [intOf]
    · obtain ⟨hT, hap, hbel, x2, x3, x4, x5⟩ := HS.out
      have x21 := x2.1 1 _ rfl
      have x31 := x3.1 1 _ rfl
      have x50 := x5.1 0 _ rfl
      have x51 := x5.1 1 _ rfl
      have x40 := x4.1 0 _ rfl
      have x41 := x4.1 1 _ rfl
      have x4f := x4.2
      have HN : Hid (TermV wr (.slice (some ⟨sv, 0, none⟩) 1 kv) a b ∧ (∀ s cp g ec, Value.slice (some ⟨sv, 0, none⟩) 1 kv = .slice (some ⟨s, 0, none⟩) 1 cp → wr.cell? ⟨s, 0, none⟩ = some (.slice (some ⟨g, 0, none⟩) 2 ec) → w.heap.size + 4 ≤ s ∧ g = gq) ∧ Below w.heap.size w wr) := ⟨hT, hap, hbel⟩
      clear hT hap hbel x2 x3 x4 x5 HS
      go_wp2
      have hT2 : TermV (wr.setCell ⟨w.heap.size + 1 + 1, 0, none⟩ (.int .i64 2)) (.slice (some ⟨sv, 0, none⟩) 1 kv) a b := HN.out.1.store (fun s cp g ec e1 e2 => by have := HN.out.2.1 s cp g ec e1 e2; have := HLT.out; omega) x40 (fun z e => by cases e)
      have q1 : (wr.setCell ⟨w.heap.size + 1 + 1, 0, none⟩ (.int .i64 2)).cell? ⟨w.heap.size + 1 + 1, 1, none⟩ = some (.slice none 0 0) := by simp [go_sem, x40, x41]
      have hT3 : TermV ((wr.setCell ⟨w.heap.size + 1 + 1, 0, none⟩ (.int .i64 2)).setCell ⟨w.heap.size + 1 + 1, 1, none⟩ (.slice (some ⟨sv, 0, none⟩) 1 kv)) (.slice (some ⟨sv, 0, none⟩) 1 kv) a b := by
        refine hT2.store (fun s cp g ec e1 e2 => ?_) q1 (fun z e => by cases e)
        by_cases hs : s = w.heap.size + 1 + 1
        · obtain ⟨s9, cp9, g9, ec9, ao9, la9, ca9, h1, h2, c0, c1, s0, s1, s2, hr⟩ := HN.out.1
          cases h1
          cases e1
          exact absurd (HN.out.2.1 _ _ _ _ rfl s0).1 (by omega)
        · rw [cell_off hs] at e2
          have := HN.out.2.1 s cp g ec e1 e2
          have := HLT.out
          exact ⟨by omega, by omega⟩
      have hF : Far B ((wr.setCell ⟨w.heap.size + 1 + 1, 0, none⟩ (.int .i64 2)).setCell ⟨w.heap.size + 1 + 1, 1, none⟩ (.slice (some ⟨sv, 0, none⟩) 1 kv)) (.slice (some ⟨sv, 0, none⟩) 1 kv) := fun s cp g ec e1 e2 => by
        obtain ⟨s9, cp9, g9, ec9, ao9, la9, ca9, h1, h2, c0, c1, s0, s1, s2, hr⟩ := HN.out.1
        cases h1
        cases e1
        have h9 := HN.out.2.1 _ _ _ _ rfl s0
        rw [cell_off (by omega), cell_off (by omega), s0] at e2
        cases e2
        have := HFB.out
        exact ⟨by omega, by omega⟩
      exact bodyPost_ret (v := .agg #[.int .i64 2, .slice (some ⟨sv, 0, none⟩) 1 kv]) (by simp [results, Tryz.results35, go_sem, x40, x41, x4f]) rfl
        ⟨_, rfl, hT3, hF, below_store HN.out.2.2 (by omega) _ _⟩
end Go.Proofs.YtiemgadnnnhmkaaGreat
/-
  NX: walks: the page's Times of two polynomials of one term each. (gen/nx.py)
-/
namespace Go.Proofs.YtiemgadnnnhmkaaGreat
open Go.RowKit
set_option linter.unusedVariables false
set_option linter.unusedSimpArgs false
theorem Far.mono {B C : Nat} {W : World} {v : Value} (h : Far B W v) (hC : C ≤ B) : Far C W v := fun s cp g ec e1 e2 => by
  have := h s cp g ec e1 e2
  exact ⟨by omega, by omega⟩
theorem TermV.storeF {B : Nat} {W : World} {v x y : Value} {a b : Int} {r k : Nat} (h : TermV W v a b) (hF : Far B W v) (hr : r < B) (hx : W.cell? ⟨r, k, none⟩ = some x) (hn : ∀ z, x ≠ .int .u64 z) : TermV (W.setCell ⟨r, k, none⟩ y) v a b ∧ Far B (W.setCell ⟨r, k, none⟩ y) v := by
  refine ⟨h.store (fun s cp g ec e1 e2 => by have := hF s cp g ec e1 e2; omega) hx hn, fun s cp g ec e1 e2 => ?_⟩
  obtain ⟨s9, cp9, g9, ec9, ao9, la9, ca9, h1, h2, c0, c1, s0, s1, s2, hr9⟩ := h
  have h9 := hF _ _ _ _ h1 s0
  rw [h1] at e1
  cases e1
  rw [cell_off (by omega)] at e2
  exact hF _ _ _ _ h1 e2
set_option maxRecDepth 100000 in
set_option maxHeartbeats 4000000 in
theorem mtimes_one (a b c d : Int) (tp tq : Option Addr) (tc qc : Nat) (w : World) (h : TermsAt w tp 1 tc [([a, b], false, [1])]) (hq : TermsAt w tq 1 qc [([c, d], false, [1])]) (ha : 0 ≤ a ∧ a ≤ 500) (hb : 0 ≤ b ∧ b ≤ 500) (hc : 0 ≤ c ∧ c ≤ 500) (hd : 0 ≤ d ∧ d ≤ 500) :
    Calls Tryz.prog 19 #[.agg #[.int .i64 2, .slice tp 1 tc], .agg #[.int .i64 2, .slice tq 1 qc]] w fun e w' => ∃ v, e = .returned (.agg #[.int .i64 2, v]) ∧ TermV w' v (a + c) (b + d) ∧ Below w.heap.size w w' := by
  obtain ⟨b9, o9, fo, fl, fc, n1, bo, lb, cb, rfl, hb9, ⟨a0, a1, a2⟩, hn1, he1, hr1, hw1, hl1⟩ := hq.get (k := 0) (by simp)
  obtain rfl : n1 = false := hn1
  replace he1 : RowAt w .i64 fo fl fc [c, d] := he1.row
  replace hr1 : RowAt w .u64 bo lb cb [1] := hr1
  have hfl : fl = 2 := he1.hlen
  subst hfl
  simp only [Nat.zero_mul, Nat.add_zero] at a0 a1 a2
  obtain ⟨W, hW⟩ : ∃ W, W = (((w.alloc (.cells #[.int .i64 2, .slice tp 1 tc] 25)).alloc (.cells #[.int .i64 2, .slice (some ⟨b9, o9, none⟩) 1 qc] 25)).alloc (.cells #[.int .i64 0, .slice none 0 0] 25)).alloc (.cells #[.int .i64 2, .slice none 0 0] 25) := ⟨_, rfl⟩
  have h4 := fourBx (A := [.int .i64 2, .slice tp 1 tc]) (B := [.int .i64 2, .slice (some ⟨b9, o9, none⟩) 1 qc]) (C := [.int .i64 0, .slice none 0 0]) (D := [.int .i64 2, .slice none 0 0]) hW (by simp) (by simp) (by simp) (by simp)
  have HB : Hid (Below w.heap.size w W ∧ W.heap.size = w.heap.size + 4) := ⟨h4.1, h4.2.1⟩
  have HX : Hid (∀ w', Below W.heap.size W w' → Bx w' w.heap.size [.int .i64 2, .slice tp 1 tc] ∧ Bx w' (w.heap.size + 1) [.int .i64 2, .slice (some ⟨b9, o9, none⟩) 1 qc] ∧ Bx w' (w.heap.size + 1 + 1) [.int .i64 0, .slice none 0 0] ∧ Bx w' (w.heap.size + 1 + 1 + 1) [.int .i64 2, .slice none 0 0]) := fun w' hb => ⟨h4.2.2.1.later hb h4.2.2.1.lt, h4.2.2.2.1.later hb h4.2.2.2.1.lt, h4.2.2.2.2.1.later hb h4.2.2.2.2.1.lt, h4.2.2.2.2.2.later hb h4.2.2.2.2.2.lt⟩
  have KS : Hid (∀ w', Below W.heap.size W w' → w'.cell? ⟨w.heap.size, 0, none⟩ = some (.int .i64 2) ∧ w'.cell? ⟨w.heap.size, 1, none⟩ = some (.slice tp 1 tc) ∧ w'.cell? ⟨w.heap.size + 1, 1, none⟩ = some (.slice (some ⟨b9, o9, none⟩) 1 qc) ∧ w'.cell? ⟨b9, o9, none⟩ = some (.slice fo 2 fc) ∧ w'.cell? ⟨b9, o9 + 1, none⟩ = some (.bool false) ∧ w'.cell? ⟨b9, o9 + 2, none⟩ = some (.slice bo lb cb)) := fun w' hb => by
    have hb' := bnext h4.1 hb
    obtain ⟨x1, x2, _, _⟩ := HX.out w' hb
    exact ⟨x1.1 0 _ rfl, x1.1 1 _ rfl, x2.1 1 _ rfl, (hb'.cell (p := ⟨b9, o9, none⟩) (cell_lt a0)).trans a0, (hb'.cell (p := ⟨b9, o9 + 1, none⟩) (cell_lt a1)).trans a1, (hb'.cell (p := ⟨b9, o9 + 2, none⟩) (cell_lt a2)).trans a2⟩
  have K5 : Hid (∀ w', Below W.heap.size W w' → w'.cell? ⟨w.heap.size + 1 + 1 + 1, 0, none⟩ = some (.int .i64 2) ∧ w'.cell? ⟨w.heap.size + 1 + 1 + 1, 1, none⟩ = some (.slice none 0 0) ∧ ∀ j, w'.frozen? ⟨w.heap.size + 1 + 1 + 1, j, none⟩ = false) := fun w' hb => by
    obtain ⟨_, _, _, x⟩ := HX.out w' hb
    exact ⟨x.1 0 _ rfl, x.1 1 _ rfl, x.2⟩
  have HLT : Hid (b9 < w.heap.size) := hb9
  have K2 : Hid (∀ (w' : World) (i : Nat) (x : Value), (w'.cell? ⟨w.heap.size, 0, none⟩ = some (.int .i64 2) ∧ w'.cell? ⟨w.heap.size, 1, none⟩ = some (.slice tp 1 tc) ∧ w'.cell? ⟨w.heap.size + 1, 1, none⟩ = some (.slice (some ⟨b9, o9, none⟩) 1 qc) ∧ w'.cell? ⟨b9, o9, none⟩ = some (.slice fo 2 fc) ∧ w'.cell? ⟨b9, o9 + 1, none⟩ = some (.bool false) ∧ w'.cell? ⟨b9, o9 + 2, none⟩ = some (.slice bo lb cb)) → (w'.setCell ⟨w.heap.size + 1 + 1 + 1, i, none⟩ x).cell? ⟨w.heap.size, 0, none⟩ = some (.int .i64 2) ∧ (w'.setCell ⟨w.heap.size + 1 + 1 + 1, i, none⟩ x).cell? ⟨w.heap.size, 1, none⟩ = some (.slice tp 1 tc) ∧ (w'.setCell ⟨w.heap.size + 1 + 1 + 1, i, none⟩ x).cell? ⟨w.heap.size + 1, 1, none⟩ = some (.slice (some ⟨b9, o9, none⟩) 1 qc) ∧ (w'.setCell ⟨w.heap.size + 1 + 1 + 1, i, none⟩ x).cell? ⟨b9, o9, none⟩ = some (.slice fo 2 fc) ∧ (w'.setCell ⟨w.heap.size + 1 + 1 + 1, i, none⟩ x).cell? ⟨b9, o9 + 1, none⟩ = some (.bool false) ∧ (w'.setCell ⟨w.heap.size + 1 + 1 + 1, i, none⟩ x).cell? ⟨b9, o9 + 2, none⟩ = some (.slice bo lb cb)) := fun w' i x h => by
    have := HLT.out
    exact ⟨by rw [cell_off (by omega)]; exact h.1, by rw [cell_off (by omega)]; exact h.2.1, by rw [cell_off (by omega)]; exact h.2.2.1, by rw [cell_off (by omega)]; exact h.2.2.2.1, by rw [cell_off (by omega)]; exact h.2.2.2.2.1, by rw [cell_off (by omega)]; exact h.2.2.2.2.2⟩
  have HP : Hid (TermsAt W tp 1 tc [([a, b], false, [1])] ∧ RowAt W .i64 fo 2 fc [c, d] ∧ RowAt W .u64 bo lb cb [1]) := ⟨h.later h4.1, he1.later h4.1, hr1.later h4.1⟩
  have HA : Hid ((0 ≤ a ∧ a ≤ 500) ∧ (0 ≤ b ∧ b ≤ 500) ∧ (0 ≤ c ∧ c ≤ 500) ∧ (0 ≤ d ∧ d ≤ 500)) := ⟨ha, hb, hc, hd⟩
  have HWE : Hid (W = (((w.alloc (.cells #[.int .i64 2, .slice tp 1 tc] 25)).alloc (.cells #[.int .i64 2, .slice (some ⟨b9, o9, none⟩) 1 qc] 25)).alloc (.cells #[.int .i64 0, .slice none 0 0] 25)).alloc (.cells #[.int .i64 2, .slice none 0 0] 25)) := hW
  clear hW h4 h hq he1 hr1 a0 a1 a2 hb9 ha hb hc hd hw1 hl1
  go_enter Tryz.func19, Tryz.ntmps19
  go_wp2
  rw [← HWE.out]
  go_loopw [6] (fun i wr => (i = .int .i64 0 ∧ Hid (Below W.heap.size W wr)) ∨ (i = .int .i64 1 ∧ ∃ tv kv, Hid (TermV wr (.slice tv 1 kv) (a + c) (b + d) ∧ Far W.heap.size wr (.slice tv 1 kv) ∧ Below w.heap.size w wr ∧ Bx wr (w.heap.size + 1) [.int .i64 2, .slice (some ⟨b9, o9, none⟩) 1 qc] ∧ Bx wr (w.heap.size + 1 + 1) [.int .i64 0, .slice none 0 0] ∧ Bx wr (w.heap.size + 1 + 1 + 1) [.int .i64 2, .slice tv 1 kv]))) (fun i _ => 1 - (intOf i).toNat)
  case atStart => exact Or.inl ⟨rfl, Below.refl _ _⟩
  case round =>
    rcases hrel with ⟨rfl, HI⟩ | ⟨rfl, tv, kv, HS⟩
    · obtain ⟨_, x2, _, _⟩ := HX.out wr HI.out
      have x21 := x2.1 1 _ rfl
      obtain ⟨v0, v1, vf⟩ := K5.out wr HI.out
      clear x2
      go_wp2
      refine wp_region_noPanic ?_
      refine wp_region_held_drew (S := fun w' => (w'.cell? ⟨w.heap.size, 0, none⟩ = some (.int .i64 2) ∧ w'.cell? ⟨w.heap.size, 1, none⟩ = some (.slice tp 1 tc) ∧ w'.cell? ⟨w.heap.size + 1, 1, none⟩ = some (.slice (some ⟨b9, o9, none⟩) 1 qc) ∧ w'.cell? ⟨b9, o9, none⟩ = some (.slice fo 2 fc) ∧ w'.cell? ⟨b9, o9 + 1, none⟩ = some (.bool false) ∧ w'.cell? ⟨b9, o9 + 2, none⟩ = some (.slice bo lb cb))) (by kernel_rfl) (by (try dsimp only); exact KS.out _ HI.out.drew) (fun hHeld => ?_)
      refine wpAnyH_take (i := 1) (oi := Oper.mk (some 18) _ _ _ _ _) (v := ?_) rfl (by decide +kernel) (by decide +kernel) (by decide +kernel) (fun _ _ _ h => h) (Or.inl ⟨by rfl, ?_⟩) (by assumption) ?_
      rotate_left
      · (intro w hSw; (try dsimp only at hSw); go_simp <;> (try with_reducible rfl))
      (try simp only [Act.put, List.setIfInBounds_toArray, List.set_cons_zero, List.set_cons_succ])
      refine wpAnyH_take (i := 2) (oi := Oper.mk (some 19) _ _ _ _ _) (v := ?_) rfl (by decide +kernel) (by decide +kernel) (by decide +kernel) (fun _ _ _ h => h) (Or.inl ⟨by rfl, ?_⟩) (by assumption) ?_
      rotate_left
      · (intro w hSw; (try dsimp only at hSw); go_simp <;> (try with_reducible rfl))
      (try simp only [Act.put, List.setIfInBounds_toArray, List.set_cons_zero, List.set_cons_succ])
      refine wpAnyH_take (i := 3) (oi := Oper.mk (some 20) _ _ _ _ _) (v := ?_) rfl (by decide +kernel) (by decide +kernel) (by decide +kernel) (fun _ _ _ h => h) (Or.inl ⟨by rfl, ?_⟩) (by assumption) ?_
      rotate_left
      · (intro w hSw; (try dsimp only at hSw); go_simp <;> (try with_reducible rfl))
      (try simp only [Act.put, List.setIfInBounds_toArray, List.set_cons_zero, List.set_cons_succ])
      refine wpAnyH_take (i := 4) (oi := Oper.mk (some 21) _ _ _ _ _) (v := ?_) rfl (by decide +kernel) (by decide +kernel) (by decide +kernel) (fun _ _ _ h => h) (Or.inl ⟨by rfl, ?_⟩) (by assumption) ?_
      rotate_left
      · (intro w hSw; (try dsimp only at hSw); go_simp <;> (try with_reducible rfl))
      (try simp only [Act.put, List.setIfInBounds_toArray, List.set_cons_zero, List.set_cons_succ])
      refine wpAnyH_take (i := 5) (oi := Oper.mk (some 22) _ _ _ _ _) (v := ?_) rfl (by decide +kernel) (by decide +kernel) (by decide +kernel) (fun _ _ _ h => h) (Or.inl ⟨by rfl, ?_⟩) (by assumption) ?_
      rotate_left
      · (intro w hSw; (try dsimp only at hSw); go_simp <;> (try with_reducible rfl))
      (try simp only [Act.put, List.setIfInBounds_toArray, List.set_cons_zero, List.set_cons_succ])
      refine wpAnyH_take (i := 6) (oi := Oper.mk (some 23) _ _ _ _ _) (v := ?_) rfl (by decide +kernel) (by decide +kernel) (by decide +kernel) (fun _ _ _ h => h) (Or.inl ⟨by rfl, ?_⟩) (by assumption) ?_
      rotate_left
      · (intro w hSw; (try dsimp only at hSw); go_simp <;> (try with_reducible rfl))
      (try simp only [Act.put, List.setIfInBounds_toArray, List.set_cons_zero, List.set_cons_succ])
      refine wpAnyH_ready (rs := [0, 7]) (by decide +kernel) (by simp) ?_
      refine AllReadyH.cons (o := Oper.mk (some 17) _ _ _ _ _) rfl (fun K hK => ?_) (AllReadyH.cons (o := Oper.mk (some 24) _ _ _ _ _) rfl (fun K hK => ?_) AllReadyH.nil)
      · go_simp
        clear hHeld
        refine hK.out _ _ (by (try dsimp only); exact KS.out _ HI.out.drew) (fun hHeld => ?_)
        clear hK K
        (try simp only [Act.put, List.setIfInBounds_toArray, List.set_cons_zero, List.set_cons_succ])
        refine wpAnyH_ready (rs := [7]) (by decide +kernel) (by simp) ?_
        refine AllReadyH.cons (o := Oper.mk (some 24) _ _ _ _ _) rfl (fun K hK => ?_) AllReadyH.nil
        go_simp
        (go_at_call 36; refine (by_one a b c d tp fo bo tc 2 fc lb cb _ (HP.out.1.later HI.out.drew) (HP.out.2.1.later HI.out.drew) (HP.out.2.2.later HI.out.drew) HA.out.1 HA.out.2.1 HA.out.2.2.1 HA.out.2.2.2).mono ?_; rintro e w6 ⟨v6, rfl, hT6, hF6, hb6⟩; have H6 : Hid (Below W.heap.size W w6 ∧ TermV w6 v6 (a + c) (b + d) ∧ Far W.heap.size w6 v6) := ⟨bnext HI.out.drew hb6, hT6, hF6.mono (by have := HI.out.size; simpa using this)⟩; clear hT6 hF6 hb6; obtain ⟨p0, p1, pf⟩ := K5.out _ H6.out.1)
        (try go_wp2_with fail)
        clear hHeld
        refine hK.out _ _ (by (try dsimp only); exact KS.out _ H6.out.1) (fun hHeld => ?_)
        clear hK K
        (try simp only [Act.put, List.setIfInBounds_toArray, List.set_cons_zero, List.set_cons_succ])
        refine wpAnyH_ready (rs := [8]) (by decide +kernel) (by simp) ?_
        refine AllReadyH.cons (o := Oper.mk (some 25) _ _ _ _ _) rfl (fun K hK => ?_) AllReadyH.nil
        go_simp
        (go_at_call 35; refine (mplus_one (a + c) (b + d) v6 _ W.heap.size H6.out.2.1 H6.out.2.2 H6.out.1.size).mono ?_; rintro e w8 ⟨v8, rfl, hT8, hF8, hb8⟩; obtain ⟨t8, k8, hv8, _⟩ := hT8.terms; subst hv8; have H8 : Hid (Below W.heap.size W w8 ∧ TermV w8 (.slice t8 1 k8) (a + c) (b + d) ∧ Far W.heap.size w8 (.slice t8 1 k8)) := ⟨bnext H6.out.1 hb8, hT8, hF8⟩; clear hT8 hF8 hb8; obtain ⟨q0, q1, qf⟩ := K5.out _ H8.out.1)
        (try go_wp2_with fail)
        clear hHeld
        refine hK.out _ _ (by (try dsimp only); exact KS.out _ H8.out.1) (fun hHeld => ?_)
        clear hK K
        (try simp only [Act.put, List.setIfInBounds_toArray, List.set_cons_zero, List.set_cons_succ])
        refine wpAnyH_ready (rs := [9]) (by decide +kernel) (by simp) ?_
        refine AllReadyH.cons (o := Oper.mk none _ _ _ _ _) rfl (fun K hK => ?_) AllReadyH.nil
        go_simp
        clear hHeld
        refine hK.out _ _ (by (try dsimp only); exact K2.out _ _ _ (K2.out _ _ _ (KS.out _ H8.out.1))) (fun hHeld => ?_)
        clear hK K
        (try simp only [Act.put, List.setIfInBounds_toArray, List.set_cons_zero, List.set_cons_succ])
        refine wpAnyH_done (by decide +kernel) ?_ _
        refine NoPanic.normal ?_
        clear hHeld
        go_wp2
        go_roundw
        case rel =>
          obtain ⟨hX1, hX2, hX3, hX4⟩ := HX.out w8 H8.out.1
          have hWs := HB.out.2
          have q9 : (w8.setCell ⟨w.heap.size + 1 + 1 + 1, 0, none⟩ (.int .i64 2)).cell? ⟨w.heap.size + 1 + 1 + 1, 1, none⟩ = some (.slice none 0 0) := by simp [go_sem, q0, q1]
          have h1 := H8.out.2.1.storeF H8.out.2.2 (r := w.heap.size + 1 + 1 + 1) (k := 0) (y := .int .i64 2) (by omega) q0 (fun z e => by cases e)
          have h2 := h1.1.storeF h1.2 (r := w.heap.size + 1 + 1 + 1) (k := 1) (y := .slice t8 1 k8) (by omega) q9 (fun z e => by cases e)
          exact Or.inr ⟨by go_num, t8, k8, h2.1, h2.2, below_store (bnext HB.out.1 H8.out.1) (by omega) _ _, (hX2.off (ws := [.int .i64 2]) (by omega) 0).off (ws := [.slice t8 1 k8]) (by omega) 1, (hX3.off (ws := [.int .i64 2]) (by omega) 0).off (ws := [.slice t8 1 k8]) (by omega) 1, (hX4.set1 (j := 0) (v := .int .i64 2) rfl).set1 (j := 1) (v := .slice t8 1 k8) rfl⟩
        case measure => simp [intOf]
      · go_simp
        (go_at_call 36; refine (by_one a b c d tp fo bo tc 2 fc lb cb _ (HP.out.1.later HI.out.drew) (HP.out.2.1.later HI.out.drew) (HP.out.2.2.later HI.out.drew) HA.out.1 HA.out.2.1 HA.out.2.2.1 HA.out.2.2.2).mono ?_; rintro e w6 ⟨v6, rfl, hT6, hF6, hb6⟩; have H6 : Hid (Below W.heap.size W w6 ∧ TermV w6 v6 (a + c) (b + d) ∧ Far W.heap.size w6 v6) := ⟨bnext HI.out.drew hb6, hT6, hF6.mono (by have := HI.out.size; simpa using this)⟩; clear hT6 hF6 hb6; obtain ⟨p0, p1, pf⟩ := K5.out _ H6.out.1)
        (try go_wp2_with fail)
        clear hHeld
        refine hK.out _ _ (by (try dsimp only); exact KS.out _ H6.out.1) (fun hHeld => ?_)
        clear hK K
        (try simp only [Act.put, List.setIfInBounds_toArray, List.set_cons_zero, List.set_cons_succ])
        refine wpAnyH_ready (rs := [0]) (by decide +kernel) (by simp) ?_
        refine AllReadyH.cons (o := Oper.mk (some 17) _ _ _ _ _) rfl (fun K hK => ?_) AllReadyH.nil
        go_simp
        clear hHeld
        refine hK.out _ _ (by (try dsimp only); exact KS.out _ H6.out.1) (fun hHeld => ?_)
        clear hK K
        (try simp only [Act.put, List.setIfInBounds_toArray, List.set_cons_zero, List.set_cons_succ])
        refine wpAnyH_ready (rs := [8]) (by decide +kernel) (by simp) ?_
        refine AllReadyH.cons (o := Oper.mk (some 25) _ _ _ _ _) rfl (fun K hK => ?_) AllReadyH.nil
        go_simp
        (go_at_call 35; refine (mplus_one (a + c) (b + d) v6 _ W.heap.size H6.out.2.1 H6.out.2.2 H6.out.1.size).mono ?_; rintro e w8 ⟨v8, rfl, hT8, hF8, hb8⟩; obtain ⟨t8, k8, hv8, _⟩ := hT8.terms; subst hv8; have H8 : Hid (Below W.heap.size W w8 ∧ TermV w8 (.slice t8 1 k8) (a + c) (b + d) ∧ Far W.heap.size w8 (.slice t8 1 k8)) := ⟨bnext H6.out.1 hb8, hT8, hF8⟩; clear hT8 hF8 hb8; obtain ⟨q0, q1, qf⟩ := K5.out _ H8.out.1)
        (try go_wp2_with fail)
        clear hHeld
        refine hK.out _ _ (by (try dsimp only); exact KS.out _ H8.out.1) (fun hHeld => ?_)
        clear hK K
        (try simp only [Act.put, List.setIfInBounds_toArray, List.set_cons_zero, List.set_cons_succ])
        refine wpAnyH_ready (rs := [9]) (by decide +kernel) (by simp) ?_
        refine AllReadyH.cons (o := Oper.mk none _ _ _ _ _) rfl (fun K hK => ?_) AllReadyH.nil
        go_simp
        clear hHeld
        refine hK.out _ _ (by (try dsimp only); exact K2.out _ _ _ (K2.out _ _ _ (KS.out _ H8.out.1))) (fun hHeld => ?_)
        clear hK K
        (try simp only [Act.put, List.setIfInBounds_toArray, List.set_cons_zero, List.set_cons_succ])
        refine wpAnyH_done (by decide +kernel) ?_ _
        refine NoPanic.normal ?_
        clear hHeld
        go_wp2
        go_roundw
        case rel =>
          obtain ⟨hX1, hX2, hX3, hX4⟩ := HX.out w8 H8.out.1
          have hWs := HB.out.2
          have q9 : (w8.setCell ⟨w.heap.size + 1 + 1 + 1, 0, none⟩ (.int .i64 2)).cell? ⟨w.heap.size + 1 + 1 + 1, 1, none⟩ = some (.slice none 0 0) := by simp [go_sem, q0, q1]
          have h1 := H8.out.2.1.storeF H8.out.2.2 (r := w.heap.size + 1 + 1 + 1) (k := 0) (y := .int .i64 2) (by omega) q0 (fun z e => by cases e)
          have h2 := h1.1.storeF h1.2 (r := w.heap.size + 1 + 1 + 1) (k := 1) (y := .slice t8 1 k8) (by omega) q9 (fun z e => by cases e)
          exact Or.inr ⟨by go_num, t8, k8, h2.1, h2.2, below_store (bnext HB.out.1 H8.out.1) (by omega) _ _, (hX2.off (ws := [.int .i64 2]) (by omega) 0).off (ws := [.slice t8 1 k8]) (by omega) 1, (hX3.off (ws := [.int .i64 2]) (by omega) 0).off (ws := [.slice t8 1 k8]) (by omega) 1, (hX4.set1 (j := 0) (v := .int .i64 2) rfl).set1 (j := 1) (v := .slice t8 1 k8) rfl⟩
        case measure => simp [intOf]
    · obtain ⟨hT, hap, hbel, x3, x4, x5⟩ := HS.out
      have x31 := x3.1 1 _ rfl
      have x50 := x5.1 0 _ rfl
      have x51 := x5.1 1 _ rfl
      have x40 := x4.1 0 _ rfl
      have x41 := x4.1 1 _ rfl
      have x4f := x4.2
      have HN : Hid (TermV wr (.slice tv 1 kv) (a + c) (b + d) ∧ Far W.heap.size wr (.slice tv 1 kv) ∧ Below w.heap.size w wr) := ⟨hT, hap, hbel⟩
      clear hT hap hbel x3 x4 x5 HS
      go_wp2
      have hWs := HB.out.2
      have q1 : (wr.setCell ⟨w.heap.size + 1 + 1, 0, none⟩ (.int .i64 2)).cell? ⟨w.heap.size + 1 + 1, 1, none⟩ = some (.slice none 0 0) := by simp [go_sem, x40, x41]
      have h1 := HN.out.1.storeF HN.out.2.1 (r := w.heap.size + 1 + 1) (k := 0) (y := .int .i64 2) (by omega) x40 (fun z e => by cases e)
      have h2 := h1.1.storeF h1.2 (r := w.heap.size + 1 + 1) (k := 1) (y := .slice tv 1 kv) (by omega) q1 (fun z e => by cases e)
      exact bodyPost_ret (v := .agg #[.int .i64 2, .slice tv 1 kv]) (by simp [results, Tryz.results19, go_sem, x40, x41, x4f]) rfl
        ⟨_, rfl, h2.1, below_store HN.out.2.2 (by omega) _ _⟩
end Go.Proofs.YtiemgadnnnhmkaaGreat
/-
  NY: walks: the law's wakes tells true. (gen/ny.py)
-/
namespace Go.Proofs.YtiemgadnnnhmkaaGreat
open Go.RowKit
set_option linter.unusedVariables false
set_option linter.unusedSimpArgs false
/-- which of the two variables is made next -/
def TokV (n : Nat) : Prop := True
set_option maxRecDepth 100000 in
set_option maxHeartbeats 4000000 in
theorem wakes7_any (w : World) : Calls Tryz.prog 8 #[] w fun e w' => e = .returned (.bool true) ∧ Below w.heap.size w w' := by
  have T0 : TokV 0 := trivial
  go_enter Tryz.func8, Tryz.ntmps8
  go_wp2_with (first
    | (go_at_call 16; have _t := (T0 : TokV 0); refine (var0_any w).mono ?_; rintro e w1 ⟨s1, rfl, ht, hb⟩; have H1 : Hid (TermOne w.heap.size w1 s1 1 0 ∧ Below w.heap.size w w1) := ⟨ht, hb⟩; clear ht hb T0 _t; have T1 : TokV 1 := trivial)
    | (go_at_call 16; have _t := (T1 : TokV 1); obtain ⟨U, hU⟩ : ∃ U, U = w1.alloc (.cells #[.int .i64 2, .slice (some ⟨s1, 0, none⟩) 1 1] 25) := ⟨_, rfl⟩; have hbU : Below w1.heap.size w1 U := (by rw [hU]; exact (Below.refl _ _).alloc (Nat.le_refl _) _); have hxU : Bx U w1.heap.size [.int .i64 2, .slice (some ⟨s1, 0, none⟩) 1 1] := (by rw [hU]; exact Bx.new _ _ _); rw [← hU]; refine (var1_any U).mono ?_; rintro e w2 ⟨s2, rfl, ht, hb⟩; have H2 : Hid (TermOne w.heap.size w2 s1 1 0 ∧ TermOne w.heap.size w2 s2 0 1 ∧ Below w.heap.size w w2 ∧ Bx w2 w1.heap.size [.int .i64 2, .slice (some ⟨s1, 0, none⟩) 1 1]) := ⟨(H1.out.1.later hbU).later hb, ht.mono (Nat.le_trans H1.out.2.size hbU.size), bnext (bnext H1.out.2 hbU) hb, hxU.later hb hxU.lt⟩; clear ht hb T1 _t hU hbU hxU; obtain ⟨r1, hr1⟩ : ∃ r1, r1 = w1.heap.size := ⟨_, rfl⟩; rw [← hr1] at H2; simp only [← hr1]; clear hr1; have y0 := H2.out.2.2.2.1 0 _ rfl; have y1 := H2.out.2.2.2.1 1 _ rfl; have ylt := H2.out.2.2.2.lt; have T2 : TokV 2 := trivial)
    | (go_at_call 17; obtain ⟨U2, hU2⟩ : ∃ U, U = w2.alloc (.cells #[.int .i64 2, .slice (some ⟨s2, 0, none⟩) 1 1] 25) := ⟨_, rfl⟩; have hbU2 : Below w2.heap.size w2 U2 := (by rw [hU2]; exact (Below.refl _ _).alloc (Nat.le_refl _) _); rw [← hU2]; refine (mul_one 1 0 0 1 w.heap.size s1 s2 U2 (H2.out.1.later hbU2) (H2.out.2.1.later hbU2) (by decide) (by decide) (by decide) (by decide)).mono ?_; rintro e w3 ⟨s3, rfl, ht, hb⟩; have H3 : Hid (TermOne w.heap.size w3 s3 (1 + 0) (0 + 1) ∧ Below w.heap.size w w3) := ⟨ht.mono (Nat.le_trans H2.out.2.2.1.size hbU2.size), bnext (bnext H2.out.2.2.1 hbU2) hb⟩; clear ht hb hU2 hbU2 y0 y1 ylt))
  obtain ⟨V, hV⟩ : ∃ V, V = w3.alloc (.cells #[.int .i64 2, .slice (some ⟨s3, 0, none⟩) 1 1] 25) := ⟨_, rfl⟩
  obtain ⟨r5, hr5⟩ : ∃ r5, r5 = w3.heap.size := ⟨_, rfl⟩
  have hbV : Below w3.heap.size w3 V := by rw [hV]; exact (Below.refl _ _).alloc (Nat.le_refl _) _
  have hxV : Bx V r5 [.int .i64 2, .slice (some ⟨s3, 0, none⟩) 1 1] := by rw [hV, hr5]; exact Bx.new _ _ _
  have HM : Hid (TermOne w.heap.size V s3 (1 + 0) (0 + 1) ∧ Below w.heap.size w V) := ⟨H3.out.1.later hbV, bnext H3.out.2 hbV⟩
  have KS : Hid (∀ w', Below V.heap.size V w' → w'.cell? ⟨r5, 0, none⟩ = some (.int .i64 2) ∧ w'.cell? ⟨r5, 1, none⟩ = some (.slice (some ⟨s3, 0, none⟩) 1 1)) := fun w' hb => by
    have := hxV.later hb hxV.lt
    exact ⟨this.1 0 _ rfl, this.1 1 _ rfl⟩
  rw [← hV, ← hr5]
  clear hV hr5 hbV hxV
  refine wp_region_noPanic ?_
  refine wp_region_held_drew (S := fun w' => (w'.cell? ⟨r5, 0, none⟩ = some (.int .i64 2) ∧ w'.cell? ⟨r5, 1, none⟩ = some (.slice (some ⟨s3, 0, none⟩) 1 1))) (by kernel_rfl) (by (try dsimp only); exact KS.out _ ((Below.refl _ _).drew)) (fun hHeld => ?_)
  refine wpAnyH_take (i := 0) (oi := Oper.mk (some 21) _ _ _ _ _) (v := ?_) rfl (by decide +kernel) (by decide +kernel) (by decide +kernel) (fun _ _ _ h => h) (Or.inl ⟨by rfl, ?_⟩) (by assumption) ?_
  rotate_left
  · (intro w hSw; (try dsimp only at hSw); go_simp <;> (try with_reducible rfl))
  (try simp only [Act.put, List.setIfInBounds_toArray, List.set_cons_zero, List.set_cons_succ])
  refine wpAnyH_ready (rs := [1]) (by decide +kernel) (by simp) ?_
  refine AllReadyH.cons (o := Oper.mk (some 22) _ _ _ _ _) rfl (fun K hK => ?_) AllReadyH.nil
  go_simp
  (go_at_call 18; refine (num7_any 0 _).mono ?_; rintro e w9 ⟨rfl, hw9⟩; replace hw9 := hw9.symm; subst hw9)
  (try go_wp2_with fail)
  clear hHeld
  refine hK.out _ _ (by (try dsimp only); exact KS.out _ ((Below.refl _ _).drew)) (fun hHeld => ?_)
  clear hK K
  (try simp only [Act.put, List.setIfInBounds_toArray, List.set_cons_zero, List.set_cons_succ])
  refine wpAnyH_take (i := 2) (oi := Oper.mk (some 23) _ _ _ _ _) (v := ?_) rfl (by decide +kernel) (by decide +kernel) (by decide +kernel) (fun _ _ _ h => h) (Or.inl ⟨by rfl, ?_⟩) (by assumption) ?_
  rotate_left
  · (intro w hSw; (try dsimp only at hSw); go_simp <;> (try with_reducible rfl))
  (try simp only [Act.put, List.setIfInBounds_toArray, List.set_cons_zero, List.set_cons_succ])
  refine wpAnyH_take (i := 3) (oi := Oper.mk (some 24) _ _ _ _ _) (v := ?_) rfl (by decide +kernel) (by decide +kernel) (by decide +kernel) (fun _ _ _ h => h) (Or.inl ⟨by rfl, ?_⟩) (by assumption) ?_
  rotate_left
  · (intro w hSw; (try dsimp only at hSw); go_simp <;> (try with_reducible rfl))
  (try simp only [Act.put, List.setIfInBounds_toArray, List.set_cons_zero, List.set_cons_succ])
  refine wpAnyH_take (i := 4) (oi := Oper.mk (some 25) _ _ _ _ _) (v := ?_) rfl (by decide +kernel) (by decide +kernel) (by decide +kernel) (fun _ _ _ h => h) (Or.inl ⟨by rfl, ?_⟩) (by assumption) ?_
  rotate_left
  · (intro w hSw; (try dsimp only at hSw); go_simp <;> (try with_reducible rfl))
  (try simp only [Act.put, List.setIfInBounds_toArray, List.set_cons_zero, List.set_cons_succ])
  refine wpAnyH_ready (rs := [5]) (by decide +kernel) (by simp) ?_
  refine AllReadyH.cons (o := Oper.mk (some 26) _ _ _ _ _) rfl (fun K hK => ?_) AllReadyH.nil
  go_simp
  (go_at_call 18; refine (num7_any 0 _).mono ?_; rintro e w9 ⟨rfl, hw9⟩; replace hw9 := hw9.symm; subst hw9)
  (try go_wp2_with fail)
  clear hHeld
  refine hK.out _ _ (by (try dsimp only); exact KS.out _ ((Below.refl _ _).drew)) (fun hHeld => ?_)
  clear hK K
  (try simp only [Act.put, List.setIfInBounds_toArray, List.set_cons_zero, List.set_cons_succ])
  refine wpAnyH_take (i := 6) (oi := Oper.mk (some 27) _ _ _ _ _) (v := ?_) rfl (by decide +kernel) (by decide +kernel) (by decide +kernel) (fun _ _ _ h => h) (Or.inl ⟨by rfl, ?_⟩) (by assumption) ?_
  rotate_left
  · (intro w hSw; (try dsimp only at hSw); go_simp <;> (try with_reducible rfl))
  (try simp only [Act.put, List.setIfInBounds_toArray, List.set_cons_zero, List.set_cons_succ])
  refine wpAnyH_take (i := 7) (oi := Oper.mk (some 28) _ _ _ _ _) (v := ?_) rfl (by decide +kernel) (by decide +kernel) (by decide +kernel) (fun _ _ _ h => h) (Or.inl ⟨by rfl, ?_⟩) (by assumption) ?_
  rotate_left
  · (intro w hSw; (try dsimp only at hSw); go_simp <;> (try with_reducible rfl))
  (try simp only [Act.put, List.setIfInBounds_toArray, List.set_cons_zero, List.set_cons_succ])
  refine wpAnyH_take (i := 8) (oi := Oper.mk (some 29) _ _ _ _ _) (v := ?_) rfl (by decide +kernel) (by decide +kernel) (by decide +kernel) (fun _ _ _ h => h) (Or.inl ⟨by rfl, ?_⟩) (by assumption) ?_
  rotate_left
  · (intro w hSw; (try dsimp only at hSw); go_simp <;> (try with_reducible rfl))
  (try simp only [Act.put, List.setIfInBounds_toArray, List.set_cons_zero, List.set_cons_succ])
  refine wpAnyH_take (i := 9) (oi := Oper.mk (some 30) _ _ _ _ _) (v := ?_) rfl (by decide +kernel) (by decide +kernel) (by decide +kernel) (fun _ _ _ h => h) (Or.inl ⟨by rfl, ?_⟩) (by assumption) ?_
  rotate_left
  · (intro w hSw; (try dsimp only at hSw); go_simp <;> (try with_reducible rfl))
  (try simp only [Act.put, List.setIfInBounds_toArray, List.set_cons_zero, List.set_cons_succ])
  refine wpAnyH_ready (rs := [10]) (by decide +kernel) (by simp) ?_
  refine AllReadyH.cons (o := Oper.mk (some 31) _ _ _ _ _) rfl (fun K hK => ?_) AllReadyH.nil
  go_simp
  (go_at_call 18; refine (num7_any 0 _).mono ?_; rintro e w9 ⟨rfl, hw9⟩; replace hw9 := hw9.symm; subst hw9)
  (try go_wp2_with fail)
  clear hHeld
  refine hK.out _ _ (by (try dsimp only); exact KS.out _ ((Below.refl _ _).drew)) (fun hHeld => ?_)
  clear hK K
  (try simp only [Act.put, List.setIfInBounds_toArray, List.set_cons_zero, List.set_cons_succ])
  refine wpAnyH_take (i := 11) (oi := Oper.mk (some 32) _ _ _ _ _) (v := ?_) rfl (by decide +kernel) (by decide +kernel) (by decide +kernel) (fun _ _ _ h => h) (Or.inl ⟨by rfl, ?_⟩) (by assumption) ?_
  rotate_left
  · (intro w hSw; (try dsimp only at hSw); go_simp <;> (try with_reducible rfl))
  (try simp only [Act.put, List.setIfInBounds_toArray, List.set_cons_zero, List.set_cons_succ])
  refine wpAnyH_take (i := 12) (oi := Oper.mk (some 33) _ _ _ _ _) (v := ?_) rfl (by decide +kernel) (by decide +kernel) (by decide +kernel) (fun _ _ _ h => h) (Or.inl ⟨by rfl, ?_⟩) (by assumption) ?_
  rotate_left
  · (intro w hSw; (try dsimp only at hSw); go_simp <;> (try with_reducible rfl))
  (try simp only [Act.put, List.setIfInBounds_toArray, List.set_cons_zero, List.set_cons_succ])
  refine wpAnyH_take (i := 13) (oi := Oper.mk (some 34) _ _ _ _ _) (v := ?_) rfl (by decide +kernel) (by decide +kernel) (by decide +kernel) (fun _ _ _ h => h) (Or.inl ⟨by rfl, ?_⟩) (by assumption) ?_
  rotate_left
  · (intro w hSw; (try dsimp only at hSw); go_simp <;> (try with_reducible rfl))
  (try simp only [Act.put, List.setIfInBounds_toArray, List.set_cons_zero, List.set_cons_succ])
  refine wpAnyH_take (i := 14) (oi := Oper.mk (some 35) _ _ _ _ _) (v := ?_) rfl (by decide +kernel) (by decide +kernel) (by decide +kernel) (fun _ _ _ h => h) (Or.inl ⟨by rfl, ?_⟩) (by assumption) ?_
  rotate_left
  · (intro w hSw; (try dsimp only at hSw); go_simp <;> (try with_reducible rfl))
  (try simp only [Act.put, List.setIfInBounds_toArray, List.set_cons_zero, List.set_cons_succ])
  refine wpAnyH_ready (rs := [15]) (by decide +kernel) (by simp) ?_
  refine AllReadyH.cons (o := Oper.mk (some 36) _ _ _ _ _) rfl (fun K hK => ?_) AllReadyH.nil
  go_simp
  (go_at_call 20; refine (rvar0_any _).mono ?_; rintro e w5 ⟨tp, tc, rfl, ht, hb⟩; have H5 : Hid (Below V.heap.size V w5 ∧ TermsAt w5 tp 1 tc [([1, 0], false, [1])]) := ⟨bnext (Below.refl _ _).drew hb, ht⟩; clear ht hb)
  (try go_wp2_with fail)
  clear hHeld
  refine hK.out _ _ (by (try dsimp only); exact KS.out _ H5.out.1) (fun hHeld => ?_)
  clear hK K
  (try simp only [Act.put, List.setIfInBounds_toArray, List.set_cons_zero, List.set_cons_succ])
  refine wpAnyH_ready (rs := [16]) (by decide +kernel) (by simp) ?_
  refine AllReadyH.cons (o := Oper.mk (some 37) _ _ _ _ _) rfl (fun K hK => ?_) AllReadyH.nil
  go_simp
  (go_at_call 20; refine (rvar1_any _).mono ?_; rintro e w6 ⟨tq, tc6, rfl, ht, hb⟩; have H6 : Hid (Below V.heap.size V w6 ∧ TermsAt w6 tp 1 tc [([1, 0], false, [1])] ∧ TermsAt w6 tq 1 tc6 [([0, 1], false, [1])]) := ⟨bnext H5.out.1 hb, H5.out.2.later hb, ht⟩; clear ht hb)
  (try go_wp2_with fail)
  clear hHeld
  refine hK.out _ _ (by (try dsimp only); exact KS.out _ H6.out.1) (fun hHeld => ?_)
  clear hK K
  (try simp only [Act.put, List.setIfInBounds_toArray, List.set_cons_zero, List.set_cons_succ])
  refine wpAnyH_ready (rs := [17]) (by decide +kernel) (by simp) ?_
  refine AllReadyH.cons (o := Oper.mk (some 38) _ _ _ _ _) rfl (fun K hK => ?_) AllReadyH.nil
  go_simp
  (go_at_call 19; refine (mtimes_one 1 0 0 1 tp tq tc tc6 _ H6.out.2.1 H6.out.2.2 (by decide) (by decide) (by decide) (by decide)).mono ?_; rintro e w7 ⟨v7, rfl, ht, hb⟩; obtain ⟨t7, k7, hv7, hT7⟩ := ht.terms; subst hv7; have H7 : Hid (Below V.heap.size V w7 ∧ TermsAt w7 t7 1 k7 [([1 + 0, 0 + 1], false, [1])]) := ⟨bnext H6.out.1 hb, hT7⟩; clear ht hb hT7)
  (try go_wp2_with fail)
  clear hHeld
  refine hK.out _ _ (by (try dsimp only); exact KS.out _ H7.out.1) (fun hHeld => ?_)
  clear hK K
  (try simp only [Act.put, List.setIfInBounds_toArray, List.set_cons_zero, List.set_cons_succ])
  refine wpAnyH_ready (rs := [18]) (by decide +kernel) (by simp) ?_
  refine AllReadyH.cons (o := Oper.mk (some 39) _ _ _ _ _) rfl (fun K hK => ?_) AllReadyH.nil
  go_simp
  (go_at_call 7; refine (eqmpoly_good 2 _ _ 1 1 1 k7 [([1 + 0, 0 + 1], false, [1])] [([1 + 0, 0 + 1], false, [1])] true _ ⟨(HM.out.1.later H7.out.1).terms, goodOne (by decide) (by decide)⟩ ⟨H7.out.2, goodOne (by decide) (by decide)⟩ (decide_eq_true rfl)).mono ?_; rintro e w8 ⟨rfl, hb⟩; have H8 : Hid (Below V.heap.size V w8) := bnext H7.out.1 hb; clear hb)
  (try go_wp2_with fail)
  clear hHeld
  refine hK.out _ _ (by (try dsimp only); exact KS.out _ H8.out) (fun hHeld => ?_)
  clear hK K
  (try simp only [Act.put, List.setIfInBounds_toArray, List.set_cons_zero, List.set_cons_succ])
  refine wpAnyH_take (i := 19) (oi := Oper.mk (some 40) _ _ _ _ _) (v := ?_) rfl (by decide +kernel) (by decide +kernel) (by decide +kernel) (fun _ _ _ h => h) (Or.inl ⟨by rfl, ?_⟩) (by assumption) ?_
  rotate_left
  · (intro w hSw; (try dsimp only at hSw); go_simp <;> (try with_reducible rfl))
  (try simp only [Act.put, List.setIfInBounds_toArray, List.set_cons_zero, List.set_cons_succ])
  refine wpAnyH_take (i := 20) (oi := Oper.mk (some 0) _ _ _ _ _) (v := ?_) rfl (by decide +kernel) (by decide +kernel) (by decide +kernel) (fun _ _ _ h => h) (Or.inl ⟨by rfl, ?_⟩) (by assumption) ?_
  rotate_left
  · (intro w hSw; (try dsimp only at hSw); go_simp <;> (try with_reducible rfl))
  (try simp only [Act.put, List.setIfInBounds_toArray, List.set_cons_zero, List.set_cons_succ])
  refine wpAnyH_done (by decide +kernel) ?_ _
  refine NoPanic.normal ?_
  clear hHeld
  go_wp2
  go_ret
  exact ⟨rfl, bnext HM.out.2 H8.out⟩
end Go.Proofs.YtiemgadnnnhmkaaGreat
