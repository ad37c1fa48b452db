/-
  NE: walks: mpoly's Check, checkBoth, Cmp of good polynomials. (gen/ne.py)
-/
import Derived.Test.YtiemgadnnnhmkaaGreatPO03
import Derived.Test.YtiemgadnnnhmkaaGreatPO04
import Derived.Lib.ItoaNum
namespace Go.Proofs.YtiemgadnnnhmkaaGreat
open Go.RowKit
set_option linter.unusedVariables false
set_option linter.unusedSimpArgs false
set_option maxRecDepth 100000 in
set_option maxHeartbeats 4000000 in
theorem mcheck_good (n : Int) (tp : Option Addr) (tl tc : Nat) (T : List (List Int × Bool × List Int)) (w : World) (h : TermsAt w tp tl tc T) (g : GoodM n T) :
    Calls Tryz.prog 23 #[.agg #[.int .i64 n, .slice tp tl tc]] w fun e w' => e = .returned (.int .i64 0) ∧ Below w.heap.size w w' := by
  obtain ⟨W, hW⟩ : ∃ W, W = w.alloc (.cells #[.int .i64 n, .slice tp tl tc] 25) := ⟨_, rfl⟩
  have HW : Hid (Below w.heap.size w W ∧ w.heap.size < W.heap.size) := ⟨by rw [hW]; exact (Below.refl _ _).alloc (Nat.le_refl _) _, by rw [hW]; simp⟩
  have HP : Hid (TermsAt w tp tl tc T ∧ GoodM n T) := ⟨h, g⟩
  have HV : Hid (0 ≤ n ∧ n ≤ 8) := g.vars
  have htl : tl ≤ 4096 := by have := h.hlen; have := g.short; omega
  have HN : Hid (tl = T.length) := h.hlen
  have KC : Hid (∀ w', Below W.heap.size W w' → w'.cell? ⟨w.heap.size, 0, none⟩ = some (.int .i64 n) ∧ w'.cell? ⟨w.heap.size, 1, none⟩ = some (.slice tp tl tc)) := fun w' h => by
    rw [hW] at h
    have hk : ∀ j v, [Value.int .i64 n, .slice tp tl tc][j]? = some v → w'.cell? ⟨w.heap.size, j, none⟩ = some v := fun j v hj => by
      rw [h.cell (p := ⟨w.heap.size, j, none⟩) (by simp)]
      simpa [go_sem] using hj
    exact ⟨hk 0 _ rfl, hk 1 _ rfl⟩
  obtain ⟨c0, c1⟩ := KC.out W (Below.refl _ _)
  have HWE : Hid (W = w.alloc (.cells #[.int .i64 n, .slice tp tl tc] 25)) := hW
  clear hW
  clear h g
  go_enter Tryz.func23, Tryz.ntmps23
  go_wp2_with (go_at_call 28; rw [← HWE.out]; refine (isCount_good n W HV.out).mono ?_; rintro e w1 ⟨rfl, hw1⟩; replace hw1 := hw1.symm; subst hw1)
  go_loopw [18] (fun i wr => ∃ k : Nat, k ≤ tl ∧ i = .int .i64 (k : Int) ∧ Hid (Below W.heap.size W wr)) (fun i _ => tl - (intOf i).toNat)
  case atStart => exact ⟨0, Nat.zero_le _, rfl, Below.refl _ _⟩
  case round =>
    obtain ⟨k, hk, rfl, HS⟩ := hrel
    by_cases hlt : k < tl
    · have hkp : k < T.length := by have := HN.out; omega
      obtain ⟨b, off, eo, el, ec, n1, ao, la, ca, rfl, hb, ⟨a0, a1, a2⟩, hn1, he1, hr1, hw1, hl1⟩ := (HP.out.1.later (bnext HW.out.1 HS.out)).get hkp
      have z1 : (k : Int) < (tl : Int) := by omega
      have z2 : (0 : Int) ≤ (k : Int) := by omega
      obtain ⟨U, hU⟩ : ∃ U, U = wr.alloc (.cells #[.slice eo el ec, .bool n1, .slice ao la ca] 56) := ⟨_, rfl⟩
      have HN1 : Hid (n1 = T[k].2.1) := hn1
      have HU : Hid (Below wr.heap.size wr U ∧ Below W.heap.size W U) := ⟨by rw [hU]; exact (Below.refl _ _).alloc (Nat.le_refl _) _, bnext HS.out (by rw [hU]; exact (Below.refl _ _).alloc (Nat.le_refl _) _)⟩
      have KU : Hid (∀ w', Below U.heap.size U w' → w'.cell? ⟨w.heap.size, 0, none⟩ = some (.int .i64 n) ∧ w'.cell? ⟨w.heap.size, 1, none⟩ = some (.slice (some ⟨b, off, none⟩) tl tc) ∧ w'.cell? ⟨wr.heap.size, 0, none⟩ = some (.slice eo el ec) ∧ w'.cell? ⟨wr.heap.size, 1, none⟩ = some (.bool n1) ∧ w'.cell? ⟨wr.heap.size, 2, none⟩ = some (.slice ao la ca)) := fun w' h => by
        have hc := KC.out w' (bnext HU.out.2 h)
        refine ⟨hc.1, hc.2, ?_⟩
        rw [hU] at h
        have hk : ∀ j v, [Value.slice eo el ec, .bool n1, .slice ao la ca][j]? = some v → w'.cell? ⟨wr.heap.size, j, none⟩ = some v := fun j v hj => by
          rw [h.cell (p := ⟨wr.heap.size, j, none⟩) (by simp)]
          simpa [go_sem] using hj
        exact ⟨hk 0 _ rfl, hk 1 _ rfl, hk 2 _ rfl⟩
      have HT : Hid (∀ W', Below U.heap.size U W' → Calls Tryz.prog 40 #[.agg #[.slice eo el ec, .bool n1, .slice ao la ca], .int .i64 n] W' fun e w' => e = .returned (.bool true) ∧ Below W'.heap.size W' w') := fun W' hb => by
        rw [HN1.out]
        exact isTerm_good n T[k] eo el ec ao la ca W' (HP.out.2.term k hkp) (he1.later (bnext HU.out.1 hb)) (hr1.later (bnext HU.out.1 hb)) hw1 hl1 HV.out.2
      have HUE : Hid (U = wr.alloc (.cells #[.slice eo el ec, .bool n1, .slice ao la ca] 56)) := hU
      clear hU
      by_cases e0 : k = 0
      · subst e0
        have HX : Hid (0 < T.length) := hkp
        simp only [Nat.zero_mul, Nat.add_zero] at a0 a1 a2
        clear HN1; clear hn1 he1 hr1 hw1 hl1
        go_wp2
        rw [← HUE.out]
        clear a0 a1 a2 hb
        refine wp_region_noPanic ?_
        refine wp_region_held_drew (S := fun w' => (w'.cell? ⟨w.heap.size, 0, none⟩ = some (.int .i64 n) ∧ w'.cell? ⟨w.heap.size, 1, none⟩ = some (.slice (some ⟨b, off, none⟩) tl tc) ∧ w'.cell? ⟨wr.heap.size, 0, none⟩ = some (.slice eo el ec) ∧ w'.cell? ⟨wr.heap.size, 1, none⟩ = some (.bool n1) ∧ w'.cell? ⟨wr.heap.size, 2, none⟩ = some (.slice ao la ca))) (by kernel_rfl) (by (try dsimp only); exact KU.out _ (Below.refl _ _).drew) (fun hHeld => ?_)
        refine wpAnyH_take (i := 0) (oi := Oper.mk (some 23) _ _ _ _ _) (v := ?_) rfl (by decide +kernel) (by decide +kernel) (by decide +kernel) (fun _ _ _ h => h) (Or.inl ⟨by rfl, ?_⟩) (by assumption) ?_
        rotate_left
        · (intro w hSw; (try dsimp only at hSw); go_simp <;> (try with_reducible rfl))
        (try simp only [Act.put, List.setIfInBounds_toArray, List.set_cons_zero, List.set_cons_succ])
        refine wpAnyH_take (i := 1) (oi := Oper.mk (some 24) _ _ _ _ _) (v := ?_) rfl (by decide +kernel) (by decide +kernel) (by decide +kernel) (fun _ _ _ h => h) (Or.inl ⟨by rfl, ?_⟩) (by assumption) ?_
        rotate_left
        · (intro w hSw; (try dsimp only at hSw); go_simp <;> (try with_reducible rfl))
        (try simp only [Act.put, List.setIfInBounds_toArray, List.set_cons_zero, List.set_cons_succ])
        refine wpAnyH_take (i := 2) (oi := Oper.mk (some 25) _ _ _ _ _) (v := ?_) rfl (by decide +kernel) (by decide +kernel) (by decide +kernel) (fun _ _ _ h => h) (Or.inl ⟨by rfl, ?_⟩) (by assumption) ?_
        rotate_left
        · (intro w hSw; (try dsimp only at hSw); go_simp <;> (try with_reducible rfl))
        (try simp only [Act.put, List.setIfInBounds_toArray, List.set_cons_zero, List.set_cons_succ])
        refine wpAnyH_ready (rs := [3]) (by decide +kernel) (by simp) ?_
        refine AllReadyH.cons (o := Oper.mk (some 26) _ _ _ _ _) rfl (fun K hK => ?_) AllReadyH.nil
        go_simp
        (go_at_call 40; refine (HT.out _ (Below.refl _ _).drew).mono ?_; rintro e w4 ⟨rfl, hb4'⟩; have HB1 : Hid (Below U.heap.size U w4) := bnext (Below.refl _ _).drew hb4'; clear hb4')
        (try go_wp2_with fail)
        clear hHeld
        refine hK.out _ _ (by (try dsimp only); exact KU.out _ HB1.out) (fun hHeld => ?_)
        clear hK K
        (try simp only [Act.put, List.setIfInBounds_toArray, List.set_cons_zero, List.set_cons_succ])
        refine wpAnyH_take (i := 4) (oi := Oper.mk (some 27) _ _ _ _ _) (v := ?_) rfl (by decide +kernel) (by decide +kernel) (by decide +kernel) (fun _ _ _ h => h) (Or.inl ⟨by rfl, ?_⟩) (by assumption) ?_
        rotate_left
        · (intro w hSw; (try dsimp only at hSw); go_simp <;> (try with_reducible rfl))
        (try simp only [Act.put, List.setIfInBounds_toArray, List.set_cons_zero, List.set_cons_succ])
        refine wpAnyH_take (i := 5) (oi := Oper.mk (some 28) _ _ _ _ _) (v := ?_) rfl (by decide +kernel) (by decide +kernel) (by decide +kernel) (fun _ _ _ h => h) (Or.inl ⟨by rfl, ?_⟩) (by assumption) ?_
        rotate_left
        · (intro w hSw; (try dsimp only at hSw); go_simp <;> (try with_reducible rfl))
        (try simp only [Act.put, List.setIfInBounds_toArray, List.set_cons_zero, List.set_cons_succ])
        refine wpAnyH_take (i := 6) (oi := Oper.mk (some 29) _ _ _ _ _) (v := ?_) rfl (by decide +kernel) (by decide +kernel) (by decide +kernel) (fun _ _ _ h => h) (Or.inl ⟨by rfl, ?_⟩) (by assumption) ?_
        rotate_left
        · (intro w hSw; (try dsimp only at hSw); go_simp <;> (try with_reducible rfl))
        (try simp only [Act.put, List.setIfInBounds_toArray, List.set_cons_zero, List.set_cons_succ])
        refine wpAnyH_take (i := 7) (oi := Oper.mk (some 30) _ _ _ _ _) (v := ?_) rfl (by decide +kernel) (by decide +kernel) (by decide +kernel) (fun _ _ _ h => h) (Or.inl ⟨by rfl, ?_⟩) (by assumption) ?_
        rotate_left
        · (intro w hSw; (try dsimp only at hSw); go_simp <;> (try with_reducible rfl))
        (try simp only [Act.put, List.setIfInBounds_toArray, List.set_cons_zero, List.set_cons_succ])
        refine wpAnyH_take (i := 8) (oi := Oper.mk (some 31) _ _ _ _ _) (v := ?_) rfl (by decide +kernel) (by decide +kernel) (by decide +kernel) (fun _ _ _ h => h) (Or.inl ⟨by rfl, ?_⟩) (by assumption) ?_
        rotate_left
        · (intro w hSw; (try dsimp only at hSw); go_simp <;> (try with_reducible rfl))
        (try simp only [Act.put, List.setIfInBounds_toArray, List.set_cons_zero, List.set_cons_succ])
        refine wpAnyH_take (i := 9) (oi := Oper.mk (some 32) _ _ _ _ _) (v := undef) rfl (by decide +kernel) (by decide +kernel) (by decide +kernel) (fun _ _ _ h => h) (Or.inr ⟨by rfl, rfl⟩) (by assumption) ?_
        (try simp only [Act.put, List.setIfInBounds_toArray, List.set_cons_zero, List.set_cons_succ])
        refine wpAnyH_take (i := 10) (oi := Oper.mk (some 33) _ _ _ _ _) (v := undef) rfl (by decide +kernel) (by decide +kernel) (by decide +kernel) (fun _ _ _ h => h) (Or.inr ⟨by rfl, rfl⟩) (by assumption) ?_
        (try simp only [Act.put, List.setIfInBounds_toArray, List.set_cons_zero, List.set_cons_succ])
        refine wpAnyH_take (i := 11) (oi := Oper.mk (some 34) _ _ _ _ _) (v := undef) rfl (by decide +kernel) (by decide +kernel) (by decide +kernel) (fun _ _ _ h => h) (Or.inr ⟨by rfl, rfl⟩) (by assumption) ?_
        (try simp only [Act.put, List.setIfInBounds_toArray, List.set_cons_zero, List.set_cons_succ])
        refine wpAnyH_take (i := 12) (oi := Oper.mk (some 35) _ _ _ _ _) (v := undef) rfl (by decide +kernel) (by decide +kernel) (by decide +kernel) (fun _ _ _ h => h) (Or.inr ⟨by rfl, rfl⟩) (by assumption) ?_
        (try simp only [Act.put, List.setIfInBounds_toArray, List.set_cons_zero, List.set_cons_succ])
        refine wpAnyH_take (i := 13) (oi := Oper.mk (some 36) _ _ _ _ _) (v := undef) rfl (by decide +kernel) (by decide +kernel) (by decide +kernel) (fun _ _ _ h => h) (Or.inr ⟨by rfl, rfl⟩) (by assumption) ?_
        (try simp only [Act.put, List.setIfInBounds_toArray, List.set_cons_zero, List.set_cons_succ])
        refine wpAnyH_take (i := 14) (oi := Oper.mk (some 37) _ _ _ _ _) (v := undef) rfl (by decide +kernel) (by decide +kernel) (by decide +kernel) (fun _ _ _ h => h) (Or.inr ⟨by rfl, rfl⟩) (by assumption) ?_
        (try simp only [Act.put, List.setIfInBounds_toArray, List.set_cons_zero, List.set_cons_succ])
        refine wpAnyH_take (i := 15) (oi := Oper.mk (some 38) _ _ _ _ _) (v := undef) rfl (by decide +kernel) (by decide +kernel) (by decide +kernel) (fun _ _ _ h => h) (Or.inr ⟨by rfl, rfl⟩) (by assumption) ?_
        (try simp only [Act.put, List.setIfInBounds_toArray, List.set_cons_zero, List.set_cons_succ])
        refine wpAnyH_take (i := 16) (oi := Oper.mk (some 39) _ _ _ _ _) (v := undef) rfl (by decide +kernel) (by decide +kernel) (by decide +kernel) (fun _ _ _ h => h) (Or.inr ⟨by rfl, rfl⟩) (by assumption) ?_
        (try simp only [Act.put, List.setIfInBounds_toArray, List.set_cons_zero, List.set_cons_succ])
        refine wpAnyH_take (i := 17) (oi := Oper.mk (some 40) _ _ _ _ _) (v := undef) rfl (by decide +kernel) (by decide +kernel) (by decide +kernel) (fun _ _ _ h => h) (Or.inr ⟨by rfl, rfl⟩) (by assumption) ?_
        (try simp only [Act.put, List.setIfInBounds_toArray, List.set_cons_zero, List.set_cons_succ])
        refine wpAnyH_take (i := 18) (oi := Oper.mk (some 41) _ _ _ _ _) (v := undef) rfl (by decide +kernel) (by decide +kernel) (by decide +kernel) (fun _ _ _ h => h) (Or.inr ⟨by rfl, rfl⟩) (by assumption) ?_
        (try simp only [Act.put, List.setIfInBounds_toArray, List.set_cons_zero, List.set_cons_succ])
        refine wpAnyH_take (i := 19) (oi := Oper.mk (some 42) _ _ _ _ _) (v := undef) rfl (by decide +kernel) (by decide +kernel) (by decide +kernel) (fun _ _ _ h => h) (Or.inr ⟨by rfl, rfl⟩) (by assumption) ?_
        (try simp only [Act.put, List.setIfInBounds_toArray, List.set_cons_zero, List.set_cons_succ])
        refine wpAnyH_take (i := 20) (oi := Oper.mk (some 43) _ _ _ _ _) (v := ?_) rfl (by decide +kernel) (by decide +kernel) (by decide +kernel) (fun _ _ _ h => h) (Or.inl ⟨by rfl, ?_⟩) (by assumption) ?_
        rotate_left
        · (intro w hSw; (try dsimp only at hSw); go_simp <;> (try with_reducible rfl))
        (try simp only [Act.put, List.setIfInBounds_toArray, List.set_cons_zero, List.set_cons_succ])
        refine wpAnyH_take (i := 21) (oi := Oper.mk (some 44) _ _ _ _ _) (v := ?_) rfl (by decide +kernel) (by decide +kernel) (by decide +kernel) (fun _ _ _ h => h) (Or.inl ⟨by rfl, ?_⟩) (by assumption) ?_
        rotate_left
        · (intro w hSw; (try dsimp only at hSw); go_simp <;> (try with_reducible rfl))
        (try simp only [Act.put, List.setIfInBounds_toArray, List.set_cons_zero, List.set_cons_succ])
        refine wpAnyH_done (by decide +kernel) ?_ _
        refine NoPanic.normal ?_
        go_wp2
        go_roundw
        case rel => exact ⟨1, by omega, by go_num, bnext HU.out.2 HB1.out⟩
        case measure => simp [intOf]; omega
      · obtain ⟨j, hj⟩ : ∃ j, k = j + 1 := ⟨k - 1, by omega⟩
        have HJ : Hid (k = j + 1) := hj
        have hjp : j < T.length := by omega
        obtain ⟨b9, off9, eo9, el9, ec9, n9, ao9, la9, ca9, hbb, hb9, ⟨g0, g1, g2⟩, hn9, he9, hr9, hw9, hl9⟩ := (HP.out.1.later (bnext HW.out.1 HS.out)).get hjp
        simp only [Option.some.injEq, Addr.mk.injEq, and_true] at hbb
        obtain ⟨rfl, rfl⟩ := hbb
        obtain ⟨c, hc⟩ : ∃ c, ordE T[j].1 T[k].1 = c := ⟨_, rfl⟩
        have c0' : 0 < c := by
          rw [← hc]
          have := HP.out.2.desc j (by omega)
          subst hj
          exact this
        have z5 : 0 < (k : Int) := by omega
        have z6 : (j : Int) < (tl : Int) := by omega
        have z7 : (0 : Int) ≤ (j : Int) := by omega
        have z8 : (k : Int) - 1 = (j : Int) := by omega
        have z9 : ¬ c ≤ 0 := by omega
        have z10 : decide (0 < (k : Int)) = true := by simpa using z5
        have z11 : decide (0 < k) = true := by simp; omega
        have z12 : IntKind.i64.wrap (j : Int) = (j : Int) := by rw [IntKind.wrap_i64]; omega
        have HCE : Hid (∀ W', Below U.heap.size U W' → Calls Tryz.prog 24 #[.slice eo9 el9 ec9, .slice eo el ec] W' fun e w' => e = .returned (.int .i64 c) ∧ Below W'.heap.size W' w') := fun W' hb =>
          (compareExps_any eo9 eo el9 ec9 el ec _ _ c W' (he9.later (bnext HU.out.1 hb)) (he1.later (bnext HU.out.1 hb)) (by have h1 := (HP.out.2.term j hjp).len; have h2 := (HP.out.2.term k hkp).len; have h3 := he9.row.hlen; have h4 := he1.row.hlen; omega) hc).mono fun e w' h => ⟨h.1, by obtain ⟨q, hq⟩ := h.2; rw [hq]; exact below_drewN (Below.refl _ _) _⟩
        have KU9 : Hid (∀ w', Below U.heap.size U w' → w'.cell? ⟨w.heap.size, 0, none⟩ = some (.int .i64 n) ∧ w'.cell? ⟨w.heap.size, 1, none⟩ = some (.slice (some ⟨b, off, none⟩) tl tc) ∧ w'.cell? ⟨wr.heap.size, 0, none⟩ = some (.slice eo el ec) ∧ w'.cell? ⟨wr.heap.size, 1, none⟩ = some (.bool n1) ∧ w'.cell? ⟨wr.heap.size, 2, none⟩ = some (.slice ao la ca) ∧ w'.cell? ⟨b, off + j * 3, none⟩ = some (.slice eo9 el9 ec9)) := fun w' h => by
          obtain ⟨k0, k1, k2, k3, k4⟩ := KU.out w' h
          exact ⟨k0, k1, k2, k3, k4, ((bnext HU.out.1 h).cell (p := ⟨b, off + j * 3, none⟩) hb9).trans g0⟩
        have HX : Hid (k < T.length) := hkp
        clear HN1; clear hn1 he1 hr1 hw1 hl1 hj hjp hb9 g0 g1 g2 hn9 he9 hr9 hw9 hl9 hc c0' e0
        go_wp2
        rw [← HUE.out]
        clear a0 a1 a2 hb
        refine wp_region_noPanic ?_
        refine wp_region_held_drew (S := fun w' => (w'.cell? ⟨w.heap.size, 0, none⟩ = some (.int .i64 n) ∧ w'.cell? ⟨w.heap.size, 1, none⟩ = some (.slice (some ⟨b, off, none⟩) tl tc) ∧ w'.cell? ⟨wr.heap.size, 0, none⟩ = some (.slice eo el ec) ∧ w'.cell? ⟨wr.heap.size, 1, none⟩ = some (.bool n1) ∧ w'.cell? ⟨wr.heap.size, 2, none⟩ = some (.slice ao la ca) ∧ w'.cell? ⟨b, off + j * 3, none⟩ = some (.slice eo9 el9 ec9))) (by kernel_rfl) (by (try dsimp only); exact KU9.out _ (Below.refl _ _).drew) (fun hHeld => ?_)
        refine wpAnyH_take (i := 0) (oi := Oper.mk (some 23) _ _ _ _ _) (v := ?_) rfl (by decide +kernel) (by decide +kernel) (by decide +kernel) (fun _ _ _ h => h) (Or.inl ⟨by rfl, ?_⟩) (by assumption) ?_
        rotate_left
        · (intro w hSw; (try dsimp only at hSw); go_simp <;> (try with_reducible rfl))
        (try simp only [Act.put, List.setIfInBounds_toArray, List.set_cons_zero, List.set_cons_succ])
        refine wpAnyH_take (i := 1) (oi := Oper.mk (some 24) _ _ _ _ _) (v := ?_) rfl (by decide +kernel) (by decide +kernel) (by decide +kernel) (fun _ _ _ h => h) (Or.inl ⟨by rfl, ?_⟩) (by assumption) ?_
        rotate_left
        · (intro w hSw; (try dsimp only at hSw); go_simp <;> (try with_reducible rfl))
        (try simp only [Act.put, List.setIfInBounds_toArray, List.set_cons_zero, List.set_cons_succ])
        refine wpAnyH_take (i := 2) (oi := Oper.mk (some 25) _ _ _ _ _) (v := ?_) rfl (by decide +kernel) (by decide +kernel) (by decide +kernel) (fun _ _ _ h => h) (Or.inl ⟨by rfl, ?_⟩) (by assumption) ?_
        rotate_left
        · (intro w hSw; (try dsimp only at hSw); go_simp <;> (try with_reducible rfl))
        (try simp only [Act.put, List.setIfInBounds_toArray, List.set_cons_zero, List.set_cons_succ])
        refine wpAnyH_ready (rs := [3]) (by decide +kernel) (by simp) ?_
        refine AllReadyH.cons (o := Oper.mk (some 26) _ _ _ _ _) rfl (fun K hK => ?_) AllReadyH.nil
        go_simp
        (go_at_call 40; refine (HT.out _ (Below.refl _ _).drew).mono ?_; rintro e w4 ⟨rfl, hb4'⟩; have HB1 : Hid (Below U.heap.size U w4) := bnext (Below.refl _ _).drew hb4'; clear hb4')
        (try go_wp2_with fail)
        clear hHeld
        refine hK.out _ _ (by (try dsimp only); exact KU9.out _ HB1.out) (fun hHeld => ?_)
        clear hK K
        (try simp only [Act.put, List.setIfInBounds_toArray, List.set_cons_zero, List.set_cons_succ])
        refine wpAnyH_take (i := 4) (oi := Oper.mk (some 27) _ _ _ _ _) (v := ?_) rfl (by decide +kernel) (by decide +kernel) (by decide +kernel) (fun _ _ _ h => h) (Or.inl ⟨by rfl, ?_⟩) (by assumption) ?_
        rotate_left
        · (intro w hSw; (try dsimp only at hSw); go_simp <;> (try with_reducible rfl))
        (try simp only [Act.put, List.setIfInBounds_toArray, List.set_cons_zero, List.set_cons_succ])
        refine wpAnyH_take (i := 5) (oi := Oper.mk (some 28) _ _ _ _ _) (v := ?_) rfl (by decide +kernel) (by decide +kernel) (by decide +kernel) (fun _ _ _ h => h) (Or.inl ⟨by rfl, ?_⟩) (by assumption) ?_
        rotate_left
        · (intro w hSw; (try dsimp only at hSw); go_simp <;> (try with_reducible rfl))
        (try simp only [Act.put, List.setIfInBounds_toArray, List.set_cons_zero, List.set_cons_succ])
        refine wpAnyH_take (i := 6) (oi := Oper.mk (some 29) _ _ _ _ _) (v := ?_) rfl (by decide +kernel) (by decide +kernel) (by decide +kernel) (fun _ _ _ h => h) (Or.inl ⟨by rfl, ?_⟩) (by assumption) ?_
        rotate_left
        · (intro w hSw; (try dsimp only at hSw); go_simp <;> (try with_reducible rfl))
        (try simp only [Act.put, List.setIfInBounds_toArray, List.set_cons_zero, List.set_cons_succ])
        refine wpAnyH_take (i := 7) (oi := Oper.mk (some 30) _ _ _ _ _) (v := ?_) rfl (by decide +kernel) (by decide +kernel) (by decide +kernel) (fun _ _ _ h => h) (Or.inl ⟨by rfl, ?_⟩) (by assumption) ?_
        rotate_left
        · (intro w hSw; (try dsimp only at hSw); go_simp <;> (try with_reducible rfl))
        (try simp only [Act.put, List.setIfInBounds_toArray, List.set_cons_zero, List.set_cons_succ])
        refine wpAnyH_take (i := 8) (oi := Oper.mk (some 31) _ _ _ _ _) (v := ?_) rfl (by decide +kernel) (by decide +kernel) (by decide +kernel) (fun _ _ _ h => h) (Or.inl ⟨by rfl, ?_⟩) (by assumption) ?_
        rotate_left
        · (intro w hSw; (try dsimp only at hSw); go_simp <;> (try with_reducible rfl))
        (try simp only [Act.put, List.setIfInBounds_toArray, List.set_cons_zero, List.set_cons_succ])
        refine wpAnyH_take (i := 9) (oi := Oper.mk (some 32) _ _ _ _ _) (v := ?_) rfl (by decide +kernel) (by decide +kernel) (by decide +kernel) (fun _ _ _ h => h) (Or.inl ⟨by rfl, ?_⟩) (by assumption) ?_
        rotate_left
        · (intro w hSw; (try dsimp only at hSw); go_simp <;> (try with_reducible rfl))
        (try simp only [Act.put, List.setIfInBounds_toArray, List.set_cons_zero, List.set_cons_succ])
        refine wpAnyH_take (i := 10) (oi := Oper.mk (some 33) _ _ _ _ _) (v := ?_) rfl (by decide +kernel) (by decide +kernel) (by decide +kernel) (fun _ _ _ h => h) (Or.inl ⟨by rfl, ?_⟩) (by assumption) ?_
        rotate_left
        · (intro w hSw; (try dsimp only at hSw); go_simp <;> (try with_reducible rfl))
        (try simp only [Act.put, List.setIfInBounds_toArray, List.set_cons_zero, List.set_cons_succ])
        refine wpAnyH_take (i := 11) (oi := Oper.mk (some 34) _ _ _ _ _) (v := ?_) rfl (by decide +kernel) (by decide +kernel) (by decide +kernel) (fun _ _ _ h => h) (Or.inl ⟨by rfl, ?_⟩) (by assumption) ?_
        rotate_left
        · (intro w hSw; (try dsimp only at hSw); go_simp <;> (try with_reducible rfl))
        (try simp only [Act.put, List.setIfInBounds_toArray, List.set_cons_zero, List.set_cons_succ])
        refine wpAnyH_take (i := 12) (oi := Oper.mk (some 35) _ _ _ _ _) (v := ?_) rfl (by decide +kernel) (by decide +kernel) (by decide +kernel) (fun _ _ _ h => h) (Or.inl ⟨by rfl, ?_⟩) (by assumption) ?_
        rotate_left
        · (intro w hSw; (try dsimp only at hSw); go_simp <;> (try with_reducible rfl))
        (try simp only [Act.put, List.setIfInBounds_toArray, List.set_cons_zero, List.set_cons_succ])
        refine wpAnyH_take (i := 13) (oi := Oper.mk (some 36) _ _ _ _ _) (v := ?_) rfl (by decide +kernel) (by decide +kernel) (by decide +kernel) (fun _ _ _ h => h) (Or.inl ⟨by rfl, ?_⟩) (by assumption) ?_
        rotate_left
        · (intro w hSw; (try dsimp only at hSw); go_simp <;> (try with_reducible rfl))
        (try simp only [Act.put, List.setIfInBounds_toArray, List.set_cons_zero, List.set_cons_succ])
        refine wpAnyH_take (i := 14) (oi := Oper.mk (some 37) _ _ _ _ _) (v := ?_) rfl (by decide +kernel) (by decide +kernel) (by decide +kernel) (fun _ _ _ h => h) (Or.inl ⟨by rfl, ?_⟩) (by assumption) ?_
        rotate_left
        · (intro w hSw; (try dsimp only at hSw); go_simp <;> (try with_reducible rfl))
        (try simp only [Act.put, List.setIfInBounds_toArray, List.set_cons_zero, List.set_cons_succ])
        refine wpAnyH_take (i := 15) (oi := Oper.mk (some 38) _ _ _ _ _) (v := ?_) rfl (by decide +kernel) (by decide +kernel) (by decide +kernel) (fun _ _ _ h => h) (Or.inl ⟨by rfl, ?_⟩) (by assumption) ?_
        rotate_left
        · (intro w hSw; (try dsimp only at hSw); go_simp <;> (try with_reducible rfl))
        (try simp only [Act.put, List.setIfInBounds_toArray, List.set_cons_zero, List.set_cons_succ])
        refine wpAnyH_take (i := 16) (oi := Oper.mk (some 39) _ _ _ _ _) (v := ?_) rfl (by decide +kernel) (by decide +kernel) (by decide +kernel) (fun _ _ _ h => h) (Or.inl ⟨by rfl, ?_⟩) (by assumption) ?_
        rotate_left
        · (intro w hSw; (try dsimp only at hSw); go_simp <;> (try with_reducible rfl))
        (try simp only [Act.put, List.setIfInBounds_toArray, List.set_cons_zero, List.set_cons_succ])
        refine wpAnyH_take (i := 17) (oi := Oper.mk (some 40) _ _ _ _ _) (v := ?_) rfl (by decide +kernel) (by decide +kernel) (by decide +kernel) (fun _ _ _ h => h) (Or.inl ⟨by rfl, ?_⟩) (by assumption) ?_
        rotate_left
        · (intro w hSw; (try dsimp only at hSw); go_simp <;> (try with_reducible rfl))
        (try simp only [Act.put, List.setIfInBounds_toArray, List.set_cons_zero, List.set_cons_succ])
        refine wpAnyH_ready (rs := [18]) (by decide +kernel) (by simp) ?_
        refine AllReadyH.cons (o := Oper.mk (some 41) _ _ _ _ _) rfl (fun K hK => ?_) AllReadyH.nil
        go_simp
        (go_at_call 24; refine (HCE.out _ HB1.out).mono ?_; rintro e w6 ⟨rfl, hb6'⟩; have HB2 : Hid (Below U.heap.size U w6) := bnext HB1.out hb6'; clear hb6')
        (try go_wp2_with fail)
        clear hHeld
        refine hK.out _ _ (by (try dsimp only); exact KU9.out _ HB2.out) (fun hHeld => ?_)
        clear hK K
        (try simp only [Act.put, List.setIfInBounds_toArray, List.set_cons_zero, List.set_cons_succ])
        refine wpAnyH_take (i := 19) (oi := Oper.mk (some 42) _ _ _ _ _) (v := ?_) rfl (by decide +kernel) (by decide +kernel) (by decide +kernel) (fun _ _ _ h => h) (Or.inl ⟨by rfl, ?_⟩) (by assumption) ?_
        rotate_left
        · (intro w hSw; (try dsimp only at hSw); go_simp <;> (try with_reducible rfl))
        (try simp only [Act.put, List.setIfInBounds_toArray, List.set_cons_zero, List.set_cons_succ])
        refine wpAnyH_take (i := 20) (oi := Oper.mk (some 43) _ _ _ _ _) (v := ?_) rfl (by decide +kernel) (by decide +kernel) (by decide +kernel) (fun _ _ _ h => h) (Or.inl ⟨by rfl, ?_⟩) (by assumption) ?_
        rotate_left
        · (intro w hSw; (try dsimp only at hSw); go_simp <;> (try with_reducible rfl))
        (try simp only [Act.put, List.setIfInBounds_toArray, List.set_cons_zero, List.set_cons_succ])
        refine wpAnyH_take (i := 21) (oi := Oper.mk (some 44) _ _ _ _ _) (v := ?_) rfl (by decide +kernel) (by decide +kernel) (by decide +kernel) (fun _ _ _ h => h) (Or.inl ⟨by rfl, ?_⟩) (by assumption) ?_
        rotate_left
        · (intro w hSw; (try dsimp only at hSw); go_simp <;> (try with_reducible rfl))
        (try simp only [Act.put, List.setIfInBounds_toArray, List.set_cons_zero, List.set_cons_succ])
        refine wpAnyH_done (by decide +kernel) ?_ _
        refine NoPanic.normal ?_
        go_wp2
        go_roundw
        case rel => exact ⟨k + 1, by omega, by go_num, bnext HU.out.2 HB2.out⟩
        case measure => simp [intOf]; omega
    · have z1 : ¬ (k : Int) < (tl : Int) := by omega
      go_wp2
      go_ret
      exact ⟨rfl, bnext HW.out.1 HS.out⟩
/-- a polynomial in n variables, which is a good one, lies in memory -/
def MPAt (w : World) (n : Int) (tp : Option Addr) (tl tc : Nat) (T : List (List Int × Bool × List Int)) : Prop := TermsAt w tp tl tc T ∧ GoodM n T
theorem MPAt.later {w w' : World} {n : Int} {tp : Option Addr} {tl tc : Nat} {T : List (List Int × Bool × List Int)} (h : MPAt w n tp tl tc T) (hb : Below w.heap.size w w') : MPAt w' n tp tl tc T := ⟨h.1.later hb, h.2⟩
/-- two boxes, each of a polynomial -/
theorem box2 {w W : World} {n m : Int} {po qo : Option Addr} {pl pc ql qc : Nat} (hW : W = (w.alloc (.cells #[.int .i64 n, .slice po pl pc] 25)).alloc (.cells #[.int .i64 m, .slice qo ql qc] 25)) :
    Below w.heap.size w W ∧ ∀ w', Below W.heap.size W w' → w'.cell? ⟨w.heap.size, 0, none⟩ = some (.int .i64 n) ∧ w'.cell? ⟨w.heap.size, 1, none⟩ = some (.slice po pl pc) ∧ w'.cell? ⟨w.heap.size + 1, 0, none⟩ = some (.int .i64 m) ∧ w'.cell? ⟨w.heap.size + 1, 1, none⟩ = some (.slice qo ql qc) := by
  have hb1 : Below w.heap.size w (w.alloc (.cells #[.int .i64 n, .slice po pl pc] 25)) := (Below.refl _ _).alloc (Nat.le_refl _) _
  have hb : Below w.heap.size w W := by rw [hW]; exact bnext hb1 ((Below.refl _ _).alloc (Nat.le_refl _) _)
  refine ⟨hb, fun w' h => ?_⟩
  rw [hW] at h
  have h1 : Below (w.alloc (.cells #[.int .i64 n, .slice po pl pc] 25)).heap.size (w.alloc (.cells #[.int .i64 n, .slice po pl pc] 25)) w' := bnext ((Below.refl _ _).alloc (Nat.le_refl _) _) h
  have k1 : ∀ j v, [Value.int .i64 n, .slice po pl pc][j]? = some v → w'.cell? ⟨w.heap.size, j, none⟩ = some v := fun j v hj => by
    rw [h1.cell (p := ⟨w.heap.size, j, none⟩) (by simp)]
    simpa [go_sem] using hj
  have k2 : ∀ j v, [Value.int .i64 m, .slice qo ql qc][j]? = some v → w'.cell? ⟨w.heap.size + 1, j, none⟩ = some v := fun j v hj => by
    rw [h.cell (p := ⟨w.heap.size + 1, j, none⟩) (by simp)]
    simpa [go_sem] using hj
  exact ⟨k1 0 _ rfl, k1 1 _ rfl, k2 0 _ rfl, k2 1 _ rfl⟩
set_option maxRecDepth 100000 in
set_option maxHeartbeats 2000000 in
theorem mcheckBoth_good (n : Int) (po qo : Option Addr) (pl pc ql qc : Nat) (P Q : List (List Int × Bool × List Int)) (w : World) (hp : MPAt w n po pl pc P) (hq : MPAt w n qo ql qc Q) :
    Calls Tryz.prog 13 #[.agg #[.int .i64 n, .slice po pl pc], .agg #[.int .i64 n, .slice qo ql qc]] w fun e w' => e = .returned (.int .i64 0) ∧ Below w.heap.size w w' := by
  obtain ⟨W, hW⟩ : ∃ W, W = (w.alloc (.cells #[.int .i64 n, .slice po pl pc] 25)).alloc (.cells #[.int .i64 n, .slice qo ql qc] 25) := ⟨_, rfl⟩
  obtain ⟨hbW, hk⟩ := box2 hW
  have HWE : Hid (W = (w.alloc (.cells #[.int .i64 n, .slice po pl pc] 25)).alloc (.cells #[.int .i64 n, .slice qo ql qc] 25)) := hW
  have HP : Hid (MPAt W n po pl pc P ∧ MPAt W n qo ql qc Q) := ⟨hp.later hbW, hq.later hbW⟩
  have HB : Hid (Below w.heap.size w W) := hbW
  have KC : Hid (∀ w', Below W.heap.size W w' → w'.cell? ⟨w.heap.size, 0, none⟩ = some (.int .i64 n) ∧ w'.cell? ⟨w.heap.size, 1, none⟩ = some (.slice po pl pc) ∧ w'.cell? ⟨w.heap.size + 1, 0, none⟩ = some (.int .i64 n) ∧ w'.cell? ⟨w.heap.size + 1, 1, none⟩ = some (.slice qo ql qc)) := hk
  clear hW hbW hk hp hq
  go_enter Tryz.func13, Tryz.ntmps13
  go_wp2_with (first
    | (go_at_call 23; refine (mcheck_good n qo ql qc Q _ (HP.out.2.later H1.out).1 HP.out.2.2).mono ?_; rintro e w2 ⟨rfl, hb2⟩; have H2 : Hid (Below W.heap.size W w2) := bnext H1.out hb2; obtain ⟨d0, d1, d2, d3⟩ := KC.out _ H2.out; clear hb2 c0 c1 c2 c3)
    | (go_at_call 23; rw [← HWE.out]; refine (mcheck_good n po pl pc P W HP.out.1.1 HP.out.1.2).mono ?_; rintro e w1 ⟨rfl, hb1⟩; have H1 : Hid (Below W.heap.size W w1) := hb1; obtain ⟨c0, c1, c2, c3⟩ := KC.out _ H1.out; clear hb1))
  go_ret
  exact ⟨rfl, bnext HB.out H2.out⟩
set_option maxRecDepth 100000 in
set_option maxHeartbeats 2000000 in
theorem mcmp_good (n : Int) (po qo : Option Addr) (pl pc ql qc : Nat) (P Q : List (List Int × Bool × List Int)) (c : Int) (w : World) (hp : MPAt w n po pl pc P) (hq : MPAt w n qo ql qc Q) (hla : ∀ t, (h : t < P.length) → P[t].2.2.length ≤ 4294967296) (hlb : ∀ t, (h : t < Q.length) → Q[t].2.2.length ≤ 4294967296) (hc : polyC (P.map plainT) (Q.map plainT) = c) :
    Calls Tryz.prog 6 #[.agg #[.int .i64 n, .slice po pl pc], .agg #[.int .i64 n, .slice qo ql qc]] w fun e w' => e = .returned (.int .i64 c) ∧ Below w.heap.size w w' := by
  obtain ⟨W, hW⟩ : ∃ W, W = (w.alloc (.cells #[.int .i64 n, .slice po pl pc] 25)).alloc (.cells #[.int .i64 n, .slice qo ql qc] 25) := ⟨_, rfl⟩
  obtain ⟨hbW, hk⟩ := box2 hW
  have HWE : Hid (W = (w.alloc (.cells #[.int .i64 n, .slice po pl pc] 25)).alloc (.cells #[.int .i64 n, .slice qo ql qc] 25)) := hW
  have HP : Hid (MPAt W n po pl pc P ∧ MPAt W n qo ql qc Q) := ⟨hp.later hbW, hq.later hbW⟩
  have HL : Hid ((∀ t, (h : t < P.length) → P[t].2.2.length ≤ 4294967296) ∧ (∀ t, (h : t < Q.length) → Q[t].2.2.length ≤ 4294967296) ∧ polyC (P.map plainT) (Q.map plainT) = c) := ⟨hla, hlb, hc⟩
  have HB : Hid (Below w.heap.size w W) := hbW
  have KC : Hid (∀ w', Below W.heap.size W w' → w'.cell? ⟨w.heap.size, 0, none⟩ = some (.int .i64 n) ∧ w'.cell? ⟨w.heap.size, 1, none⟩ = some (.slice po pl pc) ∧ w'.cell? ⟨w.heap.size + 1, 0, none⟩ = some (.int .i64 n) ∧ w'.cell? ⟨w.heap.size + 1, 1, none⟩ = some (.slice qo ql qc)) := hk
  clear hW hbW hk hp hq hla hlb hc
  go_enter Tryz.func6, Tryz.ntmps6
  go_wp2_with (first
    | (go_at_call 13; rw [← HWE.out]; refine (mcheckBoth_good n po qo pl pc ql qc P Q W HP.out.1 HP.out.2).mono ?_; rintro e w1 ⟨rfl, hb1⟩; have H1 : Hid (Below W.heap.size W w1) := hb1; obtain ⟨c0, c1, c2, c3⟩ := KC.out _ H1.out; clear hb1)
    | (go_at_call 14; refine (mcompare_any n po qo pl pc ql qc P Q c _ (HP.out.1.later H1.out).1 (HP.out.2.later H1.out).1 HP.out.1.2 HP.out.2.2 HL.out.1 HL.out.2.1 HL.out.2.2).mono ?_; rintro e w2 ⟨rfl, hb2⟩; have H2 : Hid (Below W.heap.size W w2) := bnext H1.out hb2; clear hb2))
  go_ret
  exact ⟨rfl, bnext HB.out H2.out⟩
end Go.Proofs.YtiemgadnnnhmkaaGreat
/-
  Walks: timesPlain.
-/
namespace Go.Proofs.YtiemgadnnnhmkaaGreat
open Go.RowKit
set_option linter.unusedVariables false
set_option linter.unusedSimpArgs false
/-- x times the first k digits of y lies in Lk from off on; above it noughts -/
structure ProdSt (q : Int) (L x y : List Int) (off lx ly k : Nat) (Lk : List Int) : Prop where
  len : Lk.length = L.length
  out : ∀ j, j < off ∨ off + (lx + ly) ≤ j → dig Lk j = dig L j
  wd : Wd q Lk
  zero : ∀ j, off + (lx + k) ≤ j → j < off + (lx + ly) → dig Lk j = 0
  eq : V q Lk off (lx + k) = val q x * val q (y.take k)
theorem dig_splice {L cs : List Int} {off : Nat} (h : off + cs.length ≤ L.length) (j : Nat) : dig (splice L off cs) j = if j < off then dig L j else if j < off + cs.length then dig cs (j - off) else dig L j := by
  unfold splice dig
  simp only [List.getD_eq_getElem?_getD, List.getElem?_append, List.length_take, List.getElem?_take, List.getElem?_drop]
  rw [Nat.min_eq_left (by omega)]
  by_cases h1 : j < off
  · simp [h1]
  · by_cases h2 : j < off + cs.length
    · rw [if_neg h1, if_neg h1, if_pos h2, if_pos (by omega)]
    · rw [if_neg h1, if_neg h1, if_neg h2, if_neg (by omega)]
      congr 2; omega
theorem dig_zeros (n j : Nat) : dig (List.replicate n (0 : Int)) j = 0 := by
  unfold dig; simp only [List.getD_eq_getElem?_getD, List.getElem?_replicate]; split <;> rfl
theorem wd_splice {q : Int} {L cs : List Int} {off : Nat} (h : Wd q L) (hc : Wd q cs) : Wd q (splice L off cs) := by
  unfold splice; exact (h.take _).append (hc.append (h.drop _))
theorem wd_zeros {q : Int} (hq : 0 < q) (n : Nat) : Wd q (List.replicate n 0) := fun z hz => by
  have := List.eq_of_mem_replicate hz; subst this; exact ⟨Int.le_refl _, hq⟩
theorem V_zeros {q : Int} {L : List Int} {off k : Nat} (h : ∀ j, j < k → dig L (off + j) = 0) : V q L off k = 0 := by
  induction k with
  | zero => exact V_zero q L off
  | succ k ih => rw [V_succ, ih (fun j hj => h j (by omega)), h k (by omega)]; simp
theorem ProdSt.start {q : Int} (hq : 0 < q) {L x y : List Int} {off lx ly : Nat} (hW : Wd q L) (hl : off + (lx + ly) ≤ L.length) : ProdSt q L x y off lx ly 0 (splice L off (List.replicate (lx + ly) 0)) := by
  have hd := fun j => dig_splice (L := L) (cs := List.replicate (lx + ly) (0 : Int)) (off := off) (by simpa using hl) j
  simp only [List.length_replicate] at hd
  refine ⟨length_splice _ _ _ (by simpa using hl), fun j hj => ?_, wd_splice hW (wd_zeros hq _), fun j h1 h2 => ?_, ?_⟩
  · rw [hd]; rcases hj with h | h
    · rw [if_pos h]
    · rw [if_neg (by omega), if_neg (by omega)]
  · rw [hd, if_neg (by omega), if_pos h2, dig_zeros]
  · rw [V_zeros (fun j hj => by rw [hd, if_neg (by omega), if_pos (by omega), dig_zeros])]
    simp [val]
/-- a nought of y -/
theorem ProdSt.skip {q : Int} {L x y : List Int} {off lx ly k : Nat} {Lk : List Int} (h : ProdSt q L x y off lx ly k Lk) (hk : k < ly) (hy : dig y k = 0) : ProdSt q L x y off lx ly (k + 1) Lk := by
  refine ⟨h.len, h.out, h.wd, fun j h1 h2 => h.zero j (by omega) h2, ?_⟩
  rw [← Nat.add_assoc, V_succ, h.zero (off + (lx + k)) (by omega) (by omega), val_take_dig, hy, h.eq]; simp
theorem ProdSt.step {q : Int} {L x y : List Int} {off lx ly k : Nat} {Lk L' : List Int} {c : Int} (h : ProdSt q L x y off lx ly k Lk) (hl : off + (lx + ly) ≤ L.length) (hk : k < ly) (hx : x.length ≤ lx)
    (hm : MulSt q Lk x (dig y k) (off + k) lx c L') : ProdSt q L x y off lx ly (k + 1) (L'.set (off + (k + lx)) c) := by
  have hlen : off + (k + lx) < L'.length := by rw [hm.len, h.len]; omega
  refine ⟨by simp [hm.len, h.len], fun j hj => ?_, hm.wd.set _ ⟨hm.c0, hm.c1⟩, fun j h1 h2 => ?_, ?_⟩
  · rw [dig_set _ hlen, if_neg (by omega), hm.out j (by omega)]; exact h.out j hj
  · rw [dig_set _ hlen, if_neg (by omega), hm.out j (by omega)]; exact h.zero j (by omega) h2
  · have e0 : lx + (k + 1) = k + (lx + 1) := by omega
    rw [e0, V_split]
    have e1 : V q (L'.set (off + (k + lx)) c) off k = V q Lk off k := V_congr fun j hj => by rw [dig_set _ hlen, if_neg (by omega), hm.out _ (by omega)]
    have e2 : V q (L'.set (off + (k + lx)) c) (off + k) lx = V q L' (off + k) lx := V_congr fun j hj => by rw [dig_set _ hlen, if_neg (by omega)]
    rw [V_succ, e1, e2, dig_set _ hlen, if_pos (by omega)]
    have e3 := hm.eq
    rw [List.take_of_length_le hx] at e3
    have e4 := h.eq
    have e5 : lx + k = k + lx := by omega
    rw [e5, V_split] at e4
    rw [val_take_dig]
    have e6 : q ^ lx * c = c * q ^ lx := Int.mul_comm _ _
    rw [e6, e3]
    grind
/-- what timesPlain leaves -/
def Product (w w' : World) (e : Ending) (g off n : Nat) (L : List Int) (T : Int) : Prop :=
  ∃ L', e = .returned (.tuple #[]) ∧ Blk w' g .u64 80 L' ∧ L'.length = L.length ∧ Wd 18446744073709551616 L' ∧ (∀ j, j < off ∨ off + n ≤ j → dig L' j = dig L j) ∧ V 18446744073709551616 L' off n = T ∧ Touch g w w'
set_option maxRecDepth 100000 in
set_option maxHeartbeats 2000000 in
theorem timesPlain_any (g off cap : Nat) (ao : Option Addr) (lx ca : Nat) (bo : Option Addr) (ly cb : Nat) (L xs ys : List Int) (w : World) (hb : Blk w g .u64 80 L) (hW : Wd 18446744073709551616 L) (hn : off + (lx + ly) ≤ L.length) (hnc : lx + ly ≤ cap) (hcap : cap ≤ 4611686018427387904)
    (hx : RowAt w .u64 ao lx ca xs) (hxW : Wd 18446744073709551616 xs) (hy : RowAt w .u64 bo ly cb ys) (hyW : Wd 18446744073709551616 ys) (hlx : 0 < lx) (hax : Apart ao lx g off (lx + ly)) (hay : Apart bo ly g off (lx + ly)) :
    Calls Tryz.prog 90 #[.slice (some ⟨g, off, none⟩) (lx + ly) cap, .slice ao lx ca, .slice bo ly cb] w fun e w' => Product w w' e g off (lx + ly) L (val 18446744073709551616 xs * val 18446744073709551616 ys) := by
  obtain ⟨i0, hi, hz0, hz1, hz2⟩ := info_parts info64
  have HH : Hid (Blk w g .u64 80 L ∧ Wd 18446744073709551616 L ∧ off + (lx + ly) ≤ L.length ∧ (Wd 18446744073709551616 xs ∧ Wd 18446744073709551616 ys) ∧ Apart ao lx g off (lx + ly) ∧ Apart bo ly g off (lx + ly)) := ⟨hb, hW, hn, ⟨hxW, hyW⟩, hax, hay⟩
  have HR : Hid (RowAt w .u64 ao lx ca xs ∧ RowAt w .u64 bo ly cb ys) := ⟨hx, hy⟩
  have hpos : Hid (0 < lx + ly) := by show _ < _; omega
  clear hb hW hn hxW hyW hax hay hx hy
  go_enter Tryz.func90, Tryz.ntmps90
  go_wp2_with (refine wpList_clear rfl (.tmp 8) 27 80 rfl Tryz.underlying27 i0 .u64 hi hz0 g off (lx + ly) cap hpos.out rfl 80 L HH.out.1 HH.out.2.2.1 ?_; intro w1 HB1)
  go_loopw [11] (fun i wr => ∃ (k : Nat) (Lk : List Int), k ≤ ly ∧ i = .int .i64 k ∧ ProdSt 18446744073709551616 L xs ys off lx ly k Lk ∧ Blk wr g .u64 80 Lk ∧ Touch g w wr) (fun i _ => ly - (intOf i).toNat)
  case atStart => exact ⟨0, _, Nat.zero_le _, rfl, ProdSt.start (by decide) HH.out.2.1 HH.out.2.2.1, HB1.out.1, HB1.out.2⟩
  case round =>
    obtain ⟨k, Lk, hk, rfl, hst, hbl, hto⟩ := hrel
    have HS : Hid (ProdSt 18446744073709551616 L xs ys off lx ly k Lk ∧ Blk wr g .u64 80 Lk ∧ Touch g w wr) := ⟨hst, hbl, hto⟩
    by_cases hlt : k < ly
    · have hyr : RowAt wr .u64 bo ly cb ys := row_touch HR.out.2 HH.out.1 hbl hto HH.out.2.2.2.2.2 (fun j hj => hst.out j (by omega)) hst.len
      have hxr : RowAt wr .u64 ao lx ca xs := row_touch HR.out.1 HH.out.1 hbl hto HH.out.2.2.2.2.1 (fun j hj => hst.out j (by omega)) hst.len
      have HXR : Hid (RowAt wr .u64 ao lx ca xs) := hxr
      obtain ⟨b', o', rfl, hb', hc'⟩ := hyr.get (by omega)
      have hcy := hc' k hlt
      obtain ⟨y, hyv⟩ : ∃ y, dig ys k = y := ⟨_, rfl⟩
      rw [hyv] at hcy
      have HY : Hid (dig ys k = y) := hyv
      have hyb : 0 ≤ y ∧ y < 18446744073709551616 := hyv ▸ HH.out.2.2.2.1.2.dig (by decide) k
      clear hc' hyr hxr hyv hst hto
      by_cases hy0 : y = 0
      · subst hy0
        clear hbl
        go_wp2
        go_roundw
        case rel => exact ⟨k + 1, Lk, by omega, by go_num, HS.out.1.skip hlt HY.out, HS.out.2.1, HS.out.2.2⟩
        case measure => simp [intOf]; omega
      · have hy1 : (y != 0) = true := by simpa using hy0
        have hck : k < cap := by omega
        have hap2 : Hid (Apart ao lx g (off + k) lx) := fun b o e t ht k' hk' e' => by
          have := HH.out.2.2.2.2.1 b o e t ht (k + k') (by omega) e'; omega
        clear hbl hy0
        have hlk : Hid (off + (lx + ly) ≤ Lk.length) := by show _ ≤ _; rw [HS.out.1.len]; exact HH.out.2.2.1
        go_wp2_with (go_at_call 108; refine (addTimes_any g (off + k) lx (cap - k) ao lx ca Lk xs y wr HS.out.2.1 HS.out.1.wd (by have := hlk.out; omega) (by omega) (by omega) HXR.out HH.out.2.2.2.1.1 (Nat.le_refl _) hap2.out hyb).mono ?_; rintro e w2 ⟨c, L', rfl, hb2, hm2, ht2⟩; have HM : Hid (MulSt 18446744073709551616 Lk xs y (off + k) lx c L' ∧ Touch g wr w2 ∧ Blk w2 g .u64 80 L') := ⟨hm2, ht2, hb2⟩; have hcz := hb2.cell (j := off + (k + lx)) (by have h1 := hm2.len; have h2 := hlk.out; omega); have hfz := hb2.frozen (off + (k + lx)); have hgs : g < w2.heap.size := hb2.lt; clear hm2 ht2 hb2)
        go_roundw
        case rel => exact ⟨k + 1, L'.set (off + (k + lx)) c, by omega, by go_num, HS.out.1.step HH.out.2.2.1 hlt (by rw [← HR.out.1.hlen]; exact Nat.le_refl _) (HY.out ▸ HM.out.1), HM.out.2.2.set _ _, (HS.out.2.2.trans HM.out.2.1).set _ _⟩
        case measure => simp [intOf]; omega
    · obtain rfl : k = ly := by omega
      clear hst hbl hto
      go_wp2
      go_end0
      refine ⟨Lk, rfl, HS.out.2.1, HS.out.1.len, HS.out.1.wd, HS.out.1.out, ?_, HS.out.2.2⟩
      have := HS.out.1.eq
      rw [List.take_of_length_le (by rw [← HR.out.2.hlen]; exact Nat.le_refl _)] at this
      exact this
end Go.Proofs.YtiemgadnnnhmkaaGreat
/-
  Walks: timesLimbs, times (the shorter one below 40 limbs).
-/
namespace Go.Proofs.YtiemgadnnnhmkaaGreat
open Go.RowKit
set_option linter.unusedVariables false
set_option linter.unusedSimpArgs false
theorem mag_of_one {n : Nat} (h : (mag n).length = 1) : mag n = [(n : Int)] ∧ 0 < n ∧ n < 18446744073709551616 := by
  have h1 : 0 < n := mag_len_pos.1 (by omega)
  have h2 : n < 18446744073709551616 := by
    by_cases e : n < 18446744073709551616
    · exact e
    · have := mag_two (n := n) (by omega); omega
  exact ⟨mag_one h1 h2, h1, h2⟩
set_option maxRecDepth 100000 in
set_option maxHeartbeats 400000 in
theorem timesLimbs_any (u v : Int) (a b : Nat) (w : World) (hu : u = (a : Int)) (hv : v = (b : Int)) (ha : 0 < a) (hb : 0 < b) (ha' : a < 18446744073709551616) (hb' : b < 18446744073709551616) :
    Calls Tryz.prog 89 #[.int .u64 u, .int .u64 v] w fun e w' => NewNat w w' e (a * b) := by
  obtain ⟨hi, lo, hmul, hhi, hlo, hml⟩ := mul64_ex u v (by omega) (by omega)
  have hp : 0 < a * b := Nat.mul_pos ha hb
  rw [hu, hv, ← Int.natCast_mul] at hml
  obtain ⟨P, hP⟩ : ∃ P, a * b = P := ⟨_, rfl⟩
  rw [hP] at hml hp ⊢
  obtain ⟨h1, h2⟩ := hhi
  obtain ⟨h3, h4⟩ := hlo
  by_cases h0 : hi = 0
  · subst h0
    have HP : Hid (mag P = [lo]) := mag_of (Wd.one ⟨h3, h4⟩) (by simp [Can]; omega) (by simp [val]; omega)
    have hbk : Hid (Blk (w.alloc (.cells #[.int .u64 lo] 80)) w.heap.size .u64 80 [lo]) := Blk.new w .u64 80 [lo]
    clear hml hu hv hP
    go_enter Tryz.func89, Tryz.ntmps89
    go_wp2_with (go_at_call 107; refine (hmul _).mono ?_; rintro e w' ⟨rfl, rfl⟩)
    go_ret
    exact ⟨_, _, _, rfl, by rw [HP.out]; exact Own.whole hbk.out (Nat.le_refl _) rfl, (Below.refl _ _).alloc (Nat.le_refl _) _⟩
  · have h0' : (hi == 0) = false := by simpa using h0
    have HP : Hid (mag P = [lo, hi]) := mag_of (Wd.cons ⟨h3, h4⟩ (Wd.one ⟨h1, by omega⟩)) (by simp [Can]; omega) (by simp [val]; omega)
    have hbk : Hid (Blk (w.alloc (.cells #[.int .u64 lo, .int .u64 hi] 80)) w.heap.size .u64 80 [lo, hi]) := Blk.new w .u64 80 [lo, hi]
    clear hml hu hv hP h0
    go_enter Tryz.func89, Tryz.ntmps89
    go_wp2_with (go_at_call 107; refine (hmul _).mono ?_; rintro e w' ⟨rfl, rfl⟩)
    go_ret
    exact ⟨_, _, _, rfl, by rw [HP.out]; exact Own.whole hbk.out (Nat.le_refl _) rfl, (Below.refl _ _).alloc (Nat.le_refl _) _⟩
set_option maxRecDepth 100000 in
set_option maxHeartbeats 2000000 in
theorem times_small (ao bo : Option Addr) (la ca lb cb : Nat) (a b : Nat) (w : World) (hxa : RowAt w .u64 ao la ca (mag a)) (hxb : RowAt w .u64 bo lb cb (mag b)) (hl : la ≤ 4294967296) (hl' : lb ≤ 4294967296) (h40 : la < 40 ∨ lb < 40) :
    Calls Tryz.prog 81 #[.slice ao la ca, .slice bo lb cb] w fun e w' => NewNat w w' e (a * b) := by
  obtain ⟨i0, hi, hz0, hz1, hz2⟩ := info_parts info64
  by_cases hlt : la < lb
  · have h40' : la < 40 := by omega
    clear h40
    have HX : Hid (RowAt w .u64 bo lb cb (mag b) ∧ RowAt w .u64 ao la ca (mag a)) := ⟨hxb, hxa⟩
    clear hxa hxb
    by_cases h0 : la = 0
    · have e0 : a = 0 := by
        have := HX.out.2.hlen; rw [h0] at this
        exact (limbs_eq_nil (q := 18446744073709551616) (by decide)).1 (List.eq_nil_of_length_eq_zero this.symm)
      have HP : Hid (a * b = 0) := by show _ = _; rw [e0]; simp
      subst h0
      clear e0
      go_enter Tryz.func81, Tryz.ntmps81
      go_wp2
      go_ret
      exact ⟨none, 0, 0, rfl, by rw [HP.out]; exact Own.none_, Below.refl _ _⟩
    · have h0' : ((la : Int) == 0) = false := by simp; omega
      by_cases h1 : lb = 1
      · exfalso; omega
      · have h1' : ((lb : Int) == 1) = false := by simp; omega
        have b1 : Hid (i0.bytes * (lb + la) ≤ 281474976710656) := by show _ ≤ _; rw [hz2]; omega
        have b2 : Hid (lb + la ≤ maxLen) := by show _ ≤ _; unfold maxLen; omega
        have b3 : Hid (Wd 18446744073709551616 (List.replicate (lb + la) 0)) := wd_zeros (by decide) _
        go_enter Tryz.func81, Tryz.ntmps81
        go_wp2_with (first
          | (at_make; refine wpList_make_full _ rfl (.tmp 32) (.tmp 32) 28 rfl w.heap.size 80 i0 (.int .u64 0) 1 Tryz.underlying28 hi hz0 hz1 .i64 .i64 _ _ (lb + la) rfl rfl (by omega) (by omega) b1.out b2.out (Nat.le_refl _) ?_; intro w1 hown1 hgrow1)
          | (go_at_call 90; refine (timesPlain_any w.heap.size 0 (lb + la) bo lb cb ao la ca (List.replicate (lb + la) 0) (mag b) (mag a) w1 (made_blk hown1) b3.out (by simp) (Nat.le_refl _) (by omega) (HX.out.1.later (grown_below hgrow1)) (mag_wd _) (HX.out.2.later (grown_below hgrow1)) (mag_wd _) (by omega) (apart_new HX.out.1 (Nat.le_refl _)) (apart_new HX.out.2 (Nat.le_refl _))).mono ?_; rintro e w2 ⟨L', rfl, hb2, hl2, hw2, _, hv2, ht2⟩; have hl3 : lb + la = L'.length := (by simp [hl2]); have HL : Hid (lb + la = L'.length ∧ V 18446744073709551616 L' 0 (lb + la) = val 18446744073709551616 (mag b) * val 18446744073709551616 (mag a)) := ⟨hl3, hv2⟩; clear hl2 hl3 hv2)
          | (go_at_call 94; refine (trim_any (some ⟨w.heap.size, 0, none⟩) (lb + la) (lb + la) L' w2 (Own.whole hb2 (Nat.le_refl _) HL.out.1).row (by omega)).mono ?_; rintro e w4 ⟨hT, rfl⟩; obtain ⟨ao', n', cap', hn', rfl, hrest⟩ := hT))
        go_ret
        exact Trimmed.nat (L := L') ⟨ao', n', cap', hn', rfl, hrest⟩ hb2 HL.out.1 (Nat.le_refl _) hw2 (by have := HL.out.2; rw [V_all _ HL.out.1, mag_val, mag_val, ← Int.natCast_mul, Nat.mul_comm b a] at this; exact this) ((grown_below hgrow1).trans (ht2.below (Nat.le_refl _)))
  · have h40' : lb < 40 := by omega
    clear h40
    have HX : Hid (RowAt w .u64 ao la ca (mag a) ∧ RowAt w .u64 bo lb cb (mag b)) := ⟨hxa, hxb⟩
    clear hxa hxb
    by_cases h0 : lb = 0
    · have e0 : b = 0 := by
        have := HX.out.2.hlen; rw [h0] at this
        exact (limbs_eq_nil (q := 18446744073709551616) (by decide)).1 (List.eq_nil_of_length_eq_zero this.symm)
      have HP : Hid (a * b = 0) := by show _ = _; rw [e0]; simp
      subst h0
      clear e0
      go_enter Tryz.func81, Tryz.ntmps81
      go_wp2
      go_ret
      exact ⟨none, 0, 0, rfl, by rw [HP.out]; exact Own.none_, Below.refl _ _⟩
    · have h0' : ((lb : Int) == 0) = false := by simp; omega
      by_cases h1 : la = 1
      · obtain rfl : lb = 1 := by omega
        subst h1
        obtain ⟨p, o, rfl, hp, hcp⟩ := HX.out.1.get (by omega)
        obtain ⟨p', o', rfl, hp', hcp'⟩ := HX.out.2.get (by omega)
        have k1 := hcp 0 (by omega)
        have k2 := hcp' 0 (by omega)
        simp only [Nat.add_zero] at k1 k2
        obtain ⟨u, hu⟩ : ∃ u, dig (mag a) 0 = u := ⟨_, rfl⟩
        obtain ⟨v, hv⟩ : ∃ v, dig (mag b) 0 = v := ⟨_, rfl⟩
        rw [hu] at k1; rw [hv] at k2
        have HU : Hid (dig (mag a) 0 = u ∧ dig (mag b) 0 = v) := ⟨hu, hv⟩
        have n1 := mag_of_one HX.out.1.hlen.symm
        have n2 := mag_of_one HX.out.2.hlen.symm
        have HN : Hid (u = (a : Int) ∧ v = (b : Int) ∧ 0 < a ∧ 0 < b ∧ a < 18446744073709551616 ∧ b < 18446744073709551616) := ⟨by rw [← hu, n1.1]; rfl, by rw [← hv, n2.1]; rfl, n1.2.1, n2.2.1, n1.2.2, n2.2.2⟩
        have HC : Hid (w.cell? ⟨p, o, none⟩ = some (.int .u64 u) ∧ w.cell? ⟨p', o', none⟩ = some (.int .u64 v)) := ⟨k1, k2⟩
        clear hcp hcp' hu hv n1 n2
        go_enter Tryz.func81, Tryz.ntmps81
        go_wp2
        go_region_held3 (fun w' => w'.cell? ⟨p, o, none⟩ = some (.int .u64 u) ∧ w'.cell? ⟨p', o', none⟩ = some (.int .u64 v))
          (first
            | exact HC.out
            | exact ⟨(hb1.cell (p := ⟨p, o, none⟩) hp).trans HC.out.1, (hb1.cell (p := ⟨p', o', none⟩) hp').trans HC.out.2⟩)
          (first | (go_at_call 89; refine (timesLimbs_any u v a b _ HN.out.1 HN.out.2.1 HN.out.2.2.1 HN.out.2.2.2.1 HN.out.2.2.2.2.1 HN.out.2.2.2.2.2).mono ?_; rintro e w1 ⟨ao1, l1, c1, rfl, ho1, hb1⟩))
        go_wp2
        go_ret
        exact ⟨_, _, _, rfl, ho1, (Below.refl _ _).drew.trans hb1⟩
      · have h1' : ((la : Int) == 1) = false := by simp; omega
        have b1 : Hid (i0.bytes * (la + lb) ≤ 281474976710656) := by show _ ≤ _; rw [hz2]; omega
        have b2 : Hid (la + lb ≤ maxLen) := by show _ ≤ _; unfold maxLen; omega
        have b3 : Hid (Wd 18446744073709551616 (List.replicate (la + lb) 0)) := wd_zeros (by decide) _
        go_enter Tryz.func81, Tryz.ntmps81
        go_wp2_with (first
          | (at_make; refine wpList_make_full _ rfl (.tmp 32) (.tmp 32) 28 rfl w.heap.size 80 i0 (.int .u64 0) 1 Tryz.underlying28 hi hz0 hz1 .i64 .i64 _ _ (la + lb) rfl rfl (by omega) (by omega) b1.out b2.out (Nat.le_refl _) ?_; intro w1 hown1 hgrow1)
          | (go_at_call 90; refine (timesPlain_any w.heap.size 0 (la + lb) ao la ca bo lb cb (List.replicate (la + lb) 0) (mag a) (mag b) w1 (made_blk hown1) b3.out (by simp) (Nat.le_refl _) (by omega) (HX.out.1.later (grown_below hgrow1)) (mag_wd _) (HX.out.2.later (grown_below hgrow1)) (mag_wd _) (by omega) (apart_new HX.out.1 (Nat.le_refl _)) (apart_new HX.out.2 (Nat.le_refl _))).mono ?_; rintro e w2 ⟨L', rfl, hb2, hl2, hw2, _, hv2, ht2⟩; have hl3 : la + lb = L'.length := (by simp [hl2]); have HL : Hid (la + lb = L'.length ∧ V 18446744073709551616 L' 0 (la + lb) = val 18446744073709551616 (mag a) * val 18446744073709551616 (mag b)) := ⟨hl3, hv2⟩; clear hl2 hl3 hv2)
          | (go_at_call 94; refine (trim_any (some ⟨w.heap.size, 0, none⟩) (la + lb) (la + lb) L' w2 (Own.whole hb2 (Nat.le_refl _) HL.out.1).row (by omega)).mono ?_; rintro e w4 ⟨hT, rfl⟩; obtain ⟨ao', n', cap', hn', rfl, hrest⟩ := hT))
        go_ret
        exact Trimmed.nat (L := L') ⟨ao', n', cap', hn', rfl, hrest⟩ hb2 HL.out.1 (Nat.le_refl _) hw2 (by have := HL.out.2; rw [V_all _ HL.out.1, mag_val, mag_val, ← Int.natCast_mul] at this; exact this) ((grown_below hgrow1).trans (ht2.below (Nat.le_refl _)))
end Go.Proofs.YtiemgadnnnhmkaaGreat
/-
  DV, DW.
-/
/- Plain mathematics: the quotient of two words by one, by halves (as math/bits.Div64 does it). -/
namespace Go.Proofs.YtiemgadnnnhmkaaGreat
open Go.RowKit
set_option linter.unusedVariables false
set_option linter.unusedSimpArgs false
/-- a guess of a half-word of the quotient: not too small; r is what the upper half leaves -/
structure DSt (b1 b0 u v q r : Int) : Prop where
  eq : q * b1 + r = u
  r0 : 0 ≤ r
  r1 : r < 4294967296
  q0 : 0 ≤ q
  q1 : q ≤ 4294967297
  up : u * 4294967296 + v < (q + 1) * (b1 * 4294967296 + b0)
theorem DSt.start {b1 b0 u v : Int} (h1 : 2147483648 ≤ b1) (h2 : b1 < 4294967296) (h3 : 0 ≤ b0) (h4 : b0 < 4294967296) (hu : 0 ≤ u) (hu' : u < b1 * 4294967296 + b0) (hv : 0 ≤ v) (hv' : v < 4294967296) : DSt b1 b0 u v (u / b1) (u % b1) := by
  have e := Int.mul_ediv_add_emod u b1
  have r0 := Int.emod_nonneg u (show b1 ≠ 0 by omega)
  have r1 := Int.emod_lt_of_pos u (show 0 < b1 by omega)
  have q0 : 0 ≤ u / b1 := Int.ediv_nonneg hu (by omega)
  obtain ⟨q, hq⟩ : ∃ q, u / b1 = q := ⟨_, rfl⟩
  obtain ⟨r, hr⟩ : ∃ r, u % b1 = r := ⟨_, rfl⟩
  rw [hq, hr] at e; rw [hq] at q0 ⊢; rw [hr] at r0 r1 ⊢
  refine ⟨by rw [Int.mul_comm]; exact e, r0, by omega, q0, ?_, ?_⟩
  · by_cases h : q ≤ 4294967297
    · exact h
    · exfalso
      have : b1 * 4294967298 ≤ b1 * q := Int.mul_le_mul_of_nonneg_left (by omega) (by omega)
      omega
  · have e1 : (q + 1) * (b1 * 4294967296 + b0) = (b1 * q) * 4294967296 + b1 * 4294967296 + (q + 1) * b0 := by grind
    have e2 : 0 ≤ (q + 1) * b0 := Int.mul_nonneg (by omega) h3
    rw [e1]; omega
/-- not too great -/
theorem DSt.done {b1 b0 u v q r : Int} (h : DSt b1 b0 u v q r) (hok : q * b0 ≤ 4294967296 * r + v) : q * (b1 * 4294967296 + b0) ≤ u * 4294967296 + v := by
  have e0 := h.eq
  have e1 : q * (b1 * 4294967296 + b0) = (q * b1) * 4294967296 + q * b0 := by grind
  rw [e1]; omega
end Go.Proofs.YtiemgadnnnhmkaaGreat
/- Walks: math/bits.Div64. -/
namespace Go.Proofs.YtiemgadnnnhmkaaGreat
open Go.RowKit
set_option linter.unusedVariables false
set_option linter.unusedSimpArgs false
end Go.Proofs.YtiemgadnnnhmkaaGreat
