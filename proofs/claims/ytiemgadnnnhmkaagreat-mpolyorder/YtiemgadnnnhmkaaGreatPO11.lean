/-
  NG: walks: equality of terms and of polynomials in several variables, of good ones. (gen/ng.py)
-/
import Derived.Test.YtiemgadnnnhmkaaGreatPO03
import Derived.Test.YtiemgadnnnhmkaaGreatPO08
import Derived.Test.YtiemgadnnnhmkaaGreatPO10
namespace Go.Proofs.YtiemgadnnnhmkaaGreat
open Go.RowKit
set_option linter.unusedVariables false
set_option linter.unusedSimpArgs false
set_option maxHeartbeats 800000 in
theorem eqnums_any (ao bo : Option Addr) (la ca lb cb : Nat) (x y : List Int) (w : World) (hx : RowAt w .i64 ao la ca x) (hy : RowAt w .i64 bo lb cb y) (hl : la ≤ 4611686018427387904) :
    Calls Tryz.prog 44 #[.slice ao la ca, .slice bo lb cb] w fun e w' => e = .returned (.bool (decide (x = y))) ∧ Below w.heap.size w w' := by
  by_cases hlen : la = lb
  · subst hlen
    have HX := hx.hlen; have HY := hy.hlen
    have hh : Hid (la = x.length ∧ la = y.length) := ⟨HX, HY⟩
    clear HX HY
    go_enter Tryz.func44, Tryz.ntmps44
    go_wp2
    go_loopw [5] (fun i wr => ∃ k : Nat, k ≤ la ∧ i = .int .i64 k ∧ (∃ nq, wr = w.drewN nq) ∧ ∀ t, t < k → dig x t = dig y t) (fun i _ => la - (intOf i).toNat)
    case atStart => exact ⟨0, Nat.zero_le _, rfl, ⟨0, rfl⟩, fun t ht => absurd ht (by omega)⟩
    case round =>
      obtain ⟨k, hk, rfl, ⟨nq, rfl⟩, hz⟩ := hrel
      have HZ : Hid (∀ t, t < k → dig x t = dig y t) := hz
      clear hz
      by_cases hlt : k < la
      · obtain ⟨b, off, rfl, hb, hc⟩ := hx.get (by omega)
        obtain ⟨b', off', rfl, hb', hc'⟩ := hy.get (by omega)
        have h1 := hc k hlt
        have h2 := hc' k hlt
        clear hx hy hc hc'
        have hlt' : (k : Int) < (la : Int) := by omega
        have hge' : (0 : Int) ≤ (k : Int) := by omega
        obtain ⟨u, hu⟩ : ∃ u, dig x k = u := ⟨_, rfl⟩
        obtain ⟨v, hv⟩ : ∃ v, dig y k = v := ⟨_, rfl⟩
        have HU : Hid (dig x k = u ∧ dig y k = v) := ⟨hu, hv⟩
        rw [hu] at h1; rw [hv] at h2
        clear hu hv
        by_cases he : u = v
        · subst he
          go_wp2
          go_quiet (fail)
          go_wp2
          go_roundw
          case rel => exact ⟨k + 1, by omega, by go_num, ⟨_, rfl⟩, fun t ht => by
            by_cases e : t = k
            · subst e; rw [HU.out.1, HU.out.2]
            · exact HZ.out t (by omega)⟩
          case measure => simp [intOf]; omega
        · have he' : (u != v) = true := by simpa using he
          have HE : Hid (¬ u = v) := he
          clear he
          go_wp2
          go_quiet (fail)
          go_wp2
          go_ret
          refine ⟨ret_bool (a := false) (decide_eq_false ?_).symm, below_drewN (below_drewN (Below.refl _ _) _) _⟩
          intro e; subst e
          exact HE.out (HU.out.1.symm.trans HU.out.2)
      · go_wp2
        go_ret
        refine ⟨ret_bool (a := true) (decide_eq_true ?_).symm, below_drewN (Below.refl _ _) _⟩
        exact dig_ext (by have := hh.out; omega) (fun t ht => HZ.out t (by have := hh.out; omega))
  · have hne : Hid (¬ x = y) := fun e => by have h1 := hx.hlen; have h2 := hy.hlen; subst e; omega
    have hlen' : ((la : Int) != (lb : Int)) = true := by simp; omega
    go_enter Tryz.func44, Tryz.ntmps44
    go_wp2
    go_ret
    exact ⟨ret_bool (a := false) (decide_eq_false hne.out).symm, Below.refl _ _⟩
/-- two boxes, each of a term -/
theorem boxT2 {w W : World} {xo ao yo bo : Option Addr} {xl xc la ca yl yc lb cb : Nat} {n m : Bool} (hW : W = (w.alloc (.cells #[.slice xo xl xc, .bool n, .slice ao la ca] 56)).alloc (.cells #[.slice yo yl yc, .bool m, .slice bo lb cb] 56)) :
    Below w.heap.size w W ∧ ∀ w', Below W.heap.size W w' → (w'.cell? ⟨w.heap.size, 0, none⟩ = some (.slice xo xl xc) ∧ w'.cell? ⟨w.heap.size, 1, none⟩ = some (.bool n) ∧ w'.cell? ⟨w.heap.size, 2, none⟩ = some (.slice ao la ca)) ∧ w'.cell? ⟨w.heap.size + 1, 0, none⟩ = some (.slice yo yl yc) ∧ w'.cell? ⟨w.heap.size + 1, 1, none⟩ = some (.bool m) ∧ w'.cell? ⟨w.heap.size + 1, 2, none⟩ = some (.slice bo lb cb) := by
  have hb1 : Below w.heap.size w (w.alloc (.cells #[.slice xo xl xc, .bool n, .slice ao la ca] 56)) := (Below.refl _ _).alloc (Nat.le_refl _) _
  have hb : Below w.heap.size w W := by rw [hW]; exact bnext hb1 ((Below.refl _ _).alloc (Nat.le_refl _) _)
  refine ⟨hb, fun w' h => ?_⟩
  rw [hW] at h
  have h1 : Below (w.alloc (.cells #[.slice xo xl xc, .bool n, .slice ao la ca] 56)).heap.size (w.alloc (.cells #[.slice xo xl xc, .bool n, .slice ao la ca] 56)) w' := bnext ((Below.refl _ _).alloc (Nat.le_refl _) _) h
  have k1 : ∀ j v, [Value.slice xo xl xc, .bool n, .slice ao la ca][j]? = some v → w'.cell? ⟨w.heap.size, j, none⟩ = some v := fun j v hj => by
    rw [h1.cell (p := ⟨w.heap.size, j, none⟩) (by simp)]
    simpa [go_sem] using hj
  have k2 : ∀ j v, [Value.slice yo yl yc, .bool m, .slice bo lb cb][j]? = some v → w'.cell? ⟨w.heap.size + 1, j, none⟩ = some v := fun j v hj => by
    rw [h.cell (p := ⟨w.heap.size + 1, j, none⟩) (by simp)]
    simpa [go_sem] using hj
  exact ⟨⟨k1 0 _ rfl, k1 1 _ rfl, k1 2 _ rfl⟩, k2 0 _ rfl, k2 1 _ rfl, k2 2 _ rfl⟩
set_option maxRecDepth 100000 in
set_option maxHeartbeats 2000000 in
theorem eqterm_at (n1 n2 : Bool) (xo ao yo bo : Option Addr) (xl xc la ca yl yc lb cb : Nat) (E F : List Int) (x y : Int) (w : World) (he : ExpAt w xo xl xc E) (hf : ExpAt w yo yl yc F) (hx : IntAt w n1 ao la ca x) (hy : IntAt w n2 bo lb cb y) (hl : la ≤ 4611686018427387904) (c : Bool) (hc : decide ((E, x) = (F, y)) = c) :
    Calls Tryz.prog 27 #[.agg #[.slice xo xl xc, .bool n1, .slice ao la ca], .agg #[.slice yo yl yc, .bool n2, .slice bo lb cb]] w fun e w' => e = .returned (.bool c) ∧ Below w.heap.size w w' := by
  obtain ⟨c1, hc1⟩ : ∃ c1, decide (E = F) = c1 := ⟨_, rfl⟩
  obtain ⟨c2, hc2⟩ : ∃ c2, decide (x = y) = c2 := ⟨_, rfl⟩
  have HCC : Hid (c = (c1 && c2)) := by
    show _ = _
    rw [← hc, ← hc1, ← hc2]
    by_cases e1 : E = F <;> by_cases e2 : x = y <;> simp [e1, e2]
  obtain ⟨W, hW⟩ : ∃ W, W = (w.alloc (.cells #[.slice xo xl xc, .bool n1, .slice ao la ca] 56)).alloc (.cells #[.slice yo yl yc, .bool n2, .slice bo lb cb] 56) := ⟨_, rfl⟩
  obtain ⟨hbW, hk⟩ := boxT2 hW
  have HWE : Hid (W = (w.alloc (.cells #[.slice xo xl xc, .bool n1, .slice ao la ca] 56)).alloc (.cells #[.slice yo yl yc, .bool n2, .slice bo lb cb] 56)) := hW
  have HB : Hid (Below w.heap.size w W) := hbW
  have KC : Hid (∀ w', Below W.heap.size W w' → (w'.cell? ⟨w.heap.size, 0, none⟩ = some (.slice xo xl xc) ∧ w'.cell? ⟨w.heap.size, 1, none⟩ = some (.bool n1) ∧ w'.cell? ⟨w.heap.size, 2, none⟩ = some (.slice ao la ca)) ∧ w'.cell? ⟨w.heap.size + 1, 0, none⟩ = some (.slice yo yl yc) ∧ w'.cell? ⟨w.heap.size + 1, 1, none⟩ = some (.bool n2) ∧ w'.cell? ⟨w.heap.size + 1, 2, none⟩ = some (.slice bo lb cb)) := hk
  have HN : Hid (∀ W', Below w.heap.size w W' → Calls Tryz.prog 44 #[.slice xo xl xc, .slice yo yl yc] W' fun e w' => e = .returned (.bool c1) ∧ Below W'.heap.size W' w') := fun W' hb => by
    rw [← hc1]; exact eqnums_any xo yo xl xc yl yc E F W' (he.row.later hb) (hf.row.later hb) he.short
  have HI : Hid (∀ W', Below w.heap.size w W' → Calls Tryz.prog 45 #[.agg #[.bool n1, .slice ao la ca], .agg #[.bool n2, .slice bo lb cb]] W' fun e w' => e = .returned (.bool c2) ∧ Below W'.heap.size W' w') := fun W' hb =>
    eqint_at n1 n2 ao bo la ca lb cb x y W' (hx.later hb) (hy.later hb) hl c2 hc2
  clear hW hbW hk he hf hx hy hl hc hc1 hc2
  cases c1
  · go_enter Tryz.func27, Tryz.ntmps27
    go_wp2_with (go_at_call 44; rw [← HWE.out]; refine (HN.out W HB.out).mono ?_; rintro e w1 ⟨rfl, hb1⟩; have H1 : Hid (Below w.heap.size w w1) := bnext HB.out hb1; obtain ⟨⟨c0, c1, c2⟩, c3, c4, c5⟩ := KC.out _ hb1; clear hb1)
    go_ret
    exact ⟨ret_bool HCC.out.symm, H1.out⟩
  · go_enter Tryz.func27, Tryz.ntmps27
    go_wp2_with (first
      | (go_at_call 44; rw [← HWE.out]; refine (HN.out W HB.out).mono ?_; rintro e w1 ⟨rfl, hb1⟩; have H1 : Hid (Below w.heap.size w w1) := bnext HB.out hb1; obtain ⟨⟨c0, c1, c2⟩, c3, c4, c5⟩ := KC.out _ hb1; clear hb1)
      | (go_at_call 45; refine (HI.out _ H1.out).mono ?_; rintro e w2 ⟨rfl, hb2⟩; have H2 : Hid (Below w.heap.size w w2) := bnext H1.out hb2; clear hb2))
    go_ret
    exact ⟨ret_bool HCC.out.symm, H2.out⟩
set_option maxRecDepth 100000 in
set_option maxHeartbeats 4000000 in
theorem eqterms_good (n : Int) (po qo : Option Addr) (pl pc ql qc : Nat) (P Q : List (List Int × Bool × List Int)) (c : Bool) (w : World) (hp : TermsAt w po pl pc P) (hq : TermsAt w qo ql qc Q) (gp : GoodM n P) (gq : GoodM n Q) (hc : decide (P.map plainT = Q.map plainT) = c) :
    Calls Tryz.prog 15 #[.slice po pl pc, .slice qo ql qc] w fun e w' => e = .returned (.bool c) ∧ Below w.heap.size w w' := by
  have HP : Hid (TermsAt w po pl pc P ∧ TermsAt w qo ql qc Q ∧ GoodM n P ∧ GoodM n Q ∧ decide (P.map plainT = Q.map plainT) = c) := ⟨hp, hq, gp, gq, hc⟩
  have hpl : pl ≤ 4096 := by have := hp.hlen; have := gp.short; omega
  have hql : ql ≤ 4096 := by have := hq.hlen; have := gq.short; omega
  have HN : Hid (pl = P.length ∧ ql = Q.length) := ⟨hp.hlen, hq.hlen⟩
  clear hp hq gp gq hc
  by_cases hlen : pl = ql
  · subst hlen
    go_enter Tryz.func15, Tryz.ntmps15
    go_wp2
    go_loopw [5] (fun i wr => ∃ k : Nat, k ≤ pl ∧ i = .int .i64 (k : Int) ∧ Hid (Below w.heap.size w wr ∧ (P.map plainT).take k = (Q.map plainT).take k)) (fun i _ => pl - (intOf i).toNat)
    case atStart => exact ⟨0, Nat.zero_le _, rfl, Below.refl _ _, rfl⟩
    case round =>
      obtain ⟨k, hk, rfl, HS⟩ := hrel
      by_cases hlt : k < pl
      · have hkp : k < P.length := by have := HN.out; omega
        have hkq : k < Q.length := by have := HN.out; omega
        obtain ⟨b, off, eo, el, ec, n1, ao, la, ca, rfl, hb, ⟨a0, a1, a2⟩, hn1, he1, hr1, hw1, hl1⟩ := (HP.out.1.later HS.out.1).get hkp
        obtain ⟨b', off', eo', el', ec', n2, ao', la', ca', rfl, hb', ⟨b0, b1, b2⟩, hn2, he2, hr2, hw2, hl2⟩ := (HP.out.2.1.later HS.out.1).get hkq
        have gt1 := HP.out.2.2.1.term k hkp
        have gt2 := HP.out.2.2.2.1.term k hkq
        have HI1 : Hid (IntAt wr n1 ao la ca (coefT P[k])) := by rw [hn1]; exact (good_int gt1 hr1 hw1).1
        have HI2 : Hid (IntAt wr n2 ao' la' ca' (coefT Q[k])) := by rw [hn2]; exact (good_int gt2 hr2 hw2).1
        obtain ⟨c1, hc1⟩ : ∃ c1, decide (plainT P[k] = plainT Q[k]) = c1 := ⟨_, rfl⟩
        have HCE : Hid (∀ W, Below wr.heap.size wr W → Calls Tryz.prog 27 #[.agg #[.slice eo el ec, .bool n1, .slice ao la ca], .agg #[.slice eo' el' ec', .bool n2, .slice ao' la' ca']] W fun e w' => e = .returned (.bool c1) ∧ Below W.heap.size W w') := fun W hbw =>
          eqterm_at n1 n2 eo ao eo' ao' el ec la ca el' ec' la' ca' _ _ _ _ W (he1.later hbw) (he2.later hbw) (HI1.out.later hbw) (HI2.out.later hbw) hl1 c1 hc1
        have HT : Hid ((P.map plainT).length = P.length ∧ (Q.map plainT).length = Q.length ∧ k < P.length ∧ k < Q.length ∧ ∀ (h1 : k < (P.map plainT).length) (h2 : k < (Q.map plainT).length), decide ((P.map plainT)[k] = (Q.map plainT)[k]) = c1) := ⟨by simp, by simp, hkp, hkq, fun h1 h2 => by
          rw [List.getElem_map, List.getElem_map]; exact hc1⟩
        have KS : Hid (∀ w', Below wr.heap.size wr w' → w'.cell? ⟨b, off + k * 3, none⟩ = some (.slice eo el ec) ∧ w'.cell? ⟨b, off + k * 3 + 1, none⟩ = some (.bool n1) ∧ w'.cell? ⟨b, off + k * 3 + 2, none⟩ = some (.slice ao la ca) ∧ w'.cell? ⟨b', off' + k * 3, none⟩ = some (.slice eo' el' ec') ∧ w'.cell? ⟨b', off' + k * 3 + 1, none⟩ = some (.bool n2) ∧ w'.cell? ⟨b', off' + k * 3 + 2, none⟩ = some (.slice ao' la' ca')) := fun w' h => ⟨(h.cell (p := ⟨b, off + k * 3, none⟩) hb).trans a0, (h.cell (p := ⟨b, off + k * 3 + 1, none⟩) hb).trans a1, (h.cell (p := ⟨b, off + k * 3 + 2, none⟩) hb).trans a2, (h.cell (p := ⟨b', off' + k * 3, none⟩) hb').trans b0, (h.cell (p := ⟨b', off' + k * 3 + 1, none⟩) hb').trans b1, (h.cell (p := ⟨b', off' + k * 3 + 2, none⟩) hb').trans b2⟩
        have z1 : (k : Int) < (pl : Int) := by omega
        have z2 : (0 : Int) ≤ (k : Int) := by omega
        clear a0 a1 a2 b0 b1 b2 hn1 hn2 he1 he2 hr1 hr2 hw1 hw2 hl1 hl2 gt1 gt2 hc1 hb hb'
        cases c1
        · go_wp2
          refine wp_region_noPanic ?_
          refine wp_region_held_drew (S := fun w' => (w'.cell? ⟨b, off + k * 3, none⟩ = some (.slice eo el ec) ∧ w'.cell? ⟨b, off + k * 3 + 1, none⟩ = some (.bool n1) ∧ w'.cell? ⟨b, off + k * 3 + 2, none⟩ = some (.slice ao la ca) ∧ w'.cell? ⟨b', off' + k * 3, none⟩ = some (.slice eo' el' ec') ∧ w'.cell? ⟨b', off' + k * 3 + 1, none⟩ = some (.bool n2) ∧ w'.cell? ⟨b', off' + k * 3 + 2, none⟩ = some (.slice ao' la' ca'))) (by kernel_rfl) (by (try dsimp only); exact KS.out _ (Below.refl _ _).drew) (fun hHeld => ?_)
          refine wpAnyH_take (i := 0) (oi := Oper.mk (some 17) _ _ _ _ _) (v := ?_) rfl (by decide +kernel) (by decide +kernel) (by decide +kernel) (fun _ _ _ h => h) (Or.inl ⟨by rfl, ?_⟩) (by assumption) ?_
          rotate_left
          · (intro w hSw; (try dsimp only at hSw); go_simp <;> (try with_reducible rfl))
          (try simp only [Act.put, List.setIfInBounds_toArray, List.set_cons_zero, List.set_cons_succ])
          refine wpAnyH_take (i := 1) (oi := Oper.mk (some 18) _ _ _ _ _) (v := ?_) rfl (by decide +kernel) (by decide +kernel) (by decide +kernel) (fun _ _ _ h => h) (Or.inl ⟨by rfl, ?_⟩) (by assumption) ?_
          rotate_left
          · (intro w hSw; (try dsimp only at hSw); go_simp <;> (try with_reducible rfl))
          (try simp only [Act.put, List.setIfInBounds_toArray, List.set_cons_zero, List.set_cons_succ])
          refine wpAnyH_take (i := 2) (oi := Oper.mk (some 19) _ _ _ _ _) (v := ?_) rfl (by decide +kernel) (by decide +kernel) (by decide +kernel) (fun _ _ _ h => h) (Or.inl ⟨by rfl, ?_⟩) (by assumption) ?_
          rotate_left
          · (intro w hSw; (try dsimp only at hSw); go_simp <;> (try with_reducible rfl))
          (try simp only [Act.put, List.setIfInBounds_toArray, List.set_cons_zero, List.set_cons_succ])
          refine wpAnyH_take (i := 3) (oi := Oper.mk (some 20) _ _ _ _ _) (v := ?_) rfl (by decide +kernel) (by decide +kernel) (by decide +kernel) (fun _ _ _ h => h) (Or.inl ⟨by rfl, ?_⟩) (by assumption) ?_
          rotate_left
          · (intro w hSw; (try dsimp only at hSw); go_simp <;> (try with_reducible rfl))
          (try simp only [Act.put, List.setIfInBounds_toArray, List.set_cons_zero, List.set_cons_succ])
          refine wpAnyH_take (i := 4) (oi := Oper.mk (some 21) _ _ _ _ _) (v := ?_) rfl (by decide +kernel) (by decide +kernel) (by decide +kernel) (fun _ _ _ h => h) (Or.inl ⟨by rfl, ?_⟩) (by assumption) ?_
          rotate_left
          · (intro w hSw; (try dsimp only at hSw); go_simp <;> (try with_reducible rfl))
          (try simp only [Act.put, List.setIfInBounds_toArray, List.set_cons_zero, List.set_cons_succ])
          refine wpAnyH_take (i := 5) (oi := Oper.mk (some 22) _ _ _ _ _) (v := ?_) rfl (by decide +kernel) (by decide +kernel) (by decide +kernel) (fun _ _ _ h => h) (Or.inl ⟨by rfl, ?_⟩) (by assumption) ?_
          rotate_left
          · (intro w hSw; (try dsimp only at hSw); go_simp <;> (try with_reducible rfl))
          (try simp only [Act.put, List.setIfInBounds_toArray, List.set_cons_zero, List.set_cons_succ])
          refine wpAnyH_take (i := 6) (oi := Oper.mk (some 23) _ _ _ _ _) (v := ?_) rfl (by decide +kernel) (by decide +kernel) (by decide +kernel) (fun _ _ _ h => h) (Or.inl ⟨by rfl, ?_⟩) (by assumption) ?_
          rotate_left
          · (intro w hSw; (try dsimp only at hSw); go_simp <;> (try with_reducible rfl))
          (try simp only [Act.put, List.setIfInBounds_toArray, List.set_cons_zero, List.set_cons_succ])
          refine wpAnyH_take (i := 7) (oi := Oper.mk (some 24) _ _ _ _ _) (v := ?_) rfl (by decide +kernel) (by decide +kernel) (by decide +kernel) (fun _ _ _ h => h) (Or.inl ⟨by rfl, ?_⟩) (by assumption) ?_
          rotate_left
          · (intro w hSw; (try dsimp only at hSw); go_simp <;> (try with_reducible rfl))
          (try simp only [Act.put, List.setIfInBounds_toArray, List.set_cons_zero, List.set_cons_succ])
          refine wpAnyH_ready (rs := [8]) (by decide +kernel) (by simp) ?_
          refine AllReadyH.cons (o := Oper.mk (some 25) _ _ _ _ _) rfl (fun K hK => ?_) AllReadyH.nil
          go_simp
          (go_at_call 27; refine (HCE.out _ (Below.refl _ _).drew).mono ?_; rintro e w4 ⟨rfl, hb4'⟩; have hb4 : Below wr.heap.size wr w4 := bnext (Below.refl _ _).drew hb4'; have HB4 : Hid (Below wr.heap.size wr w4 ∧ Below w.heap.size w w4) := ⟨hb4, bnext HS.out.1 hb4⟩; clear hb4 hb4')
          (try go_wp2_with fail)
          clear hHeld
          refine hK.out _ _ (by (try dsimp only); exact KS.out _ HB4.out.1) (fun hHeld => ?_)
          clear hK K
          (try simp only [Act.put, List.setIfInBounds_toArray, List.set_cons_zero, List.set_cons_succ])
          refine wpAnyH_take (i := 9) (oi := Oper.mk (some 26) _ _ _ _ _) (v := ?_) rfl (by decide +kernel) (by decide +kernel) (by decide +kernel) (fun _ _ _ h => h) (Or.inl ⟨by rfl, ?_⟩) (by assumption) ?_
          rotate_left
          · (intro w hSw; (try dsimp only at hSw); go_simp <;> (try with_reducible rfl))
          (try simp only [Act.put, List.setIfInBounds_toArray, List.set_cons_zero, List.set_cons_succ])
          refine wpAnyH_done (by decide +kernel) ?_ _
          refine NoPanic.normal ?_
          go_wp2
          go_ret
          refine ⟨ret_bool ?_, HB4.out.2⟩
          rw [← HP.out.2.2.2.2]
          refine (decide_eq_false fun e => ?_).symm
          have h1 := HT.out.2.2.2.2 (by rw [HT.out.1]; exact HT.out.2.2.1) (by rw [HT.out.2.1]; exact HT.out.2.2.2.1)
          simp only [decide_eq_false_iff_not] at h1
          exact h1 (by simp only [e])
        · go_wp2
          refine wp_region_noPanic ?_
          refine wp_region_held_drew (S := fun w' => (w'.cell? ⟨b, off + k * 3, none⟩ = some (.slice eo el ec) ∧ w'.cell? ⟨b, off + k * 3 + 1, none⟩ = some (.bool n1) ∧ w'.cell? ⟨b, off + k * 3 + 2, none⟩ = some (.slice ao la ca) ∧ w'.cell? ⟨b', off' + k * 3, none⟩ = some (.slice eo' el' ec') ∧ w'.cell? ⟨b', off' + k * 3 + 1, none⟩ = some (.bool n2) ∧ w'.cell? ⟨b', off' + k * 3 + 2, none⟩ = some (.slice ao' la' ca'))) (by kernel_rfl) (by (try dsimp only); exact KS.out _ (Below.refl _ _).drew) (fun hHeld => ?_)
          refine wpAnyH_take (i := 0) (oi := Oper.mk (some 17) _ _ _ _ _) (v := ?_) rfl (by decide +kernel) (by decide +kernel) (by decide +kernel) (fun _ _ _ h => h) (Or.inl ⟨by rfl, ?_⟩) (by assumption) ?_
          rotate_left
          · (intro w hSw; (try dsimp only at hSw); go_simp <;> (try with_reducible rfl))
          (try simp only [Act.put, List.setIfInBounds_toArray, List.set_cons_zero, List.set_cons_succ])
          refine wpAnyH_take (i := 1) (oi := Oper.mk (some 18) _ _ _ _ _) (v := ?_) rfl (by decide +kernel) (by decide +kernel) (by decide +kernel) (fun _ _ _ h => h) (Or.inl ⟨by rfl, ?_⟩) (by assumption) ?_
          rotate_left
          · (intro w hSw; (try dsimp only at hSw); go_simp <;> (try with_reducible rfl))
          (try simp only [Act.put, List.setIfInBounds_toArray, List.set_cons_zero, List.set_cons_succ])
          refine wpAnyH_take (i := 2) (oi := Oper.mk (some 19) _ _ _ _ _) (v := ?_) rfl (by decide +kernel) (by decide +kernel) (by decide +kernel) (fun _ _ _ h => h) (Or.inl ⟨by rfl, ?_⟩) (by assumption) ?_
          rotate_left
          · (intro w hSw; (try dsimp only at hSw); go_simp <;> (try with_reducible rfl))
          (try simp only [Act.put, List.setIfInBounds_toArray, List.set_cons_zero, List.set_cons_succ])
          refine wpAnyH_take (i := 3) (oi := Oper.mk (some 20) _ _ _ _ _) (v := ?_) rfl (by decide +kernel) (by decide +kernel) (by decide +kernel) (fun _ _ _ h => h) (Or.inl ⟨by rfl, ?_⟩) (by assumption) ?_
          rotate_left
          · (intro w hSw; (try dsimp only at hSw); go_simp <;> (try with_reducible rfl))
          (try simp only [Act.put, List.setIfInBounds_toArray, List.set_cons_zero, List.set_cons_succ])
          refine wpAnyH_take (i := 4) (oi := Oper.mk (some 21) _ _ _ _ _) (v := ?_) rfl (by decide +kernel) (by decide +kernel) (by decide +kernel) (fun _ _ _ h => h) (Or.inl ⟨by rfl, ?_⟩) (by assumption) ?_
          rotate_left
          · (intro w hSw; (try dsimp only at hSw); go_simp <;> (try with_reducible rfl))
          (try simp only [Act.put, List.setIfInBounds_toArray, List.set_cons_zero, List.set_cons_succ])
          refine wpAnyH_take (i := 5) (oi := Oper.mk (some 22) _ _ _ _ _) (v := ?_) rfl (by decide +kernel) (by decide +kernel) (by decide +kernel) (fun _ _ _ h => h) (Or.inl ⟨by rfl, ?_⟩) (by assumption) ?_
          rotate_left
          · (intro w hSw; (try dsimp only at hSw); go_simp <;> (try with_reducible rfl))
          (try simp only [Act.put, List.setIfInBounds_toArray, List.set_cons_zero, List.set_cons_succ])
          refine wpAnyH_take (i := 6) (oi := Oper.mk (some 23) _ _ _ _ _) (v := ?_) rfl (by decide +kernel) (by decide +kernel) (by decide +kernel) (fun _ _ _ h => h) (Or.inl ⟨by rfl, ?_⟩) (by assumption) ?_
          rotate_left
          · (intro w hSw; (try dsimp only at hSw); go_simp <;> (try with_reducible rfl))
          (try simp only [Act.put, List.setIfInBounds_toArray, List.set_cons_zero, List.set_cons_succ])
          refine wpAnyH_take (i := 7) (oi := Oper.mk (some 24) _ _ _ _ _) (v := ?_) rfl (by decide +kernel) (by decide +kernel) (by decide +kernel) (fun _ _ _ h => h) (Or.inl ⟨by rfl, ?_⟩) (by assumption) ?_
          rotate_left
          · (intro w hSw; (try dsimp only at hSw); go_simp <;> (try with_reducible rfl))
          (try simp only [Act.put, List.setIfInBounds_toArray, List.set_cons_zero, List.set_cons_succ])
          refine wpAnyH_ready (rs := [8]) (by decide +kernel) (by simp) ?_
          refine AllReadyH.cons (o := Oper.mk (some 25) _ _ _ _ _) rfl (fun K hK => ?_) AllReadyH.nil
          go_simp
          (go_at_call 27; refine (HCE.out _ (Below.refl _ _).drew).mono ?_; rintro e w4 ⟨rfl, hb4'⟩; have hb4 : Below wr.heap.size wr w4 := bnext (Below.refl _ _).drew hb4'; have HB4 : Hid (Below wr.heap.size wr w4 ∧ Below w.heap.size w w4) := ⟨hb4, bnext HS.out.1 hb4⟩; clear hb4 hb4')
          (try go_wp2_with fail)
          clear hHeld
          refine hK.out _ _ (by (try dsimp only); exact KS.out _ HB4.out.1) (fun hHeld => ?_)
          clear hK K
          (try simp only [Act.put, List.setIfInBounds_toArray, List.set_cons_zero, List.set_cons_succ])
          refine wpAnyH_take (i := 9) (oi := Oper.mk (some 26) _ _ _ _ _) (v := ?_) rfl (by decide +kernel) (by decide +kernel) (by decide +kernel) (fun _ _ _ h => h) (Or.inl ⟨by rfl, ?_⟩) (by assumption) ?_
          rotate_left
          · (intro w hSw; (try dsimp only at hSw); go_simp <;> (try with_reducible rfl))
          (try simp only [Act.put, List.setIfInBounds_toArray, List.set_cons_zero, List.set_cons_succ])
          refine wpAnyH_done (by decide +kernel) ?_ _
          refine NoPanic.normal ?_
          go_wp2
          go_roundw
          case rel => exact ⟨k + 1, by omega, by go_num, HB4.out.2, take_ext (by rw [HT.out.1]; exact HT.out.2.2.1) (by rw [HT.out.2.1]; exact HT.out.2.2.2.1) HS.out.2 (of_decide_eq_true (HT.out.2.2.2.2 (by rw [HT.out.1]; exact HT.out.2.2.1) (by rw [HT.out.2.1]; exact HT.out.2.2.2.1)))⟩
          case measure => simp [intOf]; omega
      · have z1 : ¬ (k : Int) < (pl : Int) := by omega
        go_wp2
        go_ret
        refine ⟨ret_bool ?_, HS.out.1⟩
        rw [← HP.out.2.2.2.2]
        refine (decide_eq_true ?_).symm
        have h1 := HN.out
        have h2 := HS.out.2
        rw [List.take_of_length_le (by simp; omega), List.take_of_length_le (by simp; omega)] at h2
        exact h2
  · have e1 : ((pl : Int) != (ql : Int)) = true := by simp; omega
    have e2 : ((pl : Int) == (ql : Int)) = false := by simp; omega
    have HE : Hid (false = c) := by
      show _ = _
      rw [← HP.out.2.2.2.2]
      refine (decide_eq_false fun e => ?_).symm
      have := congrArg List.length e
      simp only [List.length_map] at this
      have := HN.out
      omega
    have HLN : Hid (¬ pl = ql) := hlen
    clear hlen
    go_enter Tryz.func15, Tryz.ntmps15
    go_wp2
    go_ret
    exact ⟨ret_bool HE.out, Below.refl _ _⟩
set_option maxRecDepth 100000 in
set_option maxHeartbeats 1000000 in
theorem eqmpoly_good (n : Int) (po qo : Option Addr) (pl pc ql qc : Nat) (P Q : List (List Int × Bool × List Int)) (c : Bool) (w : World) (hp : MPAt w n po pl pc P) (hq : MPAt w n qo ql qc Q) (hc : decide (P.map plainT = Q.map plainT) = c) :
    Calls Tryz.prog 7 #[.agg #[.int .i64 n, .slice po pl pc], .agg #[.int .i64 n, .slice qo ql qc]] w fun e w' => e = .returned (.bool c) ∧ Below w.heap.size w w' := by
  obtain ⟨W, hW⟩ : ∃ W, W = (w.alloc (.cells #[.int .i64 n, .slice po pl pc] 25)).alloc (.cells #[.int .i64 n, .slice qo ql qc] 25) := ⟨_, rfl⟩
  obtain ⟨hbW, hk⟩ := box2 hW
  have HWE : Hid (W = (w.alloc (.cells #[.int .i64 n, .slice po pl pc] 25)).alloc (.cells #[.int .i64 n, .slice qo ql qc] 25)) := hW
  have HP : Hid (MPAt W n po pl pc P ∧ MPAt W n qo ql qc Q ∧ decide (P.map plainT = Q.map plainT) = c) := ⟨hp.later hbW, hq.later hbW, hc⟩
  have HB : Hid (Below w.heap.size w W) := hbW
  clear hW hbW hk hp hq hc
  go_enter Tryz.func7, Tryz.ntmps7
  go_wp2_with (go_at_call 15; rw [← HWE.out]; refine (eqterms_good n po qo pl pc ql qc P Q c W HP.out.1.1 HP.out.2.1.1 HP.out.1.2 HP.out.2.1.2 HP.out.2.2).mono ?_; rintro e w1 ⟨rfl, hb1⟩; have H1 : Hid (Below w.heap.size w w1) := bnext HB.out hb1; clear hb1)
  go_ret
  exact ⟨rfl, H1.out⟩
end Go.Proofs.YtiemgadnnnhmkaaGreat
/-
  NH: walks: what is too heavy; both of two polynomials: the error that the law's page tells.
-/
namespace Go.Proofs.YtiemgadnnnhmkaaGreat
open Go.RowKit
set_option linter.unusedVariables false
set_option linter.unusedSimpArgs false
set_option maxRecDepth 100000 in
set_option maxHeartbeats 400000 in
theorem mlong_at (neg : Bool) (ao : Option Addr) (la ca : Nat) (L : Int) (c : Bool) (w : World) (hc : decide (L < (la : Int)) = c) :
    Calls Tryz.prog 10 #[.agg #[.bool neg, .slice ao la ca], .int .i64 L] w fun e w' => e = .returned (.bool c) ∧ Below w.heap.size w w' := by
  go_enter Tryz.func10, Tryz.ntmps10
  go_wp2
  go_ret
  exact ⟨by rw [← hc]; first | rfl | simp, (Below.refl _ _).alloc (Nat.le_refl _) _⟩
set_option maxRecDepth 100000 in
set_option maxHeartbeats 1000000 in
theorem longRat_any (neg : Bool) (ao bo : Option Addr) (la ca lb cb : Nat) (L : Int) (w : World) :
    Calls Tryz.prog 11 #[.agg #[.bool neg, .slice ao la ca, .slice bo lb cb], .int .i64 L] w (Tells (fun _ => True) w) := by
  obtain ⟨W, hW⟩ : ∃ W, W = w.alloc (.cells #[.bool neg, .slice ao la ca, .slice bo lb cb] 42) := ⟨_, rfl⟩
  have HW : Hid (Below w.heap.size w W) := by rw [hW]; exact (Below.refl _ _).alloc (Nat.le_refl _) _
  have KC : Hid (∀ w', Below W.heap.size W w' → w'.cell? ⟨w.heap.size, 2, none⟩ = some (.slice bo lb cb)) := fun w' h => by
    rw [hW] at h
    rw [h.cell (p := ⟨w.heap.size, 2, none⟩) (by simp)]
    simp [go_sem]
  have HWE : Hid (W = w.alloc (.cells #[.bool neg, .slice ao la ca, .slice bo lb cb] 42)) := hW
  clear hW
  obtain ⟨c, hc⟩ : ∃ c, decide (L < (la : Int)) = c := ⟨_, rfl⟩
  have HL : Hid (Calls Tryz.prog 10 #[.agg #[.bool neg, .slice ao la ca], .int .i64 L] W fun e w' => e = .returned (.bool c) ∧ Below W.heap.size W w') := mlong_at neg ao la ca L c W hc
  clear hc
  cases c
  · by_cases hlb : L < (lb : Int)
    · go_enter Tryz.func11, Tryz.ntmps11
      go_wp2_with (go_at_call 10; rw [← HWE.out]; refine HL.out.mono ?_; rintro e w1 ⟨rfl, hb1⟩; have H1 : Hid (Below w.heap.size w w1) := bnext HW.out hb1; have c2 := KC.out _ hb1; clear hb1)
      go_ret
      exact ⟨_, rfl, trivial, H1.out⟩
    · go_enter Tryz.func11, Tryz.ntmps11
      go_wp2_with (go_at_call 10; rw [← HWE.out]; refine HL.out.mono ?_; rintro e w1 ⟨rfl, hb1⟩; have H1 : Hid (Below w.heap.size w w1) := bnext HW.out hb1; have c2 := KC.out _ hb1; clear hb1)
      go_ret
      exact ⟨_, rfl, trivial, H1.out⟩
  · go_enter Tryz.func11, Tryz.ntmps11
    go_wp2_with (go_at_call 10; rw [← HWE.out]; refine HL.out.mono ?_; rintro e w1 ⟨rfl, hb1⟩; have H1 : Hid (Below w.heap.size w w1) := bnext HW.out hb1; have c2 := KC.out _ hb1; clear hb1)
    go_ret
    exact ⟨_, rfl, trivial, H1.out⟩
/-- a term lies in block b from o on, whatever it is -/
def TermR (w : World) (b o : Nat) (t : (List Int × Bool × List Int)) : Prop :=
  ∃ (eo : Option Addr) (el ec : Nat) (ao : Option Addr) (la ca : Nat), (w.cell? ⟨b, o, none⟩ = some (.slice eo el ec) ∧ w.cell? ⟨b, o + 1, none⟩ = some (.bool t.2.1) ∧ w.cell? ⟨b, o + 2, none⟩ = some (.slice ao la ca)) ∧
    RowAt w .i64 eo el ec t.1 ∧ RowAt w .u64 ao la ca t.2.2 ∧ Wd 18446744073709551616 t.2.2
theorem TermR.later {w w' : World} {b o : Nat} {t : (List Int × Bool × List Int)} (h : TermR w b o t) (hb : Below w.heap.size w w') : TermR w' b o t := by
  obtain ⟨eo, el, ec, ao, la, ca, ⟨h0, h1, h2⟩, he, hr, hw⟩ := h
  exact ⟨eo, el, ec, ao, la, ca, ⟨(hb.cell (p := ⟨b, o, none⟩) (cell_lt h0)).trans h0, (hb.cell (p := ⟨b, o + 1, none⟩) (cell_lt h1)).trans h1, (hb.cell (p := ⟨b, o + 2, none⟩) (cell_lt h2)).trans h2⟩, he.later hb, hr.later hb, hw⟩
/-- a list of terms, whatever they are -/
structure TermsR (w : World) (tp : Option Addr) (tl tc : Nat) (T : List (List Int × Bool × List Int)) : Prop where
  hlen : tl = T.length
  hat : ∀ t, (ht : t < T.length) → ∃ b off, tp = some ⟨b, off, none⟩ ∧ TermR w b (off + t * 3) T[t]
theorem TermsR.later {w w' : World} {tp : Option Addr} {tl tc : Nat} {T : List (List Int × Bool × List Int)} (h : TermsR w tp tl tc T) (hb : Below w.heap.size w w') : TermsR w' tp tl tc T :=
  ⟨h.hlen, fun t ht => by
    obtain ⟨b, off, e, h1⟩ := h.hat t ht
    exact ⟨b, off, e, h1.later hb⟩⟩
theorem TermsR.get {w : World} {tp : Option Addr} {tl tc : Nat} {T : List (List Int × Bool × List Int)} (h : TermsR w tp tl tc T) {k : Nat} (hk : k < T.length) :
    ∃ b off eo el ec n ao la ca, tp = some ⟨b, off, none⟩ ∧ b < w.heap.size ∧ (w.cell? ⟨b, off + k * 3, none⟩ = some (.slice eo el ec) ∧ w.cell? ⟨b, off + k * 3 + 1, none⟩ = some (.bool n) ∧ w.cell? ⟨b, off + k * 3 + 2, none⟩ = some (.slice ao la ca)) ∧
      n = T[k].2.1 ∧ RowAt w .i64 eo el ec T[k].1 ∧ RowAt w .u64 ao la ca T[k].2.2 ∧ Wd 18446744073709551616 T[k].2.2 := by
  obtain ⟨b, off, e, eo, el, ec, ao, la, ca, hc, h1, h2, h3⟩ := h.hat k hk
  exact ⟨b, off, eo, el, ec, _, ao, la, ca, e, cell_lt hc.1, hc, rfl, h1, h2, h3⟩
/-- no coefficient has more than two limbs, no term more than twenty exponents -/
def Slim (T : List (List Int × Bool × List Int)) : Prop := ∀ t, (h : t < T.length) → T[t].2.2.length ≤ 2 ∧ T[t].1.length ≤ 20
theorem TermsR.slim {w : World} {tp : Option Addr} {tl tc : Nat} {T : List (List Int × Bool × List Int)} (h : TermsR w tp tl tc T) (hs : Slim T) : TermsAt w tp tl tc T :=
  ⟨h.hlen, fun t ht => by
    obtain ⟨b, off, e, eo, el, ec, ao, la, ca, hc, h1, h2, h3⟩ := h.hat t ht
    have h4 := hs t ht
    exact ⟨b, off, e, eo, el, ec, ao, la, ca, hc, ⟨h1, by have := h1.hlen; omega⟩, h2, h3, by have := h2.hlen; omega⟩⟩
set_option maxRecDepth 100000 in
set_option maxHeartbeats 4000000 in
theorem heavyM_any (n : Int) (tp : Option Addr) (tl tc : Nat) (T : List (List Int × Bool × List Int)) (w : World) (h : TermsR w tp tl tc T) :
    Calls Tryz.prog 9 #[.agg #[.int .i64 n, .slice tp tl tc], .int .i64 10, .int .i64 5, .int .i64 2] w (Tells (fun b => b = false → Slim T) w) := by
  obtain ⟨W, hW⟩ : ∃ W, W = w.alloc (.cells #[.int .i64 n, .slice tp tl tc] 25) := ⟨_, rfl⟩
  have HW : Hid (Below w.heap.size w W) := by rw [hW]; exact (Below.refl _ _).alloc (Nat.le_refl _) _
  have HP : Hid (TermsR w tp tl tc T) := h
  have HN : Hid (tl = T.length) := h.hlen
  have KC : Hid (∀ w', Below W.heap.size W w' → w'.cell? ⟨w.heap.size, 1, none⟩ = some (.slice tp tl tc)) := fun w' h => by
    rw [hW] at h
    rw [h.cell (p := ⟨w.heap.size, 1, none⟩) (by simp)]
    simp [go_sem]
  have HWE : Hid (W = w.alloc (.cells #[.int .i64 n, .slice tp tl tc] 25)) := hW
  clear hW h
  have HNO : Hid (Below w.heap.size w (w.alloc (.cells #[.int .i64 n, .slice tp tl tc] 25))) := by have := HW.out; rw [HWE.out] at this; exact this
  by_cases htl : (10 : Int) < (tl : Int)
  · go_enter Tryz.func9, Tryz.ntmps9
    go_wp2
    go_ret
    exact Tells.much HNO.out
  have hta : tl ≤ 10 := by omega
  go_enter Tryz.func9, Tryz.ntmps9
  go_wp2
  rw [← HWE.out]
  go_loopw [9] (fun i wr => ∃ k : Nat, k ≤ tl ∧ i = .int .i64 (k : Int) ∧ Hid (Below W.heap.size W wr) ∧ Hid (∀ t, (ht : t < T.length) → t < k → T[t].2.2.length ≤ 2 ∧ T[t].1.length ≤ 20)) (fun i _ => tl - (intOf i).toNat)
  case atStart => exact ⟨0, Nat.zero_le _, rfl, Below.refl _ _, fun t _ ht => absurd ht (Nat.not_lt_zero _)⟩
  case round =>
    obtain ⟨k, hk, rfl, HS, HG⟩ := hrel
    have c1 := KC.out wr HS.out
    by_cases hlt : k < tl
    · have hkp : k < T.length := by have := HN.out; omega
      obtain ⟨b, off, eo, el, ec, n1, ao, la, ca, rfl, hb, ⟨a0, a1, a2⟩, hn1, he1, hr1, hw1⟩ := (HP.out.later (bnext HW.out HS.out)).get hkp
      have z1 : (k : Int) < (tl : Int) := by omega
      have z2 : (0 : Int) ≤ (k : Int) := by omega
      obtain ⟨U, hU⟩ : ∃ U, U = wr.alloc (.cells #[.slice eo el ec, .bool n1, .slice ao la ca] 56) := ⟨_, rfl⟩
      have HU : Hid (Below wr.heap.size wr U) := by rw [hU]; exact (Below.refl _ _).alloc (Nat.le_refl _) _
      have KU : Hid (∀ w', Below U.heap.size U w' → w'.cell? ⟨wr.heap.size, 0, none⟩ = some (.slice eo el ec)) := fun w' h => by
        rw [hU] at h
        rw [h.cell (p := ⟨wr.heap.size, 0, none⟩) (by simp)]
        simp [go_sem]
      have HUE : Hid (U = wr.alloc (.cells #[.slice eo el ec, .bool n1, .slice ao la ca] 56)) := hU
      have HE : Hid (RowAt wr .i64 eo el ec T[k].1 ∧ la = T[k].2.2.length ∧ el = T[k].1.length) := ⟨he1, hr1.hlen, he1.hlen⟩
      obtain ⟨c, hc⟩ : ∃ c, decide ((2 : Int) < (la : Int)) = c := ⟨_, rfl⟩
      have HL : Hid (Calls Tryz.prog 10 #[.agg #[.bool n1, .slice ao la ca], .int .i64 2] U fun e w' => e = .returned (.bool c) ∧ Below U.heap.size U w') := mlong_at n1 ao la ca 2 c U hc
      have HC : Hid (decide ((2 : Int) < (la : Int)) = c) := hc
      clear hc hU hn1 he1 hr1 hw1
      have HWU : Hid (Below w.heap.size w U) := bnext HW.out (bnext HS.out HU.out)
      cases c
      · by_cases hel : (20 : Int) < (el : Int)
        · go_wp2_with (go_at_call 10; rw [← HUE.out]; refine HL.out.mono ?_; rintro e w1 ⟨rfl, hb1⟩; have H1 : Hid (Below U.heap.size U w1) := hb1; have d0 := KU.out _ hb1; clear hb1)
          go_ret
          exact Tells.much (bnext HWU.out H1.out)
        · have hel2 : el ≤ 20 := by omega
          have HLA : Hid (T[k].2.2.length ≤ 2 ∧ T[k].1.length ≤ 20) := by
            show _ ∧ _
            have h1 := HC.out
            have h2 := HE.out.2
            have h3 := h2.2
            have h2 := h2.1
            simp only [decide_eq_false_iff_not] at h1
            omega
          go_wp2_with (go_at_call 10; rw [← HUE.out]; refine HL.out.mono ?_; rintro e w1 ⟨rfl, hb1⟩; have H1 : Hid (Below U.heap.size U w1) := hb1; have d0 := KU.out _ hb1; clear hb1)
          obtain ⟨wo, hwo⟩ : ∃ x, x = wr := ⟨_, rfl⟩
          subst hwo
          go_loopw [11] (fun i wr => ∃ t : Nat, t ≤ el ∧ i = .int .i64 (t : Int) ∧ wr = w1) (fun i _ => el - (intOf i).toNat)
          case atStart => exact ⟨0, Nat.zero_le _, rfl, rfl⟩
          case round =>
            obtain ⟨t, ht, rfl, rfl⟩ := hrel
            by_cases hlt2 : t < el
            · obtain ⟨b7, o7, rfl, _, hc7⟩ := (HE.out.1.later (bnext HU.out H1.out)).get (by omega)
              have h7 := hc7 t hlt2
              obtain ⟨z, hz⟩ : ∃ z, dig T[k].1 t = z := ⟨_, rfl⟩
              rw [hz] at h7
              clear hc7 hz
              have y1 : (t : Int) < (el : Int) := by omega
              have y2 : (0 : Int) ≤ (t : Int) := by omega
              by_cases z5 : 5 < z
              · by_cases z6 : z ≤ 1024
                · go_wp2
                  go_ret
                  exact Tells.much (bnext HWU.out H1.out)
                · go_wp2
                  go_roundw
                  case rel => exact ⟨t + 1, by omega, by go_num, by first | trivial | rfl⟩
                  case measure => simp [intOf]; omega
              · go_wp2
                go_roundw
                case rel => exact ⟨t + 1, by omega, by go_num, by first | trivial | rfl⟩
                case measure => simp [intOf]; omega
            · have y1 : ¬ (t : Int) < (el : Int) := by omega
              go_wp2
              go_roundw
              case rel => exact ⟨k + 1, by omega, by go_num, bnext HS.out (bnext HU.out H1.out), fun s hs hsk => (by
                by_cases e : s = k
                · subst e; exact HLA.out
                · exact HG.out s hs (by omega))⟩
              case measure => simp [intOf]; omega
      · go_wp2_with (go_at_call 10; rw [← HUE.out]; refine HL.out.mono ?_; rintro e w1 ⟨rfl, hb1⟩; have H1 : Hid (Below U.heap.size U w1) := hb1; have d0 := KU.out _ hb1; clear hb1)
        go_ret
        exact Tells.much (bnext HWU.out H1.out)
    · have z1 : ¬ (k : Int) < (tl : Int) := by omega
      go_wp2
      go_ret
      exact Tells.nay (fun t ht => HG.out t ht (by have := HN.out; omega)) (bnext HW.out HS.out)
/-- a call tells an error number, of which P holds -/
def TellsI (P : Int → Prop) (w : World) (e : Ending) (w' : World) : Prop := ∃ c, e = .returned (.int .i64 c) ∧ P c ∧ Below w.heap.size w w'
theorem TellsI.bad {P : Prop} {w w' : World} {c : Int} (hc : c ≠ 0) (h : Below w.heap.size w w') : TellsI (fun b => b = 0 → P) w (.returned (.int .i64 c)) w' := ⟨c, rfl, fun e => absurd e hc, h⟩
theorem TellsI.good {P : Prop} {w w' : World} (hp : P) (h : Below w.heap.size w w') : TellsI (fun b => b = 0 → P) w (.returned (.int .i64 0)) w' := ⟨0, rfl, fun _ => hp, h⟩
/-- two good polynomials in as many variables -/
def BothOk (n m : Int) (P Q : List (List Int × Bool × List Int)) : Prop := GoodM n P ∧ GoodM n Q ∧ m = n
set_option maxRecDepth 100000 in
set_option maxHeartbeats 2000000 in
theorem lboth_any (n m : Int) (po qo : Option Addr) (pl pc ql qc : Nat) (P Q : List (List Int × Bool × List Int)) (w : World) (hp : TermsAt w po pl pc P) (hq : TermsAt w qo ql qc Q) :
    Calls Tryz.prog 5 #[.agg #[.int .i64 n, .slice po pl pc], .agg #[.int .i64 m, .slice qo ql qc]] w (TellsI (fun c => c = 0 → BothOk n m P Q) w) := by
  obtain ⟨W, hW⟩ : ∃ W, W = (w.alloc (.cells #[.int .i64 n, .slice po pl pc] 25)).alloc (.cells #[.int .i64 m, .slice qo ql qc] 25) := ⟨_, rfl⟩
  obtain ⟨hbW, hk⟩ := box2 hW
  have HWE : Hid (W = (w.alloc (.cells #[.int .i64 n, .slice po pl pc] 25)).alloc (.cells #[.int .i64 m, .slice qo ql qc] 25)) := hW
  have HP : Hid (TermsAt W po pl pc P ∧ TermsAt W qo ql qc Q) := ⟨hp.later hbW, hq.later hbW⟩
  have HB : Hid (Below w.heap.size w W) := hbW
  have KC : Hid (∀ w', Below W.heap.size W w' → w'.cell? ⟨w.heap.size, 0, none⟩ = some (.int .i64 n) ∧ w'.cell? ⟨w.heap.size, 1, none⟩ = some (.slice po pl pc) ∧ w'.cell? ⟨w.heap.size + 1, 0, none⟩ = some (.int .i64 m) ∧ w'.cell? ⟨w.heap.size + 1, 1, none⟩ = some (.slice qo ql qc)) := hk
  clear hW hbW hk hp hq
  by_cases hnm : m = n
  · subst hnm
    go_enter Tryz.func5, Tryz.ntmps5
    go_wp2_with (first
      | (have _t := H1; go_at_call 12; refine (rmmay_any m qo ql qc Q _ (HP.out.2.later H1.out)).mono ?_; rintro e w2 ⟨b2, rfl, hbb2, hb2⟩; have H2 : Hid (Below W.heap.size W w2) := bnext H1.out hb2; obtain ⟨d0, d1, d2, d3⟩ := KC.out _ H2.out; clear hb2 c0 c1 c2 c3; cases b2 <;> first | (have HG2 : Hid (GoodM m Q) := hbb2 rfl; clear hbb2) | clear hbb2)
      | (go_at_call 12; rw [← HWE.out]; refine (rmmay_any m po pl pc P W HP.out.1).mono ?_; rintro e w1 ⟨b1, rfl, hbb1, hb1⟩; have H1 : Hid (Below W.heap.size W w1) := hb1; obtain ⟨c0, c1, c2, c3⟩ := KC.out _ H1.out; clear hb1; cases b1 <;> first | (have HG1 : Hid (GoodM m P) := hbb1 rfl; clear hbb1) | clear hbb1))
    all_goals
      go_ret
      first
        | exact TellsI.good ⟨HG1.out, HG2.out, rfl⟩ (bnext HB.out H2.out)
        | exact TellsI.bad (by decide) (bnext HB.out H2.out)
        | exact TellsI.bad (by decide) (bnext HB.out H1.out)
  · have hnm' : ¬ n = m := fun e => hnm e.symm
    have e1 : (n == m) = false := by simpa using hnm'
    have e2 : (n != m) = true := by simpa using hnm'
    clear hnm
    go_enter Tryz.func5, Tryz.ntmps5
    go_wp2_with (first
      | (have _t := H1; go_at_call 12; refine (rmmay_any m qo ql qc Q _ (HP.out.2.later H1.out)).mono ?_; rintro e w2 ⟨b2, rfl, hbb2, hb2⟩; have H2 : Hid (Below W.heap.size W w2) := bnext H1.out hb2; obtain ⟨d0, d1, d2, d3⟩ := KC.out _ H2.out; clear hb2 c0 c1 c2 c3 hbb2; cases b2)
      | (go_at_call 12; rw [← HWE.out]; refine (rmmay_any n po pl pc P W HP.out.1).mono ?_; rintro e w1 ⟨b1, rfl, hbb1, hb1⟩; have H1 : Hid (Below W.heap.size W w1) := hb1; obtain ⟨c0, c1, c2, c3⟩ := KC.out _ H1.out; clear hb1 hbb1; cases b1))
    all_goals
      go_ret
      first
        | exact TellsI.bad (by decide) (bnext HB.out H2.out)
        | exact TellsI.bad (by decide) (bnext HB.out H1.out)
end Go.Proofs.YtiemgadnnnhmkaaGreat
/-
  NI: walks: the law's items; what is too heavy of them.
-/
namespace Go.Proofs.YtiemgadnnnhmkaaGreat
open Go.RowKit
set_option linter.unusedVariables false
set_option linter.unusedSimpArgs false
/-- a list of rationals, whatever they are -/
def RatsR (w : World) (ao : Option Addr) (al : Nat) : Prop := ∀ t, t < al → ∃ b off n so sl sc uo ul uc, ao = some ⟨b, off, none⟩ ∧ w.cell? ⟨b, off + t * 3, none⟩ = some (.bool n) ∧ w.cell? ⟨b, off + t * 3 + 1, none⟩ = some (.slice so sl sc) ∧ w.cell? ⟨b, off + t * 3 + 2, none⟩ = some (.slice uo ul uc)
theorem RatsR.later {w w' : World} {ao : Option Addr} {al : Nat} (h : RatsR w ao al) (hb : Below w.heap.size w w') : RatsR w' ao al := fun t ht => by
  obtain ⟨b, off, n, so, sl, sc, uo, ul, uc, e, h0, h1, h2⟩ := h t ht
  exact ⟨b, off, n, so, sl, sc, uo, ul, uc, e, (hb.cell (p := ⟨b, off + t * 3, none⟩) (cell_lt h0)).trans h0, (hb.cell (p := ⟨b, off + t * 3 + 1, none⟩) (cell_lt h1)).trans h1, (hb.cell (p := ⟨b, off + t * 3 + 2, none⟩) (cell_lt h2)).trans h2⟩
/-- both are slim -/
def SlimBoth (P Q : List (List Int × Bool × List Int)) : Prop := Slim P ∧ Slim Q
set_option maxRecDepth 100000 in
set_option maxHeartbeats 4000000 in
theorem heavy7_any (n m V N : Int) (po qo Ao Co : Option Addr) (pl pc ql qc Al Ac Cl Cc : Nat) (nc : Bool) (P Q : List (List Int × Bool × List Int)) (w : World) (hP : TermsR w po pl pc P) (hQ : TermsR w qo ql qc Q) (hA : RatsR w Ao Al) :
    Calls Tryz.prog 4 #[.agg #[.int .i64 n, .slice po pl pc, .int .i64 m, .slice qo ql qc, .int .i64 V, .int .i64 N, .slice Ao Al Ac, .bool nc, .slice Co Cl Cc]] w (Tells (fun b => b = false → SlimBoth P Q) w) := by
  obtain ⟨W, hW⟩ : ∃ W, W = w.alloc (.cells #[.int .i64 n, .slice po pl pc, .int .i64 m, .slice qo ql qc, .int .i64 V, .int .i64 N, .slice Ao Al Ac, .bool nc, .slice Co Cl Cc] 32) := ⟨_, rfl⟩
  have HW : Hid (Below w.heap.size w W) := by rw [hW]; exact (Below.refl _ _).alloc (Nat.le_refl _) _
  have HP : Hid (TermsR w po pl pc P ∧ TermsR w qo ql qc Q ∧ RatsR w Ao Al) := ⟨hP, hQ, hA⟩
  have KC : Hid (∀ w', Below W.heap.size W w' → w'.cell? ⟨w.heap.size, 2, none⟩ = some (.int .i64 m) ∧ w'.cell? ⟨w.heap.size, 3, none⟩ = some (.slice qo ql qc) ∧ w'.cell? ⟨w.heap.size, 6, none⟩ = some (.slice Ao Al Ac) ∧ w'.cell? ⟨w.heap.size, 7, none⟩ = some (.bool nc) ∧ w'.cell? ⟨w.heap.size, 8, none⟩ = some (.slice Co Cl Cc)) := fun w' h => by
    rw [hW] at h
    have hk : ∀ j v, [Value.int .i64 n, .slice po pl pc, .int .i64 m, .slice qo ql qc, .int .i64 V, .int .i64 N, .slice Ao Al Ac, .bool nc, .slice Co Cl Cc][j]? = some v → w'.cell? ⟨w.heap.size, j, none⟩ = some v := fun j v hj => by
      rw [h.cell (p := ⟨w.heap.size, j, none⟩) (by simp)]
      simpa [go_sem] using hj
    exact ⟨hk 2 _ rfl, hk 3 _ rfl, hk 6 _ rfl, hk 7 _ rfl, hk 8 _ rfl⟩
  have HWE : Hid (W = w.alloc (.cells #[.int .i64 n, .slice po pl pc, .int .i64 m, .slice qo ql qc, .int .i64 V, .int .i64 N, .slice Ao Al Ac, .bool nc, .slice Co Cl Cc] 32)) := hW
  obtain ⟨c, hc⟩ : ∃ c, decide ((2 : Int) < (Cl : Int)) = c := ⟨_, rfl⟩
  have HL : Hid (∀ W', Calls Tryz.prog 10 #[.agg #[.bool nc, .slice Co Cl Cc], .int .i64 2] W' fun e w' => e = .returned (.bool c) ∧ Below W'.heap.size W' w') := fun W' => mlong_at nc Co Cl Cc 2 c W' hc
  clear hW hP hQ hA hc
  by_cases hal : (20 : Int) < (Al : Int)
  · go_enter Tryz.func4, Tryz.ntmps4
    go_wp2_with (first
      | (have _t := H1; go_at_call 9; refine (heavyM_any m qo ql qc Q _ (HP.out.2.1.later (bnext HW.out H1.out))).mono ?_; rintro e w2 ⟨b2, rfl, hbb2, hb2⟩; have H2 : Hid (Below W.heap.size W w2) := bnext H1.out hb2; obtain ⟨d0, d1, d2, d3, d4⟩ := KC.out _ H2.out; clear hb2 c0 c1 c2 c3 c4 hbb2; cases b2)
      | (go_at_call 9; rw [← HWE.out]; refine (heavyM_any n po pl pc P W (HP.out.1.later HW.out)).mono ?_; rintro e w1 ⟨b1, rfl, hbb1, hb1⟩; have H1 : Hid (Below W.heap.size W w1) := hb1; obtain ⟨c0, c1, c2, c3, c4⟩ := KC.out _ H1.out; clear hb1 hbb1; cases b1))
    all_goals
      go_ret
      first
        | exact Tells.much (bnext HW.out H2.out)
        | exact Tells.much (bnext HW.out H1.out)
  · have hal2 : Al ≤ 20 := by omega
    cases c
    · go_enter Tryz.func4, Tryz.ntmps4
      go_wp2_with (first
        | (go_at_call 10; refine (HL.out _).mono ?_; rintro e w3 ⟨rfl, hb3⟩; have H3 : Hid (Below W.heap.size W w3) := bnext H2.out hb3; obtain ⟨f0, f1, f2, f3, f4⟩ := KC.out _ H3.out; clear hb3 d0 d1 d2 d3 d4)
        | (have _t := H1; go_at_call 9; refine (heavyM_any m qo ql qc Q _ (HP.out.2.1.later (bnext HW.out H1.out))).mono ?_; rintro e w2 ⟨b2, rfl, hbb2, hb2⟩; have H2 : Hid (Below W.heap.size W w2) := bnext H1.out hb2; obtain ⟨d0, d1, d2, d3, d4⟩ := KC.out _ H2.out; clear hb2 c0 c1 c2 c3 c4; cases b2 <;> first | (have HG2 : Hid (Slim Q) := hbb2 rfl; clear hbb2) | clear hbb2)
        | (go_at_call 9; rw [← HWE.out]; refine (heavyM_any n po pl pc P W (HP.out.1.later HW.out)).mono ?_; rintro e w1 ⟨b1, rfl, hbb1, hb1⟩; have H1 : Hid (Below W.heap.size W w1) := hb1; obtain ⟨c0, c1, c2, c3, c4⟩ := KC.out _ H1.out; clear hb1; cases b1 <;> first | (have HG1 : Hid (Slim P) := hbb1 rfl; clear hbb1) | clear hbb1))
      · go_loopw [3] (fun i wr => ∃ k : Nat, k ≤ Al ∧ i = .int .i64 (k : Int) ∧ Hid (Below W.heap.size W wr)) (fun i _ => Al - (intOf i).toNat)
        case atStart => exact ⟨0, Nat.zero_le _, rfl, H3.out⟩
        case round =>
          clear f0 f1 f2 f3 f4
          obtain ⟨k, hk, rfl, HS⟩ := hrel
          obtain ⟨g0, g1, g2, g3, g4⟩ := KC.out _ HS.out
          by_cases hlt : k < Al
          · obtain ⟨b, off, n1, so, sl, sc, uo, ul, uc, rfl, a0, a1, a2⟩ := (HP.out.2.2.later (bnext HW.out HS.out)) k hlt
            have z1 : (k : Int) < (Al : Int) := by omega
            have z2 : (0 : Int) ≤ (k : Int) := by omega
            go_wp2_with (go_at_call 11; refine (longRat_any n1 so uo sl sc ul uc 1 _).mono ?_; rintro e w5 ⟨b5, rfl, _, hb5⟩; have H5 : Hid (Below W.heap.size W w5) := bnext HS.out hb5; clear hb5; cases b5)
            · go_roundw
              case rel => exact ⟨k + 1, by omega, by go_num, H5.out⟩
              case measure => simp [intOf]; omega
            · go_ret
              exact Tells.much (bnext HW.out H5.out)
          · have z1 : ¬ (k : Int) < (Al : Int) := by omega
            go_wp2
            go_ret
            exact Tells.nay ⟨HG1.out, HG2.out⟩ (bnext HW.out HS.out)
      · go_ret
        exact Tells.much (bnext HW.out H2.out)
      · go_ret
        exact Tells.much (bnext HW.out H1.out)
    · go_enter Tryz.func4, Tryz.ntmps4
      go_wp2_with (first
        | (go_at_call 10; refine (HL.out _).mono ?_; rintro e w3 ⟨rfl, hb3⟩; have H3 : Hid (Below W.heap.size W w3) := bnext H2.out hb3; clear hb3 d0 d1 d2 d3 d4)
        | (have _t := H1; go_at_call 9; refine (heavyM_any m qo ql qc Q _ (HP.out.2.1.later (bnext HW.out H1.out))).mono ?_; rintro e w2 ⟨b2, rfl, hbb2, hb2⟩; have H2 : Hid (Below W.heap.size W w2) := bnext H1.out hb2; obtain ⟨d0, d1, d2, d3, d4⟩ := KC.out _ H2.out; clear hb2 c0 c1 c2 c3 c4 hbb2; cases b2)
        | (go_at_call 9; rw [← HWE.out]; refine (heavyM_any n po pl pc P W (HP.out.1.later HW.out)).mono ?_; rintro e w1 ⟨b1, rfl, hbb1, hb1⟩; have H1 : Hid (Below W.heap.size W w1) := hb1; obtain ⟨c0, c1, c2, c3, c4⟩ := KC.out _ H1.out; clear hb1 hbb1; cases b1))
      all_goals
        go_ret
        first
          | exact Tells.much (bnext HW.out H3.out)
          | exact Tells.much (bnext HW.out H2.out)
          | exact Tells.much (bnext HW.out H1.out)
end Go.Proofs.YtiemgadnnnhmkaaGreat
/-
  Rationals in plain: what sums, products, quotients are made of; lengths. Rationals in memory.
-/
namespace Go.Proofs.YtiemgadnnnhmkaaGreat
open Go.RowKit
set_option linter.unusedVariables false
set_option linter.unusedSimpArgs false
theorem rmake_parts {n : Int} {d : Nat} (h : d ≠ 0) : (Rat.normalize n d h).num = n / ((n.natAbs.gcd d : Nat) : Int) ∧ (Rat.normalize n d h).den = d / n.natAbs.gcd d := by
  rw [Rat.normalize_eq]; exact ⟨rfl, rfl⟩
/-- numerator and denominator have at most k limbs -/
def Sz (r : Rat) (k : Nat) : Prop := (mag r.num.natAbs).length ≤ k ∧ (mag r.den).length ≤ k
theorem Sz.mono {r : Rat} {k m : Nat} (h : Sz r k) (hk : k ≤ m) : Sz r m := ⟨Nat.le_trans h.1 hk, Nat.le_trans h.2 hk⟩
theorem div_len (a b : Nat) : (mag (a / b)).length ≤ (mag a).length := mag_len_mono (Nat.div_le_self a b)
theorem idiv_abs {n : Int} {d : Nat} (h : (d : Int) ∣ n) : (n / (d : Int)).natAbs = n.natAbs / d := by
  rw [Int.natAbs_ediv_of_dvd h]; rfl
theorem idiv_len {n : Int} {d : Nat} (h : (d : Int) ∣ n) : (mag (n / (d : Int)).natAbs).length ≤ (mag n.natAbs).length := by
  rw [idiv_abs h]; exact div_len _ _
theorem gcd_dvd_abs (n : Int) (d : Nat) : ((n.natAbs.gcd d : Nat) : Int) ∣ n := Int.ofNat_dvd_left.2 (Nat.gcd_dvd_left _ _)
theorem Sz.make {n : Int} {d k : Nat} (h : d ≠ 0) (h1 : (mag n.natAbs).length ≤ k) (h2 : (mag d).length ≤ k) : Sz (Rat.normalize n d h) k := by
  obtain ⟨e1, e2⟩ := rmake_parts (n := n) h
  exact ⟨by rw [e1]; exact Nat.le_trans (idiv_len (gcd_dvd_abs _ _)) h1, by rw [e2]; exact Nat.le_trans (div_len _ _) h2⟩
theorem Sz.neg {a : Rat} {i : Nat} (ha : Sz a i) : Sz (-a) i := ⟨by rw [Rat.neg_num, Int.natAbs_neg]; exact ha.1, by rw [Rat.neg_den]; exact ha.2⟩
theorem Sz.add {a b : Rat} {i j : Nat} (ha : Sz a i) (hb : Sz b j) : Sz (a + b) (2 * i + 2 * j + 1) := by
  rw [Rat.add_def]
  refine Sz.make _ ?_ ?_
  · have h1 := add_len (a.num * (b.den : Int)) (b.num * (a.den : Int))
    have h2 := mul_len a.num (b.den : Int)
    have h3 := mul_len b.num (a.den : Int)
    rw [Int.natAbs_natCast] at h2 h3
    have := ha.1; have := ha.2; have := hb.1; have := hb.2; omega
  · have := mag_len_mul a.den b.den; have := ha.2; have := hb.2; omega
/-- a rational in memory -/
structure RatAt (w : World) (neg : Bool) (ao : Option Addr) (l c : Nat) (bo : Option Addr) (lb cb : Nat) (r : Rat) : Prop where
  num : IntAt w neg ao l c r.num
  den : RowAt w .u64 bo lb cb (mag r.den)
theorem RatAt.later {w w' : World} {neg : Bool} {ao bo : Option Addr} {l c lb cb : Nat} {r : Rat} (h : RatAt w neg ao l c bo lb cb r) (hb : Below w.heap.size w w') : RatAt w' neg ao l c bo lb cb r := ⟨h.num.later hb, h.den.later hb⟩
theorem RatAt.len {w : World} {neg : Bool} {ao bo : Option Addr} {l c lb cb k : Nat} {r : Rat} (h : RatAt w neg ao l c bo lb cb r) (hs : Sz r k) : l ≤ k ∧ lb ≤ k := ⟨by rw [h.num.row.hlen]; exact hs.1, by rw [h.den.hlen]; exact hs.2⟩
/-- cells of a variable -/
def Bx (W : World) (r : Nat) (vs : List Value) : Prop := (∀ j v, vs[j]? = some v → W.cell? ⟨r, j, none⟩ = some v) ∧ (∀ j, W.frozen? ⟨r, j, none⟩ = false)
theorem Bx.later {W w' : World} {B r : Nat} {vs : List Value} (h : Bx W r vs) (hb : Below B W w') (hr : r < B) : Bx w' r vs :=
  ⟨fun j v hj => (hb.cell (p := ⟨r, j, none⟩) hr).trans (h.1 j v hj), fun j => (hb.frozen (p := ⟨r, j, none⟩) hr).trans (h.2 j)⟩
end Go.Proofs.YtiemgadnnnhmkaaGreat
/-
  Variables of any number of cells: what lies in them, what is stored into them.
-/
namespace Go.Proofs.YtiemgadnnnhmkaaGreat
open Go.RowKit
set_option linter.unusedVariables false
set_option linter.unusedSimpArgs false
theorem cell_off {w : World} {r j b o : Nat} {v : Value} (h : b ≠ r) : (w.setCell ⟨r, j, none⟩ v).cell? ⟨b, o, none⟩ = w.cell? ⟨b, o, none⟩ := setCell_ne (fun e => h e.1)
theorem frozen_off {w : World} {r j b o : Nat} {v : Value} : (w.setCell ⟨r, j, none⟩ v).frozen? ⟨b, o, none⟩ = w.frozen? ⟨b, o, none⟩ := by simp [go_sem]
/-- values stored into cells of block r, from j on -/
def putl (w : World) (r : Nat) : Nat → List Value → World
  | _, [] => w
  | j, v :: vs => putl (w.setCell ⟨r, j, none⟩ v) r (j + 1) vs
theorem putl_off {r b o : Nat} (h : b ≠ r) : ∀ (vs : List Value) (j : Nat) (w : World), (putl w r j vs).cell? ⟨b, o, none⟩ = w.cell? ⟨b, o, none⟩
  | [], _, _ => rfl
  | v :: vs, j, w => (putl_off h vs (j + 1) _).trans (cell_off h)
theorem putl_low {r o : Nat} : ∀ (vs : List Value) (j : Nat) (w : World), o < j → (putl w r j vs).cell? ⟨r, o, none⟩ = w.cell? ⟨r, o, none⟩
  | [], _, _, _ => rfl
  | v :: vs, j, w, h => (putl_low vs (j + 1) _ (by omega)).trans (setCell_ne (fun e => by have := e.2; dsimp only at this; omega))
theorem putl_high {r o : Nat} : ∀ (vs : List Value) (j : Nat) (w : World), j + vs.length ≤ o → (putl w r j vs).cell? ⟨r, o, none⟩ = w.cell? ⟨r, o, none⟩
  | [], _, _, _ => rfl
  | v :: vs, j, w, h => (putl_high vs (j + 1) _ (by simp at h; omega)).trans (setCell_ne (fun e => by have := e.2; dsimp only at this; simp at h; omega))
theorem putl_frozen {r b o : Nat} : ∀ (vs : List Value) (j : Nat) (w : World), (putl w r j vs).frozen? ⟨b, o, none⟩ = w.frozen? ⟨b, o, none⟩
  | [], _, _ => rfl
  | v :: vs, j, w => (putl_frozen vs (j + 1) _).trans frozen_off
theorem putl_size {r : Nat} : ∀ (vs : List Value) (j : Nat) (w : World), (putl w r j vs).heap.size = w.heap.size
  | [], _, _ => rfl
  | v :: vs, j, w => (putl_size vs (j + 1) _).trans (by simp [World.setCell])
theorem putl_below {B r : Nat} {w : World} (hr : B ≤ r) : ∀ (vs : List Value) (j : Nat) (w2 : World), Below B w w2 → Below B w (putl w2 r j vs)
  | [], _, _, h => h
  | v :: vs, j, w2, h => putl_below hr vs (j + 1) _ (h.setCell (p := ⟨r, j, none⟩) hr v)
theorem set_hit {w : World} {r j : Nat} {x v : Value} (h : w.cell? ⟨r, j, none⟩ = some x) : (w.setCell ⟨r, j, none⟩ v).cell? ⟨r, j, none⟩ = some v := by simp [go_sem, h]
theorem putl_at {r : Nat} : ∀ (ws vs : List Value) (j : Nat) (w : World), ws.length = vs.length → (∀ i x, vs[i]? = some x → w.cell? ⟨r, j + i, none⟩ = some x) → ∀ i v, ws[i]? = some v → (putl w r j ws).cell? ⟨r, j + i, none⟩ = some v
  | [], _, _, _, _, _, i, v, h => by simp at h
  | u :: ws, [], _, _, hl, _, _, _, _ => by simp at hl
  | u :: ws, x :: vs, j, w, hl, hc, 0, v, h => by
    have h0 : u = v := by simpa using h
    subst h0
    exact (putl_low ws (j + 1) _ (by omega)).trans (set_hit (hc 0 x rfl))
  | u :: ws, x :: vs, j, w, hl, hc, i + 1, v, h => by
    have h1 := putl_at ws vs (j + 1) (w.setCell ⟨r, j, none⟩ u) (by simpa using hl) (fun i' x' h' => (setCell_ne (fun e => by have := e.2; dsimp only at this; omega)).trans ((by rw [show j + 1 + i' = j + (i' + 1) by omega]; exact hc (i' + 1) x' (by simpa using h')))) i v (by simpa using h)
    rw [show j + 1 + i = j + (i + 1) by omega] at h1
    exact h1
theorem Bx.put {w : World} {r : Nat} {ws vs : List Value} (h : Bx w r vs) (hl : ws.length = vs.length) : Bx (putl w r 0 ws) r ws :=
  ⟨fun i v hi => by have := putl_at ws vs 0 w hl (fun i' x h' => by rw [Nat.zero_add]; exact h.1 i' x h') i v hi; rwa [Nat.zero_add] at this, fun j => (putl_frozen ws 0 w).trans (h.2 j)⟩
theorem Bx.off {w : World} {r b : Nat} {ws vs : List Value} (h : Bx w b vs) (hb : b ≠ r) (j : Nat) : Bx (putl w r j ws) b vs :=
  ⟨fun i v hi => (putl_off hb ws j w).trans (h.1 i v hi), fun i => (putl_frozen ws j w).trans (h.2 i)⟩
theorem Bx.lt {w : World} {r : Nat} {v : Value} {vs : List Value} (h : Bx w r (v :: vs)) : r < w.heap.size := cell_lt (h.1 0 v rfl)
theorem Bx.new (w : World) (vs : List Value) (t : TypeId) : Bx (w.alloc (.cells vs.toArray t)) w.heap.size vs :=
  ⟨fun j v h => by simpa [go_sem] using h, fun j => by simp [go_sem]⟩
/-- no word lies in a variable's cells -/
def NoWord (vs : List Value) : Prop := ∀ v ∈ vs, ∀ z : Int, v ≠ .int .u64 z
theorem Bx.row {w : World} {r : Nat} {vs ws : List Value} {p : Option Addr} {m k : Nat} {zs : List Int} (h : Bx w r vs) (hn : NoWord vs) (hl : ws.length = vs.length) (hr : RowAt w .u64 p m k zs) : RowAt (putl w r 0 ws) .u64 p m k zs := by
  refine ⟨hr.hlen, hr.hcap, hr.hnil, ?_⟩
  rcases hr.hat with h0 | ⟨b, off, h1, hlt, h2⟩
  · exact Or.inl h0
  · refine Or.inr ⟨b, off, h1, by rw [putl_size]; exact hlt, fun t ht => ?_⟩
    have h3 := h2 t ht
    by_cases e : b = r
    · subst e
      by_cases h4 : off + t < vs.length
      · have h5 := h.1 (off + t) vs[off + t] (List.getElem?_eq_getElem h4)
        rw [h3] at h5
        exact absurd (Option.some.inj h5).symm (hn _ (List.getElem_mem h4) _)
      · rw [putl_high ws 0 w (by omega)]; exact h3
    · rw [putl_off e ws 0 w]; exact h3
end Go.Proofs.YtiemgadnnnhmkaaGreat
