/-
  NC: walks: the page's order of exponents; terms and polynomials in several variables in memory; what is a good term.
-/
import Derived.Test.YtiemgadnnnhmkaaGreatPO02
import Derived.Test.YtiemgadnnnhmkaaGreatPO03
namespace Go.Proofs.YtiemgadnnnhmkaaGreat
open Go.RowKit
set_option linter.unusedVariables false
set_option linter.unusedSimpArgs false
theorem drew2 (w : World) (a b : Nat) : ∃ n, (w.drewN a).drewN b = w.drewN n := ⟨_, World.drewN_drewN _ _ _⟩
theorem drew3 (w : World) (a b c : Nat) : ∃ n, ((w.drewN a).drewN b).drewN c = w.drewN n := by
  obtain ⟨n, h⟩ := drew2 w a b
  rw [h]; exact drew2 w n c
set_option maxRecDepth 100000 in
set_option maxHeartbeats 2000000 in
theorem rorder_any (ao bo : Option Addr) (la ca lb cb : Nat) (x y : List Int) (c : Int) (w : World) (hx : ExpAt w ao la ca x) (hy : ExpAt w bo lb cb y) (hl : la = lb) (hc : ordE x y = c) :
    Calls Tryz.prog 22 #[.slice ao la ca, .slice bo lb cb] w fun e w' => e = .returned (.int .i64 c) ∧ ∃ n, w' = w.drewN n := by
  subst hl
  have HX : Hid (RowAt w .i64 ao la ca x ∧ RowAt w .i64 bo la cb y ∧ la = x.length ∧ la = y.length ∧ ordE x y = c) := ⟨hx.row, hy.row, hx.row.hlen, hy.row.hlen, hc⟩
  have hl := hx.short
  clear hx hy hc
  go_enter Tryz.func22, Tryz.ntmps22
  go_wp2
  go_loopw [5] (fun i wr => ∃ k : Nat, k ≤ la ∧ i = .int .i64 ((k : Int) - 1) ∧ (∃ nq, wr = w.drewN nq) ∧ Hid (∀ t, k ≤ t → dig x t = dig y t)) (fun i _ => (intOf i + 1).toNat)
  case atStart => exact ⟨la, Nat.le_refl _, rfl, ⟨0, rfl⟩, fun t h => by
    rw [show dig x t = 0 by simp [dig, List.getElem?_eq_none (show x.length ≤ t by have := HX.out; omega)], show dig y t = 0 by simp [dig, List.getElem?_eq_none (show y.length ≤ t by have := HX.out; omega)]]⟩
  case round =>
    obtain ⟨k, hk, rfl, ⟨nq, rfl⟩, HZ⟩ := hrel
    rcases k with _ | k
    · have HE : Hid (c = 0) := by
        show _ = _
        rw [← HX.out.2.2.2.2, (ordE_ordr.zero x y).2 (dig_ext (by have := HX.out; omega) fun t _ => HZ.out t (Nat.zero_le _))]
      go_wp2
      go_ret
      exact ⟨ret_int HE.out.symm, by first | exact ⟨_, rfl⟩ | exact drew2 _ _ _ | exact drew3 _ _ _ _⟩
    · obtain ⟨b, off, rfl, hb, hcx⟩ := HX.out.1.get (by omega)
      obtain ⟨b', off', rfl, hb', hcy⟩ := HX.out.2.1.get (by omega)
      have h1 := hcx k (by omega)
      have h2 := hcy k (by omega)
      have z1 : (k : Int) < (la : Int) := by omega
      have z2 : (0 : Int) ≤ (k : Int) := by omega
      obtain ⟨u, hu⟩ : ∃ u, dig x k = u := ⟨_, rfl⟩
      obtain ⟨v, hv⟩ : ∃ v, dig y k = v := ⟨_, rfl⟩
      rw [hu] at h1
      rw [hv] at h2
      have HU : Hid (dig x k = u ∧ dig y k = v) := ⟨hu, hv⟩
      clear hcx hcy hu hv
      rcases Int.lt_trichotomy u v with he | he | he
      · have HE : Hid (c = -1) := by
          show _ = _
          rw [← HX.out.2.2.2.2, ordE_at (k := k) (by have := HX.out; omega) (by have := HX.out; omega) (fun t ht => HZ.out t ht) (by rw [HU.out.1, HU.out.2]; omega), HU.out.1, HU.out.2, cmpI_lt he]
        go_wp2
        go_quiet (fail)
        go_wp2
        go_ret
        exact ⟨ret_int HE.out.symm, by first | exact ⟨_, rfl⟩ | exact drew2 _ _ _ | exact drew3 _ _ _ _⟩
      · subst he
        have hn : ¬ u < u := by omega
        go_wp2
        go_quiet (fail)
        go_wp2
        go_quiet (fail)
        go_wp2
        go_roundw
        case rel => exact ⟨k, by omega, by first | rfl | go_num, (by first | exact ⟨_, rfl⟩ | exact drew2 _ _ _ | exact drew3 _ _ _ _), fun t ht => by
          by_cases e : t = k
          · subst e; rw [HU.out.1, HU.out.2]
          · exact HZ.out t (by omega)⟩
        case measure => simp [intOf]
      · have HE : Hid (c = 1) := by
          show _ = _
          rw [← HX.out.2.2.2.2, ordE_at (k := k) (by have := HX.out; omega) (by have := HX.out; omega) (fun t ht => HZ.out t ht) (by rw [HU.out.1, HU.out.2]; omega), HU.out.1, HU.out.2, cmpI_gt he]
        have hn : ¬ u < v := by omega
        have hn' : decide (u < v) = false := by simpa using hn
        go_wp2
        go_quiet (fail)
        go_wp2
        go_quiet (fail)
        go_wp2
        go_ret
        exact ⟨ret_int HE.out.symm, by first | exact ⟨_, rfl⟩ | exact drew2 _ _ _ | exact drew3 _ _ _ _⟩
/-- a term lies in block b from o on -/
def TermAt (w : World) (b o : Nat) (t : (List Int × Bool × List Int)) : Prop :=
  ∃ (eo : Option Addr) (el ec : Nat) (ao : Option Addr) (la ca : Nat), (w.cell? ⟨b, o, none⟩ = some (.slice eo el ec) ∧ w.cell? ⟨b, o + 1, none⟩ = some (.bool t.2.1) ∧ w.cell? ⟨b, o + 2, none⟩ = some (.slice ao la ca)) ∧
    ExpAt w eo el ec t.1 ∧ RowAt w .u64 ao la ca t.2.2 ∧ Wd 18446744073709551616 t.2.2 ∧ la ≤ 4611686018427387904
theorem TermAt.later {w w' : World} {b o : Nat} {t : (List Int × Bool × List Int)} (h : TermAt w b o t) (hb : Below w.heap.size w w') : TermAt w' b o t := by
  obtain ⟨eo, el, ec, ao, la, ca, ⟨h0, h1, h2⟩, he, hr, hw, hl⟩ := h
  exact ⟨eo, el, ec, ao, la, ca, ⟨(hb.cell (p := ⟨b, o, none⟩) (cell_lt h0)).trans h0, (hb.cell (p := ⟨b, o + 1, none⟩) (cell_lt h1)).trans h1, (hb.cell (p := ⟨b, o + 2, none⟩) (cell_lt h2)).trans h2⟩, he.later hb, hr.later hb, hw, hl⟩
/-- a list of terms -/
structure TermsAt (w : World) (tp : Option Addr) (tl tc : Nat) (T : List (List Int × Bool × List Int)) : Prop where
  hlen : tl = T.length
  hat : ∀ t, (ht : t < T.length) → ∃ b off, tp = some ⟨b, off, none⟩ ∧ TermAt w b (off + t * 3) T[t]
theorem TermsAt.later {w w' : World} {tp : Option Addr} {tl tc : Nat} {T : List (List Int × Bool × List Int)} (h : TermsAt w tp tl tc T) (hb : Below w.heap.size w w') : TermsAt w' tp tl tc T :=
  ⟨h.hlen, fun t ht => by
    obtain ⟨b, off, e, h1⟩ := h.hat t ht
    exact ⟨b, off, e, h1.later hb⟩⟩
/-- a good term of n variables -/
structure GoodT (n : Int) (t : (List Int × Bool × List Int)) : Prop where
  len : (t.1.length : Int) = n
  may : mayB t.2.1 t.2.2 = true
  nz : t.2.2 ≠ []
  deg : ∀ e ∈ t.1, 0 ≤ e ∧ e ≤ 1024
/-- a good polynomial in n variables -/
structure GoodM (n : Int) (T : List (List Int × Bool × List Int)) : Prop where
  vars : 0 ≤ n ∧ n ≤ 8
  short : T.length ≤ 4096
  term : ∀ t, (ht : t < T.length) → GoodT n T[t]
  desc : ∀ t, (ht : t + 1 < T.length) → 0 < ordE (T[t]'(by omega)).1 T[t + 1].1
/-- a term's coefficient -/
def coefT (t : (List Int × Bool × List Int)) : Int := sgn t.2.1 (val 18446744073709551616 t.2.2).toNat
/-- a term in plain -/
def plainT (t : (List Int × Bool × List Int)) : List Int × Int := (t.1, coefT t)
theorem good_int {w : World} {n : Int} {t : (List Int × Bool × List Int)} {ao : Option Addr} {la ca : Nat} (h : GoodT n t) (hr : RowAt w .u64 ao la ca t.2.2) (hw : Wd 18446744073709551616 t.2.2) : IntAt w t.2.1 ao la ca (coefT t) ∧ t.2.2 = mag (coefT t).natAbs := by
  have hc : Can t.2.2 := by
    obtain ⟨r, z, e⟩ := snoc_of h.nz
    have hm := h.may
    rw [e] at hm ⊢
    exact can_snoc.2 (by simpa [mayB] using hm)
  have h0 := val_nonneg (q := 18446744073709551616) (by decide) hw
  have e : mag (val 18446744073709551616 t.2.2).toNat = t.2.2 := mag_of hw hc (by omega)
  have h1 : mag (coefT t).natAbs = t.2.2 := by
    unfold coefT; rw [natAbs_sgn, e]
  refine ⟨⟨?_, by rw [h1]; exact hr⟩, h1.symm⟩
  unfold coefT
  rw [sgB_sgn, e]
  have : 0 < t.2.2.length := List.length_pos_iff.2 h.nz
  simp [this]
set_option maxRecDepth 100000 in
set_option maxHeartbeats 2000000 in
theorem isTerm_good (n : Int) (t : (List Int × Bool × List Int)) (eo : Option Addr) (el ec : Nat) (ao : Option Addr) (la ca : Nat) (w : World) (h : GoodT n t) (he : ExpAt w eo el ec t.1) (hr : RowAt w .u64 ao la ca t.2.2) (hw : Wd 18446744073709551616 t.2.2) (hl : la ≤ 4611686018427387904) (hn : n ≤ 8) :
    Calls Tryz.prog 40 #[.agg #[.slice eo el ec, .bool t.2.1, .slice ao la ca], .int .i64 n] w fun e w' => e = .returned (.bool true) ∧ Below w.heap.size w w' := by
  obtain ⟨E, neg, zs⟩ := t
  dsimp only at *
  obtain ⟨hI, hmag⟩ := good_int (t := (E, neg, zs)) h hr hw
  dsimp only at hI hmag
  have hel : (el : Int) = n := by rw [← h.len, he.row.hlen]
  obtain ⟨W, hW⟩ : ∃ W, W = w.alloc (.cells #[.slice eo el ec, .bool neg, .slice ao la ca] 56) := ⟨_, rfl⟩
  have HW : Hid (Below w.heap.size w W) := by rw [hW]; exact (Below.refl _ _).alloc (Nat.le_refl _) _
  have HC : Hid (∀ W', Below w.heap.size w W' → Calls Tryz.prog 64 #[.agg #[.bool neg, .slice ao la ca]] W' fun e w' => e = .returned (.int .i64 0) ∧ Below W'.heap.size W' w') := fun W' hb => check_at neg ao la ca zs W' (hr.later hb) hl 0 (by rw [if_pos h.may])
  obtain ⟨s, hs⟩ : ∃ s, cmpI (coefT (E, neg, zs)) 0 = s := ⟨_, rfl⟩
  have hs0 : (s == 0) = false := by
    have : s ≠ 0 := by
      intro e
      rw [e] at hs
      have h0 := cmpI_ordr.eq _ _ hs
      rw [h0] at hmag
      exact h.nz (hmag.trans (by rfl))
    simpa using this
  have HS : Hid (∀ W', Below w.heap.size w W' → Calls Tryz.prog 65 #[.agg #[.bool neg, .slice ao la ca]] W' fun e w' => e = .returned (.int .i64 s) ∧ Below W'.heap.size W' w') := fun W' hb => bsign_any neg ao la ca _ W' (hI.later hb) hl s hs
  have HE : Hid (ExpAt w eo el ec E ∧ ∀ k, k < el → 0 ≤ dig E k ∧ dig E k ≤ 1024) := ⟨he, fun k hk => by
    have hk' : k < E.length := by rw [← he.row.hlen]; exact hk
    have : dig E k = E[k] := by simp [dig, hk']
    rw [this]; exact h.deg _ (List.getElem_mem hk')⟩
  have KC : Hid (∀ w', Below W.heap.size W w' → w'.cell? ⟨w.heap.size, 0, none⟩ = some (.slice eo el ec) ∧ w'.cell? ⟨w.heap.size, 1, none⟩ = some (.bool neg) ∧ w'.cell? ⟨w.heap.size, 2, none⟩ = some (.slice ao la ca)) := fun w' h => by
    rw [hW] at h
    have hk : ∀ j v, [Value.slice eo el ec, .bool neg, .slice ao la ca][j]? = some v → w'.cell? ⟨w.heap.size, j, none⟩ = some v := fun j v hj => by
      rw [h.cell (p := ⟨w.heap.size, j, none⟩) (by simp)]
      simpa [go_sem] using hj
    exact ⟨hk 0 _ rfl, hk 1 _ rfl, hk 2 _ rfl⟩
  have hel8 : el ≤ 8 := by omega
  subst hel
  clear h he hr hw hI hmag hs
  go_enter Tryz.func40, Tryz.ntmps40
  go_wp2_with (first
    | (go_at_call 65; refine (HS.out _ HB1.out.2).mono ?_; rintro e w2 ⟨rfl, hb2⟩; have HB2 : Hid (Below W.heap.size W w2 ∧ Below w.heap.size w w2) := ⟨bnext HB1.out.1 hb2, bnext HB1.out.2 hb2⟩; obtain ⟨q0, q1, q2⟩ := KC.out _ HB2.out.1; clear hb2 p0 p1 p2)
    | (go_at_call 64; rw [← hW]; refine (HC.out _ HW.out).mono ?_; rintro e w1 ⟨rfl, hb1⟩; have HB1 : Hid (Below W.heap.size W w1 ∧ Below w.heap.size w w1) := ⟨hb1, bnext HW.out hb1⟩; obtain ⟨p0, p1, p2⟩ := KC.out _ hb1; clear hb1))
  go_loopw [27, 6] (fun i z wr => ∃ k : Nat, k ≤ el ∧ i = .int .i64 (k : Int) ∧ wr = w2) (fun i _ _ => el - (intOf i).toNat)
  case atStart => exact ⟨0, Nat.zero_le _, rfl, rfl⟩
  case round =>
    obtain ⟨k, hk, rfl, rfl⟩ := hrel
    by_cases hlt : k < el
    · obtain ⟨b, off, rfl, _, hc⟩ := (HE.out.1.later HB2.out.2).row.get (by omega)
      have h1 := hc k hlt
      obtain ⟨z, hz⟩ : ∃ z, dig E k = z := ⟨_, rfl⟩
      obtain ⟨g0, g1⟩ := HE.out.2 k hlt
      rw [hz] at h1 g0 g1
      have z1 : (k : Int) < (el : Int) := by omega
      have z2 : (0 : Int) ≤ (k : Int) := by omega
      have z3 : ¬ z < 0 := by omega
      have z4 : ¬ 1024 < z := by omega
      clear hc hz
      go_wp2
      go_roundw
      case rel => exact ⟨k + 1, by omega, by go_num, by first | trivial | rfl⟩
      case measure => simp [intOf]; omega
    · have z1 : ¬ (k : Int) < (el : Int) := by omega
      go_wp2
      go_ret
      exact ⟨rfl, HB2.out.2⟩
end Go.Proofs.YtiemgadnnnhmkaaGreat
/-
  ND: walks: mpoly's compare, Check, checkBoth, Cmp of good polynomials. (gen/nd.py)
-/
namespace Go.Proofs.YtiemgadnnnhmkaaGreat
open Go.RowKit
set_option linter.unusedVariables false
set_option linter.unusedSimpArgs false
set_option maxHeartbeats 400000 in
theorem isCount_good (n : Int) (w : World) (h : 0 ≤ n ∧ n ≤ 8) : Calls Tryz.prog 28 #[.int .i64 n] w fun e w' => e = .returned (.bool true) ∧ w' = w := by
  obtain ⟨h0, h1⟩ := h
  go_enter Tryz.func28, Tryz.ntmps28
  go_wp2
  go_ret
  exact ⟨by first | rfl | simp, rfl⟩
theorem TermsAt.get {w : World} {tp : Option Addr} {tl tc : Nat} {T : List (List Int × Bool × List Int)} (h : TermsAt w tp tl tc T) {k : Nat} (hk : k < T.length) :
    ∃ b off eo el ec n ao la ca, tp = some ⟨b, off, none⟩ ∧ b < w.heap.size ∧ (w.cell? ⟨b, off + k * 3, none⟩ = some (.slice eo el ec) ∧ w.cell? ⟨b, off + k * 3 + 1, none⟩ = some (.bool n) ∧ w.cell? ⟨b, off + k * 3 + 2, none⟩ = some (.slice ao la ca)) ∧
      n = T[k].2.1 ∧ ExpAt w eo el ec T[k].1 ∧ RowAt w .u64 ao la ca T[k].2.2 ∧ Wd 18446744073709551616 T[k].2.2 ∧ la ≤ 4611686018427387904 := by
  obtain ⟨b, off, e, eo, el, ec, ao, la, ca, hc, h1, h2, h3, h4⟩ := h.hat k hk
  exact ⟨b, off, eo, el, ec, _, ao, la, ca, e, cell_lt hc.1, hc, rfl, h1, h2, h3, h4⟩
theorem take_ext {α : Type} {p q : List α} {k : Nat} (hp : k < p.length) (hq : k < q.length) (h : p.take k = q.take k) (he : p[k] = q[k]) : p.take (k + 1) = q.take (k + 1) := by
  rw [List.take_succ_eq_append_getElem hp, List.take_succ_eq_append_getElem hq, h, he]
set_option maxRecDepth 100000 in
set_option maxHeartbeats 8000000 in
theorem mcompare_any (n : Int) (po qo : Option Addr) (pl pc ql qc : Nat) (P Q : List (List Int × Bool × List Int)) (c : Int) (w : World) (hp : TermsAt w po pl pc P) (hq : TermsAt w qo ql qc Q) (gp : GoodM n P) (gq : GoodM n Q) (hla : ∀ t, (h : t < P.length) → P[t].2.2.length ≤ 4294967296) (hlb : ∀ t, (h : t < Q.length) → Q[t].2.2.length ≤ 4294967296) (hc : polyC (P.map plainT) (Q.map plainT) = c) :
    Calls Tryz.prog 14 #[.slice po pl pc, .slice qo ql qc] w fun e w' => e = .returned (.int .i64 c) ∧ Below w.heap.size w w' := by
  have HP : Hid (TermsAt w po pl pc P ∧ TermsAt w qo ql qc Q ∧ GoodM n P ∧ GoodM n Q ∧ polyC (P.map plainT) (Q.map plainT) = c) := ⟨hp, hq, gp, gq, hc⟩
  have HL : Hid ((∀ t, (h : t < P.length) → P[t].2.2.length ≤ 4294967296) ∧ (∀ t, (h : t < Q.length) → Q[t].2.2.length ≤ 4294967296)) := ⟨hla, hlb⟩
  have hpl : pl ≤ 4096 := by have := hp.hlen; have := gp.short; omega
  have hql : ql ≤ 4096 := by have := hq.hlen; have := gq.short; omega
  have HN : Hid (pl = P.length ∧ ql = Q.length) := ⟨hp.hlen, hq.hlen⟩
  obtain ⟨m, hm⟩ : ∃ m, m = min pl ql := ⟨_, rfl⟩
  have hmI : min (pl : Int) (ql : Int) = (m : Int) := by omega
  have HM : Hid (m = min pl ql) := hm
  clear hp hq gp gq hc hm hla hlb
  go_enter Tryz.func14, Tryz.ntmps14
  go_wp2
  go_loopw [12] (fun i wr => ∃ k : Nat, k ≤ m ∧ i = .int .i64 (k : Int) ∧ Hid (Below w.heap.size w wr ∧ (P.map plainT).take k = (Q.map plainT).take k)) (fun i _ => m - (intOf i).toNat)
  case atStart => exact ⟨0, Nat.zero_le _, rfl, Below.refl _ _, rfl⟩
  case round =>
    obtain ⟨k, hk, rfl, HS⟩ := hrel
    by_cases hlt : k < m
    · have hkp : k < P.length := by have := HM.out; have := HN.out; omega
      have hkq : k < Q.length := by have := HM.out; have := HN.out; omega
      obtain ⟨b, off, eo, el, ec, n1, ao, la, ca, rfl, hb, ⟨a0, a1, a2⟩, hn1, he1, hr1, hw1, hl1⟩ := (HP.out.1.later HS.out.1).get hkp
      obtain ⟨b', off', eo', el', ec', n2, ao', la', ca', rfl, hb', ⟨b0, b1, b2⟩, hn2, he2, hr2, hw2, hl2⟩ := (HP.out.2.1.later HS.out.1).get hkq
      have gt1 := HP.out.2.2.1.term k hkp
      have gt2 := HP.out.2.2.2.1.term k hkq
      have HI1 : Hid (IntAt wr n1 ao la ca (coefT P[k])) := by rw [hn1]; exact (good_int gt1 hr1 hw1).1
      have HI2 : Hid (IntAt wr n2 ao' la' ca' (coefT Q[k])) := by rw [hn2]; exact (good_int gt2 hr2 hw2).1
      have hla : la ≤ 4294967296 := by rw [hr1.hlen]; exact HL.out.1 k hkp
      have hlb : la' ≤ 4294967296 := by rw [hr2.hlen]; exact HL.out.2 k hkq
      obtain ⟨c1, hc1⟩ : ∃ c1, ordE P[k].1 Q[k].1 = c1 := ⟨_, rfl⟩
      obtain ⟨c2, hc2⟩ : ∃ c2, cmpI (coefT P[k]) (coefT Q[k]) = c2 := ⟨_, rfl⟩
      have HCE : Hid (∀ W, Below wr.heap.size wr W → Calls Tryz.prog 24 #[.slice eo el ec, .slice eo' el' ec'] W fun e w' => e = .returned (.int .i64 c1) ∧ Below W.heap.size W w') := fun W hbw =>
        (compareExps_any eo eo' el ec el' ec' _ _ c1 W (he1.later hbw) (he2.later hbw) (by have h1 := gt1.len; have h2 := gt2.len; have h3 := he1.row.hlen; have h4 := he2.row.hlen; omega) hc1).mono fun e w' h => ⟨h.1, by obtain ⟨q, hq⟩ := h.2; rw [hq]; exact below_drewN (Below.refl _ _) _⟩
      have HCB : Hid (∀ W, Below wr.heap.size wr W → Calls Tryz.prog 25 #[.agg #[.bool n1, .slice ao la ca], .agg #[.bool n2, .slice ao' la' ca']] W fun e w' => e = .returned (.int .i64 c2) ∧ Below W.heap.size W w') := fun W hbw =>
        bcmp_any n1 n2 ao ao' la ca la' ca' _ _ W (HI1.out.later hbw) (HI2.out.later hbw) hla hlb c2 hc2
      have HT : Hid ((P.map plainT).length = P.length ∧ (Q.map plainT).length = Q.length ∧ k < P.length ∧ k < Q.length ∧ ∀ (h1 : k < (P.map plainT).length) (h2 : k < (Q.map plainT).length), termC (P.map plainT)[k] (Q.map plainT)[k] = if c1 = 0 then c2 else c1) := ⟨by simp, by simp, hkp, hkq, fun h1 h2 => by
        rw [List.getElem_map, List.getElem_map]; unfold termC plainT; dsimp only; rw [hc1, hc2]⟩
      have KS : Hid (∀ w', Below wr.heap.size wr w' → w'.cell? ⟨b, off + k * 3, none⟩ = some (.slice eo el ec) ∧ w'.cell? ⟨b', off' + k * 3, none⟩ = some (.slice eo' el' ec')) := fun w' h => ⟨(h.cell (p := ⟨b, off + k * 3, none⟩) hb).trans a0, (h.cell (p := ⟨b', off' + k * 3, none⟩) hb').trans b0⟩
      have KS6 : Hid (∀ w', Below wr.heap.size wr w' → w'.cell? ⟨b, off + k * 3 + 1, none⟩ = some (.bool n1) ∧ w'.cell? ⟨b, off + k * 3 + 2, none⟩ = some (.slice ao la ca) ∧ w'.cell? ⟨b', off' + k * 3 + 1, none⟩ = some (.bool n2) ∧ w'.cell? ⟨b', off' + k * 3 + 2, none⟩ = some (.slice ao' la' ca')) := fun w' h => ⟨(h.cell (p := ⟨b, off + k * 3 + 1, none⟩) hb).trans a1, (h.cell (p := ⟨b, off + k * 3 + 2, none⟩) hb).trans a2, (h.cell (p := ⟨b', off' + k * 3 + 1, none⟩) hb').trans b1, (h.cell (p := ⟨b', off' + k * 3 + 2, none⟩) hb').trans b2⟩
      have z1 : (k : Int) < (m : Int) := by omega
      have z2 : (0 : Int) ≤ (k : Int) := by omega
      have z3 : (k : Int) < (pl : Int) := by have := HM.out; omega
      have z4 : (k : Int) < (ql : Int) := by have := HM.out; omega
      clear a0 a1 a2 b0 b1 b2 hn1 hn2 he1 he2 hr1 hr2 hw1 hw2 hl1 hl2 gt1 gt2 hla hlb hc1 hc2 hb hb'
      by_cases e1 : c1 = 0
      · subst e1
        by_cases e2 : c2 = 0
        · subst e2
          go_wp2
          refine wp_region_noPanic ?_
          refine wp_region_held_drew (S := fun w' => (w'.cell? ⟨b, off + k * 3, none⟩ = some (.slice eo el ec) ∧ w'.cell? ⟨b', off' + k * 3, none⟩ = some (.slice eo' el' ec'))) (by kernel_rfl) (by (try dsimp only); exact KS.out _ (Below.refl _ _).drew) (fun hHeld => ?_)
          refine wpAnyH_take (i := 0) (oi := Oper.mk (some 15) _ _ _ _ _) (v := ?_) rfl (by decide +kernel) (by decide +kernel) (by decide +kernel) (fun _ _ _ h => h) (Or.inl ⟨by rfl, ?_⟩) (by assumption) ?_
          rotate_left
          · (intro w hSw; (try dsimp only at hSw); go_simp <;> (try with_reducible rfl))
          (try simp only [Act.put, List.setIfInBounds_toArray, List.set_cons_zero, List.set_cons_succ])
          refine wpAnyH_take (i := 1) (oi := Oper.mk (some 16) _ _ _ _ _) (v := ?_) rfl (by decide +kernel) (by decide +kernel) (by decide +kernel) (fun _ _ _ h => h) (Or.inl ⟨by rfl, ?_⟩) (by assumption) ?_
          rotate_left
          · (intro w hSw; (try dsimp only at hSw); go_simp <;> (try with_reducible rfl))
          (try simp only [Act.put, List.setIfInBounds_toArray, List.set_cons_zero, List.set_cons_succ])
          refine wpAnyH_take (i := 2) (oi := Oper.mk (some 17) _ _ _ _ _) (v := ?_) rfl (by decide +kernel) (by decide +kernel) (by decide +kernel) (fun _ _ _ h => h) (Or.inl ⟨by rfl, ?_⟩) (by assumption) ?_
          rotate_left
          · (intro w hSw; (try dsimp only at hSw); go_simp <;> (try with_reducible rfl))
          (try simp only [Act.put, List.setIfInBounds_toArray, List.set_cons_zero, List.set_cons_succ])
          refine wpAnyH_take (i := 3) (oi := Oper.mk (some 18) _ _ _ _ _) (v := ?_) rfl (by decide +kernel) (by decide +kernel) (by decide +kernel) (fun _ _ _ h => h) (Or.inl ⟨by rfl, ?_⟩) (by assumption) ?_
          rotate_left
          · (intro w hSw; (try dsimp only at hSw); go_simp <;> (try with_reducible rfl))
          (try simp only [Act.put, List.setIfInBounds_toArray, List.set_cons_zero, List.set_cons_succ])
          refine wpAnyH_take (i := 4) (oi := Oper.mk (some 19) _ _ _ _ _) (v := ?_) rfl (by decide +kernel) (by decide +kernel) (by decide +kernel) (fun _ _ _ h => h) (Or.inl ⟨by rfl, ?_⟩) (by assumption) ?_
          rotate_left
          · (intro w hSw; (try dsimp only at hSw); go_simp <;> (try with_reducible rfl))
          (try simp only [Act.put, List.setIfInBounds_toArray, List.set_cons_zero, List.set_cons_succ])
          refine wpAnyH_take (i := 5) (oi := Oper.mk (some 20) _ _ _ _ _) (v := ?_) rfl (by decide +kernel) (by decide +kernel) (by decide +kernel) (fun _ _ _ h => h) (Or.inl ⟨by rfl, ?_⟩) (by assumption) ?_
          rotate_left
          · (intro w hSw; (try dsimp only at hSw); go_simp <;> (try with_reducible rfl))
          (try simp only [Act.put, List.setIfInBounds_toArray, List.set_cons_zero, List.set_cons_succ])
          refine wpAnyH_take (i := 6) (oi := Oper.mk (some 21) _ _ _ _ _) (v := ?_) rfl (by decide +kernel) (by decide +kernel) (by decide +kernel) (fun _ _ _ h => h) (Or.inl ⟨by rfl, ?_⟩) (by assumption) ?_
          rotate_left
          · (intro w hSw; (try dsimp only at hSw); go_simp <;> (try with_reducible rfl))
          (try simp only [Act.put, List.setIfInBounds_toArray, List.set_cons_zero, List.set_cons_succ])
          refine wpAnyH_take (i := 7) (oi := Oper.mk (some 22) _ _ _ _ _) (v := ?_) rfl (by decide +kernel) (by decide +kernel) (by decide +kernel) (fun _ _ _ h => h) (Or.inl ⟨by rfl, ?_⟩) (by assumption) ?_
          rotate_left
          · (intro w hSw; (try dsimp only at hSw); go_simp <;> (try with_reducible rfl))
          (try simp only [Act.put, List.setIfInBounds_toArray, List.set_cons_zero, List.set_cons_succ])
          refine wpAnyH_take (i := 8) (oi := Oper.mk (some 23) _ _ _ _ _) (v := ?_) rfl (by decide +kernel) (by decide +kernel) (by decide +kernel) (fun _ _ _ h => h) (Or.inl ⟨by rfl, ?_⟩) (by assumption) ?_
          rotate_left
          · (intro w hSw; (try dsimp only at hSw); go_simp <;> (try with_reducible rfl))
          (try simp only [Act.put, List.setIfInBounds_toArray, List.set_cons_zero, List.set_cons_succ])
          refine wpAnyH_take (i := 9) (oi := Oper.mk (some 24) _ _ _ _ _) (v := ?_) rfl (by decide +kernel) (by decide +kernel) (by decide +kernel) (fun _ _ _ h => h) (Or.inl ⟨by rfl, ?_⟩) (by assumption) ?_
          rotate_left
          · (intro w hSw; (try dsimp only at hSw); go_simp <;> (try with_reducible rfl))
          (try simp only [Act.put, List.setIfInBounds_toArray, List.set_cons_zero, List.set_cons_succ])
          refine wpAnyH_ready (rs := [10]) (by decide +kernel) (by simp) ?_
          refine AllReadyH.cons (o := Oper.mk (some 25) _ _ _ _ _) rfl (fun K hK => ?_) AllReadyH.nil
          go_simp
          (go_at_call 24; refine (HCE.out _ (Below.refl _ _).drew).mono ?_; rintro e w4 ⟨rfl, hb4'⟩; have hb4 : Below wr.heap.size wr w4 := bnext (Below.refl _ _).drew hb4'; have HB4 : Hid (Below wr.heap.size wr w4 ∧ Below w.heap.size w w4) := ⟨hb4, bnext HS.out.1 hb4⟩; clear hb4 hb4')
          (try go_wp2_with fail)
          clear hHeld
          refine hK.out _ _ (by (try dsimp only); exact KS.out _ HB4.out.1) (fun hHeld => ?_)
          clear hK K
          (try simp only [Act.put, List.setIfInBounds_toArray, List.set_cons_zero, List.set_cons_succ])
          refine wpAnyH_take (i := 11) (oi := Oper.mk (some 6) _ _ _ _ _) (v := ?_) rfl (by decide +kernel) (by decide +kernel) (by decide +kernel) (fun _ _ _ h => h) (Or.inl ⟨by rfl, ?_⟩) (by assumption) ?_
          rotate_left
          · (intro w hSw; (try dsimp only at hSw); go_simp <;> (try with_reducible rfl))
          (try simp only [Act.put, List.setIfInBounds_toArray, List.set_cons_zero, List.set_cons_succ])
          refine wpAnyH_done (by decide +kernel) ?_ _
          refine NoPanic.normal ?_
          go_wp2
          refine wp_region_noPanic ?_
          refine wp_region_held_drew (S := fun w' => (w'.cell? ⟨b, off + k * 3 + 1, none⟩ = some (.bool n1) ∧ w'.cell? ⟨b, off + k * 3 + 2, none⟩ = some (.slice ao la ca) ∧ w'.cell? ⟨b', off' + k * 3 + 1, none⟩ = some (.bool n2) ∧ w'.cell? ⟨b', off' + k * 3 + 2, none⟩ = some (.slice ao' la' ca'))) (by kernel_rfl) (by (try dsimp only); exact KS6.out _ HB4.out.1.drew) (fun hHeld => ?_)
          refine wpAnyH_take (i := 0) (oi := Oper.mk (some 28) _ _ _ _ _) (v := ?_) rfl (by decide +kernel) (by decide +kernel) (by decide +kernel) (fun _ _ _ h => h) (Or.inl ⟨by rfl, ?_⟩) (by assumption) ?_
          rotate_left
          · (intro w hSw; (try dsimp only at hSw); go_simp <;> (try with_reducible rfl))
          (try simp only [Act.put, List.setIfInBounds_toArray, List.set_cons_zero, List.set_cons_succ])
          refine wpAnyH_take (i := 1) (oi := Oper.mk (some 29) _ _ _ _ _) (v := ?_) rfl (by decide +kernel) (by decide +kernel) (by decide +kernel) (fun _ _ _ h => h) (Or.inl ⟨by rfl, ?_⟩) (by assumption) ?_
          rotate_left
          · (intro w hSw; (try dsimp only at hSw); go_simp <;> (try with_reducible rfl))
          (try simp only [Act.put, List.setIfInBounds_toArray, List.set_cons_zero, List.set_cons_succ])
          refine wpAnyH_take (i := 2) (oi := Oper.mk (some 30) _ _ _ _ _) (v := ?_) rfl (by decide +kernel) (by decide +kernel) (by decide +kernel) (fun _ _ _ h => h) (Or.inl ⟨by rfl, ?_⟩) (by assumption) ?_
          rotate_left
          · (intro w hSw; (try dsimp only at hSw); go_simp <;> (try with_reducible rfl))
          (try simp only [Act.put, List.setIfInBounds_toArray, List.set_cons_zero, List.set_cons_succ])
          refine wpAnyH_take (i := 3) (oi := Oper.mk (some 31) _ _ _ _ _) (v := ?_) rfl (by decide +kernel) (by decide +kernel) (by decide +kernel) (fun _ _ _ h => h) (Or.inl ⟨by rfl, ?_⟩) (by assumption) ?_
          rotate_left
          · (intro w hSw; (try dsimp only at hSw); go_simp <;> (try with_reducible rfl))
          (try simp only [Act.put, List.setIfInBounds_toArray, List.set_cons_zero, List.set_cons_succ])
          refine wpAnyH_take (i := 4) (oi := Oper.mk (some 32) _ _ _ _ _) (v := ?_) rfl (by decide +kernel) (by decide +kernel) (by decide +kernel) (fun _ _ _ h => h) (Or.inl ⟨by rfl, ?_⟩) (by assumption) ?_
          rotate_left
          · (intro w hSw; (try dsimp only at hSw); go_simp <;> (try with_reducible rfl))
          (try simp only [Act.put, List.setIfInBounds_toArray, List.set_cons_zero, List.set_cons_succ])
          refine wpAnyH_take (i := 5) (oi := Oper.mk (some 33) _ _ _ _ _) (v := ?_) rfl (by decide +kernel) (by decide +kernel) (by decide +kernel) (fun _ _ _ h => h) (Or.inl ⟨by rfl, ?_⟩) (by assumption) ?_
          rotate_left
          · (intro w hSw; (try dsimp only at hSw); go_simp <;> (try with_reducible rfl))
          (try simp only [Act.put, List.setIfInBounds_toArray, List.set_cons_zero, List.set_cons_succ])
          refine wpAnyH_take (i := 6) (oi := Oper.mk (some 34) _ _ _ _ _) (v := ?_) rfl (by decide +kernel) (by decide +kernel) (by decide +kernel) (fun _ _ _ h => h) (Or.inl ⟨by rfl, ?_⟩) (by assumption) ?_
          rotate_left
          · (intro w hSw; (try dsimp only at hSw); go_simp <;> (try with_reducible rfl))
          (try simp only [Act.put, List.setIfInBounds_toArray, List.set_cons_zero, List.set_cons_succ])
          refine wpAnyH_take (i := 7) (oi := Oper.mk (some 35) _ _ _ _ _) (v := ?_) rfl (by decide +kernel) (by decide +kernel) (by decide +kernel) (fun _ _ _ h => h) (Or.inl ⟨by rfl, ?_⟩) (by assumption) ?_
          rotate_left
          · (intro w hSw; (try dsimp only at hSw); go_simp <;> (try with_reducible rfl))
          (try simp only [Act.put, List.setIfInBounds_toArray, List.set_cons_zero, List.set_cons_succ])
          refine wpAnyH_take (i := 8) (oi := Oper.mk (some 36) _ _ _ _ _) (v := ?_) rfl (by decide +kernel) (by decide +kernel) (by decide +kernel) (fun _ _ _ h => h) (Or.inl ⟨by rfl, ?_⟩) (by assumption) ?_
          rotate_left
          · (intro w hSw; (try dsimp only at hSw); go_simp <;> (try with_reducible rfl))
          (try simp only [Act.put, List.setIfInBounds_toArray, List.set_cons_zero, List.set_cons_succ])
          refine wpAnyH_take (i := 9) (oi := Oper.mk (some 37) _ _ _ _ _) (v := ?_) rfl (by decide +kernel) (by decide +kernel) (by decide +kernel) (fun _ _ _ h => h) (Or.inl ⟨by rfl, ?_⟩) (by assumption) ?_
          rotate_left
          · (intro w hSw; (try dsimp only at hSw); go_simp <;> (try with_reducible rfl))
          (try simp only [Act.put, List.setIfInBounds_toArray, List.set_cons_zero, List.set_cons_succ])
          refine wpAnyH_ready (rs := [10]) (by decide +kernel) (by simp) ?_
          refine AllReadyH.cons (o := Oper.mk (some 38) _ _ _ _ _) rfl (fun K hK => ?_) AllReadyH.nil
          go_simp
          (go_at_call 25; refine (HCB.out _ HB4.out.1.drew).mono ?_; rintro e w6 ⟨rfl, hb6'⟩; have hb6 : Below wr.heap.size wr w6 := bnext HB4.out.1.drew hb6'; have HB6 : Hid (Below wr.heap.size wr w6 ∧ Below w.heap.size w w6) := ⟨hb6, bnext HS.out.1 hb6⟩; clear hb6 hb6')
          (try go_wp2_with fail)
          clear hHeld
          refine hK.out _ _ (by (try dsimp only); exact KS6.out _ HB6.out.1) (fun hHeld => ?_)
          clear hK K
          (try simp only [Act.put, List.setIfInBounds_toArray, List.set_cons_zero, List.set_cons_succ])
          refine wpAnyH_take (i := 11) (oi := Oper.mk (some 6) _ _ _ _ _) (v := ?_) rfl (by decide +kernel) (by decide +kernel) (by decide +kernel) (fun _ _ _ h => h) (Or.inl ⟨by rfl, ?_⟩) (by assumption) ?_
          rotate_left
          · (intro w hSw; (try dsimp only at hSw); go_simp <;> (try with_reducible rfl))
          (try simp only [Act.put, List.setIfInBounds_toArray, List.set_cons_zero, List.set_cons_succ])
          refine wpAnyH_done (by decide +kernel) ?_ _
          refine NoPanic.normal ?_
          go_wp2
          go_roundw
          case rel => exact ⟨k + 1, by omega, by go_num, HB6.out.2, take_ext (by rw [HT.out.1]; exact HT.out.2.2.1) (by rw [HT.out.2.1]; exact HT.out.2.2.2.1) HS.out.2 (termC_ordr.eq _ _ (by rw [HT.out.2.2.2.2]; rfl))⟩
          case measure => simp [intOf]; omega
        · have e2' : (c2 != 0) = true := by simpa using e2
          have HE : Hid (c2 = c) := by
            show _ = _
            rw [← HP.out.2.2.2.2, polyC_at (k := k) (by rw [HT.out.1]; exact HT.out.2.2.1) (by rw [HT.out.2.1]; exact HT.out.2.2.2.1) HS.out.2 (by rw [HT.out.2.2.2.2]; simpa using e2), HT.out.2.2.2.2]; rfl
          clear e2
          go_wp2
          refine wp_region_noPanic ?_
          refine wp_region_held_drew (S := fun w' => (w'.cell? ⟨b, off + k * 3, none⟩ = some (.slice eo el ec) ∧ w'.cell? ⟨b', off' + k * 3, none⟩ = some (.slice eo' el' ec'))) (by kernel_rfl) (by (try dsimp only); exact KS.out _ (Below.refl _ _).drew) (fun hHeld => ?_)
          refine wpAnyH_take (i := 0) (oi := Oper.mk (some 15) _ _ _ _ _) (v := ?_) rfl (by decide +kernel) (by decide +kernel) (by decide +kernel) (fun _ _ _ h => h) (Or.inl ⟨by rfl, ?_⟩) (by assumption) ?_
          rotate_left
          · (intro w hSw; (try dsimp only at hSw); go_simp <;> (try with_reducible rfl))
          (try simp only [Act.put, List.setIfInBounds_toArray, List.set_cons_zero, List.set_cons_succ])
          refine wpAnyH_take (i := 1) (oi := Oper.mk (some 16) _ _ _ _ _) (v := ?_) rfl (by decide +kernel) (by decide +kernel) (by decide +kernel) (fun _ _ _ h => h) (Or.inl ⟨by rfl, ?_⟩) (by assumption) ?_
          rotate_left
          · (intro w hSw; (try dsimp only at hSw); go_simp <;> (try with_reducible rfl))
          (try simp only [Act.put, List.setIfInBounds_toArray, List.set_cons_zero, List.set_cons_succ])
          refine wpAnyH_take (i := 2) (oi := Oper.mk (some 17) _ _ _ _ _) (v := ?_) rfl (by decide +kernel) (by decide +kernel) (by decide +kernel) (fun _ _ _ h => h) (Or.inl ⟨by rfl, ?_⟩) (by assumption) ?_
          rotate_left
          · (intro w hSw; (try dsimp only at hSw); go_simp <;> (try with_reducible rfl))
          (try simp only [Act.put, List.setIfInBounds_toArray, List.set_cons_zero, List.set_cons_succ])
          refine wpAnyH_take (i := 3) (oi := Oper.mk (some 18) _ _ _ _ _) (v := ?_) rfl (by decide +kernel) (by decide +kernel) (by decide +kernel) (fun _ _ _ h => h) (Or.inl ⟨by rfl, ?_⟩) (by assumption) ?_
          rotate_left
          · (intro w hSw; (try dsimp only at hSw); go_simp <;> (try with_reducible rfl))
          (try simp only [Act.put, List.setIfInBounds_toArray, List.set_cons_zero, List.set_cons_succ])
          refine wpAnyH_take (i := 4) (oi := Oper.mk (some 19) _ _ _ _ _) (v := ?_) rfl (by decide +kernel) (by decide +kernel) (by decide +kernel) (fun _ _ _ h => h) (Or.inl ⟨by rfl, ?_⟩) (by assumption) ?_
          rotate_left
          · (intro w hSw; (try dsimp only at hSw); go_simp <;> (try with_reducible rfl))
          (try simp only [Act.put, List.setIfInBounds_toArray, List.set_cons_zero, List.set_cons_succ])
          refine wpAnyH_take (i := 5) (oi := Oper.mk (some 20) _ _ _ _ _) (v := ?_) rfl (by decide +kernel) (by decide +kernel) (by decide +kernel) (fun _ _ _ h => h) (Or.inl ⟨by rfl, ?_⟩) (by assumption) ?_
          rotate_left
          · (intro w hSw; (try dsimp only at hSw); go_simp <;> (try with_reducible rfl))
          (try simp only [Act.put, List.setIfInBounds_toArray, List.set_cons_zero, List.set_cons_succ])
          refine wpAnyH_take (i := 6) (oi := Oper.mk (some 21) _ _ _ _ _) (v := ?_) rfl (by decide +kernel) (by decide +kernel) (by decide +kernel) (fun _ _ _ h => h) (Or.inl ⟨by rfl, ?_⟩) (by assumption) ?_
          rotate_left
          · (intro w hSw; (try dsimp only at hSw); go_simp <;> (try with_reducible rfl))
          (try simp only [Act.put, List.setIfInBounds_toArray, List.set_cons_zero, List.set_cons_succ])
          refine wpAnyH_take (i := 7) (oi := Oper.mk (some 22) _ _ _ _ _) (v := ?_) rfl (by decide +kernel) (by decide +kernel) (by decide +kernel) (fun _ _ _ h => h) (Or.inl ⟨by rfl, ?_⟩) (by assumption) ?_
          rotate_left
          · (intro w hSw; (try dsimp only at hSw); go_simp <;> (try with_reducible rfl))
          (try simp only [Act.put, List.setIfInBounds_toArray, List.set_cons_zero, List.set_cons_succ])
          refine wpAnyH_take (i := 8) (oi := Oper.mk (some 23) _ _ _ _ _) (v := ?_) rfl (by decide +kernel) (by decide +kernel) (by decide +kernel) (fun _ _ _ h => h) (Or.inl ⟨by rfl, ?_⟩) (by assumption) ?_
          rotate_left
          · (intro w hSw; (try dsimp only at hSw); go_simp <;> (try with_reducible rfl))
          (try simp only [Act.put, List.setIfInBounds_toArray, List.set_cons_zero, List.set_cons_succ])
          refine wpAnyH_take (i := 9) (oi := Oper.mk (some 24) _ _ _ _ _) (v := ?_) rfl (by decide +kernel) (by decide +kernel) (by decide +kernel) (fun _ _ _ h => h) (Or.inl ⟨by rfl, ?_⟩) (by assumption) ?_
          rotate_left
          · (intro w hSw; (try dsimp only at hSw); go_simp <;> (try with_reducible rfl))
          (try simp only [Act.put, List.setIfInBounds_toArray, List.set_cons_zero, List.set_cons_succ])
          refine wpAnyH_ready (rs := [10]) (by decide +kernel) (by simp) ?_
          refine AllReadyH.cons (o := Oper.mk (some 25) _ _ _ _ _) rfl (fun K hK => ?_) AllReadyH.nil
          go_simp
          (go_at_call 24; refine (HCE.out _ (Below.refl _ _).drew).mono ?_; rintro e w4 ⟨rfl, hb4'⟩; have hb4 : Below wr.heap.size wr w4 := bnext (Below.refl _ _).drew hb4'; have HB4 : Hid (Below wr.heap.size wr w4 ∧ Below w.heap.size w w4) := ⟨hb4, bnext HS.out.1 hb4⟩; clear hb4 hb4')
          (try go_wp2_with fail)
          clear hHeld
          refine hK.out _ _ (by (try dsimp only); exact KS.out _ HB4.out.1) (fun hHeld => ?_)
          clear hK K
          (try simp only [Act.put, List.setIfInBounds_toArray, List.set_cons_zero, List.set_cons_succ])
          refine wpAnyH_take (i := 11) (oi := Oper.mk (some 6) _ _ _ _ _) (v := ?_) rfl (by decide +kernel) (by decide +kernel) (by decide +kernel) (fun _ _ _ h => h) (Or.inl ⟨by rfl, ?_⟩) (by assumption) ?_
          rotate_left
          · (intro w hSw; (try dsimp only at hSw); go_simp <;> (try with_reducible rfl))
          (try simp only [Act.put, List.setIfInBounds_toArray, List.set_cons_zero, List.set_cons_succ])
          refine wpAnyH_done (by decide +kernel) ?_ _
          refine NoPanic.normal ?_
          go_wp2
          refine wp_region_noPanic ?_
          refine wp_region_held_drew (S := fun w' => (w'.cell? ⟨b, off + k * 3 + 1, none⟩ = some (.bool n1) ∧ w'.cell? ⟨b, off + k * 3 + 2, none⟩ = some (.slice ao la ca) ∧ w'.cell? ⟨b', off' + k * 3 + 1, none⟩ = some (.bool n2) ∧ w'.cell? ⟨b', off' + k * 3 + 2, none⟩ = some (.slice ao' la' ca'))) (by kernel_rfl) (by (try dsimp only); exact KS6.out _ HB4.out.1.drew) (fun hHeld => ?_)
          refine wpAnyH_take (i := 0) (oi := Oper.mk (some 28) _ _ _ _ _) (v := ?_) rfl (by decide +kernel) (by decide +kernel) (by decide +kernel) (fun _ _ _ h => h) (Or.inl ⟨by rfl, ?_⟩) (by assumption) ?_
          rotate_left
          · (intro w hSw; (try dsimp only at hSw); go_simp <;> (try with_reducible rfl))
          (try simp only [Act.put, List.setIfInBounds_toArray, List.set_cons_zero, List.set_cons_succ])
          refine wpAnyH_take (i := 1) (oi := Oper.mk (some 29) _ _ _ _ _) (v := ?_) rfl (by decide +kernel) (by decide +kernel) (by decide +kernel) (fun _ _ _ h => h) (Or.inl ⟨by rfl, ?_⟩) (by assumption) ?_
          rotate_left
          · (intro w hSw; (try dsimp only at hSw); go_simp <;> (try with_reducible rfl))
          (try simp only [Act.put, List.setIfInBounds_toArray, List.set_cons_zero, List.set_cons_succ])
          refine wpAnyH_take (i := 2) (oi := Oper.mk (some 30) _ _ _ _ _) (v := ?_) rfl (by decide +kernel) (by decide +kernel) (by decide +kernel) (fun _ _ _ h => h) (Or.inl ⟨by rfl, ?_⟩) (by assumption) ?_
          rotate_left
          · (intro w hSw; (try dsimp only at hSw); go_simp <;> (try with_reducible rfl))
          (try simp only [Act.put, List.setIfInBounds_toArray, List.set_cons_zero, List.set_cons_succ])
          refine wpAnyH_take (i := 3) (oi := Oper.mk (some 31) _ _ _ _ _) (v := ?_) rfl (by decide +kernel) (by decide +kernel) (by decide +kernel) (fun _ _ _ h => h) (Or.inl ⟨by rfl, ?_⟩) (by assumption) ?_
          rotate_left
          · (intro w hSw; (try dsimp only at hSw); go_simp <;> (try with_reducible rfl))
          (try simp only [Act.put, List.setIfInBounds_toArray, List.set_cons_zero, List.set_cons_succ])
          refine wpAnyH_take (i := 4) (oi := Oper.mk (some 32) _ _ _ _ _) (v := ?_) rfl (by decide +kernel) (by decide +kernel) (by decide +kernel) (fun _ _ _ h => h) (Or.inl ⟨by rfl, ?_⟩) (by assumption) ?_
          rotate_left
          · (intro w hSw; (try dsimp only at hSw); go_simp <;> (try with_reducible rfl))
          (try simp only [Act.put, List.setIfInBounds_toArray, List.set_cons_zero, List.set_cons_succ])
          refine wpAnyH_take (i := 5) (oi := Oper.mk (some 33) _ _ _ _ _) (v := ?_) rfl (by decide +kernel) (by decide +kernel) (by decide +kernel) (fun _ _ _ h => h) (Or.inl ⟨by rfl, ?_⟩) (by assumption) ?_
          rotate_left
          · (intro w hSw; (try dsimp only at hSw); go_simp <;> (try with_reducible rfl))
          (try simp only [Act.put, List.setIfInBounds_toArray, List.set_cons_zero, List.set_cons_succ])
          refine wpAnyH_take (i := 6) (oi := Oper.mk (some 34) _ _ _ _ _) (v := ?_) rfl (by decide +kernel) (by decide +kernel) (by decide +kernel) (fun _ _ _ h => h) (Or.inl ⟨by rfl, ?_⟩) (by assumption) ?_
          rotate_left
          · (intro w hSw; (try dsimp only at hSw); go_simp <;> (try with_reducible rfl))
          (try simp only [Act.put, List.setIfInBounds_toArray, List.set_cons_zero, List.set_cons_succ])
          refine wpAnyH_take (i := 7) (oi := Oper.mk (some 35) _ _ _ _ _) (v := ?_) rfl (by decide +kernel) (by decide +kernel) (by decide +kernel) (fun _ _ _ h => h) (Or.inl ⟨by rfl, ?_⟩) (by assumption) ?_
          rotate_left
          · (intro w hSw; (try dsimp only at hSw); go_simp <;> (try with_reducible rfl))
          (try simp only [Act.put, List.setIfInBounds_toArray, List.set_cons_zero, List.set_cons_succ])
          refine wpAnyH_take (i := 8) (oi := Oper.mk (some 36) _ _ _ _ _) (v := ?_) rfl (by decide +kernel) (by decide +kernel) (by decide +kernel) (fun _ _ _ h => h) (Or.inl ⟨by rfl, ?_⟩) (by assumption) ?_
          rotate_left
          · (intro w hSw; (try dsimp only at hSw); go_simp <;> (try with_reducible rfl))
          (try simp only [Act.put, List.setIfInBounds_toArray, List.set_cons_zero, List.set_cons_succ])
          refine wpAnyH_take (i := 9) (oi := Oper.mk (some 37) _ _ _ _ _) (v := ?_) rfl (by decide +kernel) (by decide +kernel) (by decide +kernel) (fun _ _ _ h => h) (Or.inl ⟨by rfl, ?_⟩) (by assumption) ?_
          rotate_left
          · (intro w hSw; (try dsimp only at hSw); go_simp <;> (try with_reducible rfl))
          (try simp only [Act.put, List.setIfInBounds_toArray, List.set_cons_zero, List.set_cons_succ])
          refine wpAnyH_ready (rs := [10]) (by decide +kernel) (by simp) ?_
          refine AllReadyH.cons (o := Oper.mk (some 38) _ _ _ _ _) rfl (fun K hK => ?_) AllReadyH.nil
          go_simp
          (go_at_call 25; refine (HCB.out _ HB4.out.1.drew).mono ?_; rintro e w6 ⟨rfl, hb6'⟩; have hb6 : Below wr.heap.size wr w6 := bnext HB4.out.1.drew hb6'; have HB6 : Hid (Below wr.heap.size wr w6 ∧ Below w.heap.size w w6) := ⟨hb6, bnext HS.out.1 hb6⟩; clear hb6 hb6')
          (try go_wp2_with fail)
          clear hHeld
          refine hK.out _ _ (by (try dsimp only); exact KS6.out _ HB6.out.1) (fun hHeld => ?_)
          clear hK K
          (try simp only [Act.put, List.setIfInBounds_toArray, List.set_cons_zero, List.set_cons_succ])
          refine wpAnyH_take (i := 11) (oi := Oper.mk (some 6) _ _ _ _ _) (v := ?_) rfl (by decide +kernel) (by decide +kernel) (by decide +kernel) (fun _ _ _ h => h) (Or.inl ⟨by rfl, ?_⟩) (by assumption) ?_
          rotate_left
          · (intro w hSw; (try dsimp only at hSw); go_simp <;> (try with_reducible rfl))
          (try simp only [Act.put, List.setIfInBounds_toArray, List.set_cons_zero, List.set_cons_succ])
          refine wpAnyH_done (by decide +kernel) ?_ _
          refine NoPanic.normal ?_
          go_wp2
          go_ret
          exact ⟨ret_int HE.out, HB6.out.2⟩
      · have e1' : (c1 == 0) = false := by simpa using e1
        have e1'' : (c1 != 0) = true := by simpa using e1
        have HE : Hid (c1 = c) := by
          show _ = _
          rw [← HP.out.2.2.2.2, polyC_at (k := k) (by rw [HT.out.1]; exact HT.out.2.2.1) (by rw [HT.out.2.1]; exact HT.out.2.2.2.1) HS.out.2 (by rw [HT.out.2.2.2.2, if_neg e1]; exact e1), HT.out.2.2.2.2, if_neg e1]
        clear e1
        go_wp2
        refine wp_region_noPanic ?_
        refine wp_region_held_drew (S := fun w' => (w'.cell? ⟨b, off + k * 3, none⟩ = some (.slice eo el ec) ∧ w'.cell? ⟨b', off' + k * 3, none⟩ = some (.slice eo' el' ec'))) (by kernel_rfl) (by (try dsimp only); exact KS.out _ (Below.refl _ _).drew) (fun hHeld => ?_)
        refine wpAnyH_take (i := 0) (oi := Oper.mk (some 15) _ _ _ _ _) (v := ?_) rfl (by decide +kernel) (by decide +kernel) (by decide +kernel) (fun _ _ _ h => h) (Or.inl ⟨by rfl, ?_⟩) (by assumption) ?_
        rotate_left
        · (intro w hSw; (try dsimp only at hSw); go_simp <;> (try with_reducible rfl))
        (try simp only [Act.put, List.setIfInBounds_toArray, List.set_cons_zero, List.set_cons_succ])
        refine wpAnyH_take (i := 1) (oi := Oper.mk (some 16) _ _ _ _ _) (v := ?_) rfl (by decide +kernel) (by decide +kernel) (by decide +kernel) (fun _ _ _ h => h) (Or.inl ⟨by rfl, ?_⟩) (by assumption) ?_
        rotate_left
        · (intro w hSw; (try dsimp only at hSw); go_simp <;> (try with_reducible rfl))
        (try simp only [Act.put, List.setIfInBounds_toArray, List.set_cons_zero, List.set_cons_succ])
        refine wpAnyH_take (i := 2) (oi := Oper.mk (some 17) _ _ _ _ _) (v := ?_) rfl (by decide +kernel) (by decide +kernel) (by decide +kernel) (fun _ _ _ h => h) (Or.inl ⟨by rfl, ?_⟩) (by assumption) ?_
        rotate_left
        · (intro w hSw; (try dsimp only at hSw); go_simp <;> (try with_reducible rfl))
        (try simp only [Act.put, List.setIfInBounds_toArray, List.set_cons_zero, List.set_cons_succ])
        refine wpAnyH_take (i := 3) (oi := Oper.mk (some 18) _ _ _ _ _) (v := ?_) rfl (by decide +kernel) (by decide +kernel) (by decide +kernel) (fun _ _ _ h => h) (Or.inl ⟨by rfl, ?_⟩) (by assumption) ?_
        rotate_left
        · (intro w hSw; (try dsimp only at hSw); go_simp <;> (try with_reducible rfl))
        (try simp only [Act.put, List.setIfInBounds_toArray, List.set_cons_zero, List.set_cons_succ])
        refine wpAnyH_take (i := 4) (oi := Oper.mk (some 19) _ _ _ _ _) (v := ?_) rfl (by decide +kernel) (by decide +kernel) (by decide +kernel) (fun _ _ _ h => h) (Or.inl ⟨by rfl, ?_⟩) (by assumption) ?_
        rotate_left
        · (intro w hSw; (try dsimp only at hSw); go_simp <;> (try with_reducible rfl))
        (try simp only [Act.put, List.setIfInBounds_toArray, List.set_cons_zero, List.set_cons_succ])
        refine wpAnyH_take (i := 5) (oi := Oper.mk (some 20) _ _ _ _ _) (v := ?_) rfl (by decide +kernel) (by decide +kernel) (by decide +kernel) (fun _ _ _ h => h) (Or.inl ⟨by rfl, ?_⟩) (by assumption) ?_
        rotate_left
        · (intro w hSw; (try dsimp only at hSw); go_simp <;> (try with_reducible rfl))
        (try simp only [Act.put, List.setIfInBounds_toArray, List.set_cons_zero, List.set_cons_succ])
        refine wpAnyH_take (i := 6) (oi := Oper.mk (some 21) _ _ _ _ _) (v := ?_) rfl (by decide +kernel) (by decide +kernel) (by decide +kernel) (fun _ _ _ h => h) (Or.inl ⟨by rfl, ?_⟩) (by assumption) ?_
        rotate_left
        · (intro w hSw; (try dsimp only at hSw); go_simp <;> (try with_reducible rfl))
        (try simp only [Act.put, List.setIfInBounds_toArray, List.set_cons_zero, List.set_cons_succ])
        refine wpAnyH_take (i := 7) (oi := Oper.mk (some 22) _ _ _ _ _) (v := ?_) rfl (by decide +kernel) (by decide +kernel) (by decide +kernel) (fun _ _ _ h => h) (Or.inl ⟨by rfl, ?_⟩) (by assumption) ?_
        rotate_left
        · (intro w hSw; (try dsimp only at hSw); go_simp <;> (try with_reducible rfl))
        (try simp only [Act.put, List.setIfInBounds_toArray, List.set_cons_zero, List.set_cons_succ])
        refine wpAnyH_take (i := 8) (oi := Oper.mk (some 23) _ _ _ _ _) (v := ?_) rfl (by decide +kernel) (by decide +kernel) (by decide +kernel) (fun _ _ _ h => h) (Or.inl ⟨by rfl, ?_⟩) (by assumption) ?_
        rotate_left
        · (intro w hSw; (try dsimp only at hSw); go_simp <;> (try with_reducible rfl))
        (try simp only [Act.put, List.setIfInBounds_toArray, List.set_cons_zero, List.set_cons_succ])
        refine wpAnyH_take (i := 9) (oi := Oper.mk (some 24) _ _ _ _ _) (v := ?_) rfl (by decide +kernel) (by decide +kernel) (by decide +kernel) (fun _ _ _ h => h) (Or.inl ⟨by rfl, ?_⟩) (by assumption) ?_
        rotate_left
        · (intro w hSw; (try dsimp only at hSw); go_simp <;> (try with_reducible rfl))
        (try simp only [Act.put, List.setIfInBounds_toArray, List.set_cons_zero, List.set_cons_succ])
        refine wpAnyH_ready (rs := [10]) (by decide +kernel) (by simp) ?_
        refine AllReadyH.cons (o := Oper.mk (some 25) _ _ _ _ _) rfl (fun K hK => ?_) AllReadyH.nil
        go_simp
        (go_at_call 24; refine (HCE.out _ (Below.refl _ _).drew).mono ?_; rintro e w4 ⟨rfl, hb4'⟩; have hb4 : Below wr.heap.size wr w4 := bnext (Below.refl _ _).drew hb4'; have HB4 : Hid (Below wr.heap.size wr w4 ∧ Below w.heap.size w w4) := ⟨hb4, bnext HS.out.1 hb4⟩; clear hb4 hb4')
        (try go_wp2_with fail)
        clear hHeld
        refine hK.out _ _ (by (try dsimp only); exact KS.out _ HB4.out.1) (fun hHeld => ?_)
        clear hK K
        (try simp only [Act.put, List.setIfInBounds_toArray, List.set_cons_zero, List.set_cons_succ])
        refine wpAnyH_take (i := 11) (oi := Oper.mk (some 6) _ _ _ _ _) (v := ?_) rfl (by decide +kernel) (by decide +kernel) (by decide +kernel) (fun _ _ _ h => h) (Or.inl ⟨by rfl, ?_⟩) (by assumption) ?_
        rotate_left
        · (intro w hSw; (try dsimp only at hSw); go_simp <;> (try with_reducible rfl))
        (try simp only [Act.put, List.setIfInBounds_toArray, List.set_cons_zero, List.set_cons_succ])
        refine wpAnyH_done (by decide +kernel) ?_ _
        refine NoPanic.normal ?_
        go_wp2
        go_ret
        exact ⟨ret_int HE.out, HB4.out.2⟩
    · have HE : Hid (cmpI (pl : Int) (ql : Int) = c) := by
        show _ = _
        have h1 := HN.out
        rw [← HP.out.2.2.2.2, polyC_end (k := k) (by simp; have := HM.out; omega) HS.out.2]
        simp only [List.length_map]
        rw [h1.1, h1.2]
      have hcc := cmpInt_any (pl : Int) (ql : Int)
      have z1 : ¬ (k : Int) < (m : Int) := by omega
      go_wp2_with (go_at_call 26; refine (hcc _).mono ?_; rintro e w4 ⟨rfl, hw4⟩; replace hw4 := hw4.symm; subst hw4)
      go_ret
      exact ⟨ret_int HE.out, HS.out.1⟩
end Go.Proofs.YtiemgadnnnhmkaaGreat
