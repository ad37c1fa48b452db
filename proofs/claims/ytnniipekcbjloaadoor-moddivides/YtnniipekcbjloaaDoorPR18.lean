/-
  PI: ModDivides' walk.
-/
import Derived.Test.YtnniipekcbjloaaDoorPR17
namespace Go.Proofs.YtnniipekcbjloaaDoor
open Go.RowKit Go.Shelf
set_option linter.unusedVariables false
set_option linter.unusedSimpArgs false
set_option maxRecDepth 100000 in
set_option maxHeartbeats 8000000 in
theorem modDivides_any (lo : Option Addr) (len cap : Nat) (w : World) (hE : Items11 w lo len) (hl : len ≤ 9223372036854775807) (hT : TabAt 0 Lib.deBruijn64tab w) :
    Calls Tryd.prog 4 #[.slice lo len cap] w fun e w' => e = .returned (.bool true) ∧ Below w.heap.size w w' := by
  have HE : Hid (Items11 w lo len ∧ TabAt 0 Lib.deBruijn64tab w) := ⟨hE, hT⟩
  clear hE hT
  go_enter Tryd.func4, Tryd.ntmps4
  go_wp2
  go_loopw [3] (fun i wr => ∃ k : Nat, k ≤ len ∧ i = .int .i64 (k : Int) ∧ Below w.heap.size w wr) (fun i _ => len - (intOf i).toNat)
  case atStart => exact ⟨0, Nat.zero_le _, rfl, Below.refl _ _⟩
  case round =>
    obtain ⟨k, hk, rfl, hbe⟩ := hrel
    have HB : Hid (Below w.heap.size w wr) := hbe
    clear hbe
    have hwk : ∀ W, Below w.heap.size w W → Calls Tryd.prog 27 #[] W fun e w' => e = .returned (.bool true) ∧ Below W.heap.size W w' := fun W hb => mwakes_any W (mtab_later HE.out.2 hb)
    by_cases hlt : k < len ∧ k < 20
    · obtain ⟨hk1, hk2⟩ := hlt
      obtain ⟨b, off, rfl, _, ao, bo, co, la, ca, lb, cb, lc, cc, N, P, po, pl, pc, x, y, z, ls, hcs, hx, hy, hz, hN, hP, hpl⟩ := (HE.out.1.later HB.out) k hk1
      have z1 : (k : Int) < (len : Int) := by omega
      have z2 : (k : Int) < 20 := by omega
      have z3 : (0 : Int) ≤ (k : Int) := by omega
      have c0 : wr.cell? ⟨b, off + k * 6, none⟩ = some (.slice ao la ca) := hcs 0 _ rfl
      have c1 : wr.cell? ⟨b, off + k * 6 + 1, none⟩ = some (.slice bo lb cb) := hcs 1 _ rfl
      have c2 : wr.cell? ⟨b, off + k * 6 + 2, none⟩ = some (.slice co lc cc) := hcs 2 _ rfl
      have c3 : wr.cell? ⟨b, off + k * 6 + 3, none⟩ = some (.int .u64 N) := hcs 3 _ rfl
      have c4 : wr.cell? ⟨b, off + k * 6 + 4, none⟩ = some (.int .u64 P) := hcs 4 _ rfl
      have c5 : wr.cell? ⟨b, off + k * 6 + 5, none⟩ = some (.slice po pl pc) := hcs 5 _ rfl
      clear hcs
      obtain ⟨W, hW⟩ : ∃ W, W = wr.alloc (.cells #[.slice ao la ca, .slice bo lb cb, .slice co lc cc, .int .u64 N, .int .u64 P, .slice po pl pc] 29) := ⟨_, rfl⟩
      have HW : Hid (Below wr.heap.size wr W ∧ Below w.heap.size w W) := by
        have h1 : Below wr.heap.size wr W := by rw [hW]; exact (Below.refl _ _).alloc (Nat.le_refl _) _
        exact ⟨h1, bnextM (B := 0) HB.out h1⟩
      have KC : Hid (∀ w', Below W.heap.size W w' → w'.cell? ⟨wr.heap.size, 0, none⟩ = some (.slice ao la ca) ∧ w'.cell? ⟨wr.heap.size, 1, none⟩ = some (.slice bo lb cb) ∧ w'.cell? ⟨wr.heap.size, 2, none⟩ = some (.slice co lc cc) ∧ w'.cell? ⟨wr.heap.size, 3, none⟩ = some (.int .u64 N) ∧ w'.cell? ⟨wr.heap.size, 4, none⟩ = some (.int .u64 P) ∧ w'.cell? ⟨wr.heap.size, 5, none⟩ = some (.slice po pl pc)) := fun w' h => by
        rw [hW] at h
        exact sixcells (newcells wr wr.heap.size _ _ rfl w' h)
      have HX : Hid (RawF W ao la ca x ∧ RawF W bo lb cb y ∧ (0 ≤ N ∧ N < 18446744073709551616) ∧ (0 ≤ P ∧ P < 18446744073709551616) ∧ TabAt 0 Lib.deBruijn64tab W) :=
        ⟨⟨hx.1.later HW.out.1, hx.2⟩, ⟨hy.1.later HW.out.1, hy.2⟩, hN, hP, mtab_later HE.out.2 HW.out.2⟩
      obtain ⟨hv1, hh1⟩ : ∃ hv1, hvI la lb lc pl ls = hv1 := ⟨_, rfl⟩
      have hcH := mheavy_any hv1 ao bo co la ca lb cb lc cc N P po pl pc ls W (hpl.later HW.out.1) hh1
      clear hx hy hz hN hP hpl
      cases hv1
      · have HL : Hid (la ≤ 12 ∧ lb ≤ 12) := by
          simp only [hvI, Bool.or_eq_false_iff, decide_eq_false_iff_not] at hh1
          exact ⟨by omega, by omega⟩
        clear hh1
        obtain ⟨n1, hn1⟩ : ∃ n1 : Nat, N = (n1 : Int) := ⟨N.toNat, by have := HX.out.2.2.1; omega⟩
        subst hn1
        have HNN : Hid (n1 < 18446744073709551616) := by have := HX.out.2.2.1.2; show _ < _; omega
        have HRW : Hid (∀ w1, Below W.heap.size W w1 → RowsAt (w1.alloc (.cells #[.slice ao la ca, .slice bo lb cb] 24)) w1.heap.size 2 (fun t => if t = 0 then ao else bo) (fun t => if t = 0 then la else lb) (fun t => if t = 0 then ca else cb) (fun t => if t = 0 then x else y)) := fun w1 hb => rows2 ⟨HX.out.1.1.later hb, HX.out.1.2⟩ ⟨HX.out.2.1.1.later hb, HX.out.2.1.2⟩ _
        have HIFF : Hid (FormOk P 2 (fun t => if t = 0 then la else lb) (fun t => if t = 0 then x else y) ↔ (okF P la x ∧ okF P lb y)) := by
          constructor
          · intro h
            have h0 := h.2 0 (by decide)
            have h1 := h.2 1 (by decide)
            simp only [if_true, if_neg (show ¬ (1 : Nat) = 0 by decide)] at h0 h1
            exact ⟨⟨h.1, h0⟩, ⟨h.1, h1⟩⟩
          · intro h
            refine ⟨h.1.1, fun t ht => ?_⟩
            rcases (by omega : t = 0 ∨ t = 1) with rfl | rfl
            · exact h.1.2
            · exact h.2.2
        have HRAW : Hid (∀ w', Below W.heap.size W w' → RawF w' ao la ca x ∧ RawF w' bo lb cb y ∧ TabAt 0 Lib.deBruijn64tab w') := fun w' hb => ⟨HX.out.1.later hb, HX.out.2.1.later hb, mtab_later HX.out.2.2.2.2 hb⟩
        by_cases hok : okF P la x ∧ okF P lb y
        · have HOK : Hid (okF P la x ∧ okF P lb y) := hok
          have HF : Hid (∀ w1, Below W.heap.size W w1 → Calls Tryd.prog 7 #[.int .u64 P, .slice (some ⟨w1.heap.size, 0, none⟩) 2 2] (w1.alloc (.cells #[.slice ao la ca, .slice bo lb cb] 24)) fun e w' => e = .returned (.int .i64 0) ∧ Below W.heap.size W w') := fun w1 hb =>
            (form_ok P w1.heap.size 2 _ _ _ _ _ HX.out.2.2.2.1 (HRW.out w1 hb) (by decide) (HIFF.out.2 HOK.out)).mono fun e w' h => ⟨h.1, by rw [h.2]; exact hb.alloc hb.size _⟩
          have HGD : Hid (∀ w', Below W.heap.size W w' → Good2 P w' ao bo la ca lb cb x y) := fun w' hb =>
            ⟨⟨HOK.out.1.1.1, HOK.out.1.1.2, (HRAW.out w' hb).2.2⟩, (HRAW.out w' hb).1.good HOK.out.1, (HRAW.out w' hb).2.1.good HOK.out.2⟩
          have HPP : Hid (IsPr P ∧ P ≤ 2147483648) := ⟨HOK.out.1.1.1, by have := HOK.out.1.1.2; omega⟩
          have HRG : Hid (∀ w', Below W.heap.size W w' → Calls Tryd.prog 28 #[.slice ao la ca, .slice bo lb cb, .int .u64 P] w' fun e v' => PageF P w' v' e fun zs => IsGcd P x y zs) := fun w' hb =>
            rgcdF_any P ao bo la ca lb cb x y w' HPP.out.1 HPP.out.2 (HGD.out w' hb).2.1.1 (HGD.out w' hb).2.2.1 HOK.out.1.2.1 HOK.out.2.2.1
          have HMG : Hid (∀ w' gz, Below W.heap.size W w' → IsGcd P x y gz → Calls Tryd.prog 32 #[.slice ao la ca, .slice bo lb cb, .int .u64 P] w' fun e v' => OwnF w' v' e gz) := fun w' gz hb hz => lawGcd P ao bo la ca lb cb x y gz w' (HGD.out w' hb) hz
          clear hok
          by_cases hlb : lb = 0
          · subst hlb
            have HDC : Hid (divC P la 0 x y 91) := ⟨fun _ => ⟨rfl, rfl⟩, fun h => absurd HOK.out h⟩
            have HD0 : Hid (∀ w', Below W.heap.size W w' → Calls Tryd.prog 31 #[.slice ao la ca, .slice bo 0 cb, .int .u64 P] w' fun e v' => e = .returned (.tuple #[.slice none 0 0, .slice none 0 0, .int .i64 91]) ∧ Below w'.heap.size w' v') := fun w' hb => mDivMod_no P 91 ao bo la ca 0 cb x y w' HX.out.2.2.2.1 (HRAW.out w' hb).2.2 (HRAW.out w' hb).1 (HRAW.out w' hb).2.1 HDC.out
            have HP0 : Hid (∀ w', Below W.heap.size W w' → Calls Tryd.prog 33 #[.slice ao la ca, .int .u64 (n1 : Int), .slice bo 0 cb, .int .u64 P] w' fun e v' => e = .returned (.tuple #[.slice none 0 0, .int .i64 91]) ∧ Below w'.heap.size w' v') := fun w' hb => mPow_no P 91 n1 ao bo la ca 0 cb x y w' HX.out.2.2.2.1 (HRAW.out w' hb).2.2 (HRAW.out w' hb).1 (HRAW.out w' hb).2.1 HDC.out
            go_wp2_with (first
              | (go_at_call 20; have _t := H9; refine (mis_bad 91 _ _ _ _ (by decide)).mono ?_; rintro e vj ⟨rfl, hvj⟩; replace hvj := hvj.symm; subst hvj)
              | (go_at_call 33; have _t := H6; refine (HP0.out _ H6.out).mono ?_; rintro e w9 ⟨rfl, hb9⟩; have H9 : Hid (Below W.heap.size W w9) := bnextM (B := 0) H6.out hb9; clear hb9)
              | (go_at_call 20; have _t := H5; refine (mis_ok w4.heap.size o5 go l5 k5 gl gc gz w5 H5.out.1 H5.out.2.2.2.size H5.out.2.1 H5.out.2.2.1.row).mono ?_; rintro e w6 ⟨rfl, hb6, _⟩; have H6 : Hid (Below W.heap.size W w6) := bnextM (B := 0) H4.out.2 (H5.out.2.2.2.trans hb6); clear hb6; obtain ⟨pe0, pe1, pe2, pe3, pe4, pe5⟩ := KC.out _ H6.out)
              | (go_at_call 32; have _t := H4; refine (HMG.out _ gz H4.out.2 H3.out.2.1).mono ?_; rintro e w5 ⟨⟨o5, l5, k5, rfl, ho5, hl5⟩, hb5⟩; have H5 : Hid (Own w4.heap.size w5 .u64 25 o5 l5 k5 gz ∧ l5 ≤ 4194304 ∧ FRow P w5 go gl gc gz ∧ Below w4.heap.size w4 w5) := ⟨ho5, hl5, H4.out.1.later hb5, hb5⟩; clear ho5 hl5 hb5)
              | (go_at_call 20; refine (mis_bad 91 _ _ _ _ (by decide)).mono ?_; rintro e vi ⟨rfl, hvi⟩; replace hvi := hvi.symm; subst hvi)
              | (go_at_call 31; have _t := H3; refine (HD0.out _ H3.out.2.2).mono ?_; rintro e w4 ⟨rfl, hb4⟩; obtain ⟨pd0, pd1, pd2, pd3, pd4, pd5⟩ := KC.out _ (bnextM (B := 0) H3.out.2.2 hb4); have H4 : Hid (FRow P w4 go gl gc gz ∧ Below W.heap.size W w4) := ⟨H3.out.1.later hb4, bnextM (B := 0) H3.out.2.2 hb4⟩; clear hb4)
              | (go_at_call 28; refine (HRG.out _ H2.out).mono ?_; rintro e w3 ⟨go, gl, gc, gz, rfl, hgr, hgz, hgb⟩; obtain ⟨pc0, pc1, pc2, pc3, pc4, pc5⟩ := KC.out _ (bnextM (B := 0) H2.out hgb); have H3 : Hid (FRow P w3 go gl gc gz ∧ IsGcd P x y gz ∧ Below W.heap.size W w3) := ⟨hgr, hgz, bnextM (B := 0) H2.out hgb⟩; clear hgr hgz hgb)
              | (go_at_call 7; refine (HF.out _ H1.out).mono ?_; rintro e w2 ⟨rfl, hb2⟩; obtain ⟨pb0, pb1, pb2, pb3, pb4, pb5⟩ := KC.out _ hb2; have H2 : Hid (Below W.heap.size W w2) := hb2; clear hb2)
              | (go_at_call 5; rw [← hW]; refine hcH.mono ?_; rintro e w1 ⟨rfl, hb1⟩; obtain ⟨pa0, pa1, pa2, pa3, pa4, pa5⟩ := KC.out _ hb1; have H1 : Hid (Below W.heap.size W w1) := hb1; clear hb1))
            go_roundw
            case rel => exact ⟨k + 1, by omega, by go_num, bnextM (B := 0) HW.out.2 H9.out⟩
            case measure => simp [intOf]; omega
          · have hlb' : ((lb : Int) == 0) = false := by simp; omega
            have HLB : Hid (0 < lb ∧ lb ≤ 100000) := ⟨by omega, by have := HL.out; omega⟩
            have HRD : Hid (∀ w', Below W.heap.size W w' → Calls Tryd.prog 29 #[.slice ao la ca, .slice bo lb cb, .int .u64 P] w' fun e v' => PageD P w' v' e x y) := fun w' hb =>
              rdivmod_any P ao bo la ca lb cb x y w' HPP.out.1 HPP.out.2 (HGD.out w' hb).2.1.1 (HGD.out w' hb).2.2.1 HOK.out.1.2.1 HOK.out.2.2.1 HLB.out.1
            have HRP : Hid (∀ w', Below W.heap.size W w' → Calls Tryd.prog 30 #[.slice ao la ca, .int .u64 (n1 : Int), .slice bo lb cb, .int .u64 P] w' fun e v' => PageF P w' v' e fun r => IsPowF P n1 x y r) := fun w' hb =>
              rpowF_any P n1 ao bo la ca lb cb x y w' HPP.out.1 HPP.out.2 (HGD.out w' hb).2.1.1 (HGD.out w' hb).2.2.1 HOK.out.1.2.1 HOK.out.2.2.1 HLB.out.1 HLB.out.2 HNN.out
            have HMD : Hid (∀ w' q r, Below W.heap.size W w' → IsDiv P x y q r → Calls Tryd.prog 31 #[.slice ao la ca, .slice bo lb cb, .int .u64 P] w' fun e v' => OwnD w' v' e q r) := fun w' q r hb hz => lawDiv P ao bo la ca lb cb x y q r w' (HGD.out w' hb) HLB.out.1 hz
            have HMP : Hid (∀ w' r, Below W.heap.size W w' → IsPowF P n1 x y r → Calls Tryd.prog 33 #[.slice ao la ca, .int .u64 (n1 : Int), .slice bo lb cb, .int .u64 P] w' fun e v' => OwnF w' v' e r) := fun w' r hb hz => lawPow P n1 ao bo la ca lb cb x y r w' (HGD.out w' hb) HLB.out.1 HNN.out hz
            clear hlb
            go_wp2_with (first
              | (go_at_call 20; have _t := H11; refine (mis_ok w10.heap.size o11 so l11 k11 sl sc s w11 H11.out.1 H11.out.2.2.1.size H11.out.2.1 (H5.out w11 H11.out.2.2.2).2.2.2.row).mono ?_; rintro e w12 ⟨rfl, hb12, _⟩; have H12 : Hid (Below W.heap.size W w12) := bnextM (B := 0) H10.out.2 (H11.out.2.2.1.trans hb12); clear hb12)
              | (go_at_call 33; have _t := H10; refine (HMP.out _ s H10.out.2 HS5.out.1).mono ?_; rintro e w11 ⟨⟨o11, l11, k11, rfl, ho11, hl11⟩, hb11⟩; have H11 : Hid (Own w10.heap.size w11 .u64 25 o11 l11 k11 s ∧ l11 ≤ 4194304 ∧ Below w10.heap.size w10 w11 ∧ Below w5.heap.size w5 w11) := ⟨ho11, hl11, hb11, bnextM (B := 0) H10.out.1 hb11⟩; clear ho11 hl11 hb11)
              | (go_at_call 20; have _t := H9; refine (mis_ok w8.heap.size o9 go l9 k9 gl gc gz w9 H9.out.1 H9.out.2.2.1.size H9.out.2.1 (H5.out w9 H9.out.2.2.2).1.row).mono ?_; rintro e w10 ⟨rfl, hb10, _⟩; have H10 : Hid (Below w5.heap.size w5 w10 ∧ Below W.heap.size W w10) := ⟨bnextM (B := 0) H8.out.1 (H9.out.2.2.1.trans hb10), bnextM (B := 0) H8.out.2 (H9.out.2.2.1.trans hb10)⟩; clear hb10; obtain ⟨ph0, ph1, ph2, ph3, ph4, ph5⟩ := KC.out _ H10.out.2)
              | (go_at_call 32; have _t := H8; refine (HMG.out _ gz H8.out.2 H3.out.2.1).mono ?_; rintro e w9 ⟨⟨o9, l9, k9, rfl, ho9, hl9⟩, hb9⟩; have H9 : Hid (Own w8.heap.size w9 .u64 25 o9 l9 k9 gz ∧ l9 ≤ 4194304 ∧ Below w8.heap.size w8 w9 ∧ Below w5.heap.size w5 w9) := ⟨ho9, hl9, hb9, bnextM (B := 0) H8.out.1 hb9⟩; clear ho9 hl9 hb9)
              | (go_at_call 20; have _t := H7; refine (mis_ok w5.heap.size ro6 ro rl6 rc6 rl rc r w7 H7.out.1 H7.out.2.size H6.out.2.2.2.1 (H5.out w7 H7.out.2).2.2.1.row).mono ?_; rintro e w8 ⟨rfl, hb8, _⟩; have H8 : Hid (Below w5.heap.size w5 w8 ∧ Below W.heap.size W w8) := ⟨H7.out.2.trans hb8, bnextM (B := 0) HS5.out.2 (H7.out.2.trans hb8)⟩; clear hb8; obtain ⟨pg0, pg1, pg2, pg3, pg4, pg5⟩ := KC.out _ H8.out.2)
              | (go_at_call 20; have _t := H6; refine (mis_ok w5.heap.size qo6 qo ql6 qc6 ql qc q w6 H6.out.1 H6.out.2.2.2.2.2.size H6.out.2.2.1 (H5.out w6 H6.out.2.2.2.2.2).2.1.row).mono ?_; rintro e w7 ⟨rfl, hb7, hs7⟩; have H7 : Hid (Own w5.heap.size w7 .u64 25 ro6 rl6 rc6 r ∧ Below w5.heap.size w5 w7) := ⟨H6.out.2.1.stayM hs7 H6.out.2.2.2.2.1, H6.out.2.2.2.2.2.trans hb7⟩; clear hb7 hs7)
              | (go_at_call 31; have _t := HS5; refine (HMD.out _ q r HS5.out.2 H4.out.2.2.2.1).mono ?_; rintro e w6 ⟨⟨qo6, ql6, qc6, ro6, rl6, rc6, rfl, hq6, hr6, hl6, hl7, hap⟩, hb6⟩; have H6 : Hid (Own w5.heap.size w6 .u64 25 qo6 ql6 qc6 q ∧ Own w5.heap.size w6 .u64 25 ro6 rl6 rc6 r ∧ ql6 ≤ 4194304 ∧ rl6 ≤ 4194304 ∧ (∀ a b : Addr, qo6 = some a → ro6 = some b → a.block ≠ b.block) ∧ Below w5.heap.size w5 w6) := ⟨hq6, hr6, hl6, hl7, hap, hb6⟩; clear hq6 hr6 hl6 hl7 hap hb6)
              | (go_at_call 30; have _t := H4; refine (HRP.out _ H4.out.2.2.2.2).mono ?_; rintro e w5 ⟨so, sl, sc, s, rfl, hs, hsp, hb5⟩; obtain ⟨pe0, pe1, pe2, pe3, pe4, pe5⟩ := KC.out _ (bnextM (B := 0) H4.out.2.2.2.2 hb5); have H5 : Hid (∀ v, Below w5.heap.size w5 v → FRow P v go gl gc gz ∧ FRow P v qo ql qc q ∧ FRow P v ro rl rc r ∧ FRow P v so sl sc s) := fun v hv => ⟨(H4.out.1.later hb5).later hv, (H4.out.2.1.later hb5).later hv, (H4.out.2.2.1.later hb5).later hv, hs.later hv⟩; have HS5 : Hid (IsPowF P n1 x y s ∧ Below W.heap.size W w5) := ⟨hsp, bnextM (B := 0) H4.out.2.2.2.2 hb5⟩; clear hs hsp hb5)
              | (go_at_call 29; have _t := H3; refine (HRD.out _ H3.out.2.2).mono ?_; rintro e w4 ⟨qo, ql, qc, ro, rl, rc, q, r, rfl, hq, hr, e1, e2, e3, e4, hb4⟩; obtain ⟨pd0, pd1, pd2, pd3, pd4, pd5⟩ := KC.out _ (bnextM (B := 0) H3.out.2.2 hb4); have H4 : Hid (FRow P w4 go gl gc gz ∧ FRow P w4 qo ql qc q ∧ FRow P w4 ro rl rc r ∧ IsDiv P x y q r ∧ Below W.heap.size W w4) := ⟨H3.out.1.later hb4, hq, hr, ⟨e1, e2, e3, e4⟩, bnextM (B := 0) H3.out.2.2 hb4⟩; clear hq hr e1 e2 e3 e4 hb4)
              | (go_at_call 28; refine (HRG.out _ H2.out).mono ?_; rintro e w3 ⟨go, gl, gc, gz, rfl, hgr, hgz, hgb⟩; obtain ⟨pc0, pc1, pc2, pc3, pc4, pc5⟩ := KC.out _ (bnextM (B := 0) H2.out hgb); have H3 : Hid (FRow P w3 go gl gc gz ∧ IsGcd P x y gz ∧ Below W.heap.size W w3) := ⟨hgr, hgz, bnextM (B := 0) H2.out hgb⟩; clear hgr hgz hgb)
              | (go_at_call 7; refine (HF.out _ H1.out).mono ?_; rintro e w2 ⟨rfl, hb2⟩; obtain ⟨pb0, pb1, pb2, pb3, pb4, pb5⟩ := KC.out _ hb2; have H2 : Hid (Below W.heap.size W w2) := hb2; clear hb2)
              | (go_at_call 5; rw [← hW]; refine hcH.mono ?_; rintro e w1 ⟨rfl, hb1⟩; obtain ⟨pa0, pa1, pa2, pa3, pa4, pa5⟩ := KC.out _ hb1; have H1 : Hid (Below W.heap.size W w1) := hb1; clear hb1))
            go_roundw
            case rel => exact ⟨k + 1, by omega, by go_num, bnextM (B := 0) HW.out.2 H12.out⟩
            case measure => simp [intOf]; omega
        · have HDC : Hid (divC P la lb x y 90) := ⟨fun h => absurd h hok, fun _ => rfl⟩
          have HNO : Hid (¬ (okF P la x ∧ okF P lb y)) := hok
          have HF : Hid (∀ w1, Below W.heap.size W w1 → Calls Tryd.prog 7 #[.int .u64 P, .slice (some ⟨w1.heap.size, 0, none⟩) 2 2] (w1.alloc (.cells #[.slice ao la ca, .slice bo lb cb] 24)) fun e w' => e = .returned (.int .i64 90) ∧ Below W.heap.size W w') := fun w1 hb =>
            (form_no P w1.heap.size 2 _ _ _ _ _ HX.out.2.2.2.1 (HRW.out w1 hb) (by decide) (fun h => HNO.out (HIFF.out.1 h))).mono fun e w' h => ⟨h.1, by rw [h.2]; exact hb.alloc hb.size _⟩
          have HD0 : Hid (∀ w', Below W.heap.size W w' → Calls Tryd.prog 31 #[.slice ao la ca, .slice bo lb cb, .int .u64 P] w' fun e v' => e = .returned (.tuple #[.slice none 0 0, .slice none 0 0, .int .i64 90]) ∧ Below w'.heap.size w' v') := fun w' hb => mDivMod_no P 90 ao bo la ca lb cb x y w' HX.out.2.2.2.1 (HRAW.out w' hb).2.2 (HRAW.out w' hb).1 (HRAW.out w' hb).2.1 HDC.out
          have HP0 : Hid (∀ w', Below W.heap.size W w' → Calls Tryd.prog 33 #[.slice ao la ca, .int .u64 (n1 : Int), .slice bo lb cb, .int .u64 P] w' fun e v' => e = .returned (.tuple #[.slice none 0 0, .int .i64 90]) ∧ Below w'.heap.size w' v') := fun w' hb => mPow_no P 90 n1 ao bo la ca lb cb x y w' HX.out.2.2.2.1 (HRAW.out w' hb).2.2 (HRAW.out w' hb).1 (HRAW.out w' hb).2.1 HDC.out
          have HG0 : Hid (∀ w', Below W.heap.size W w' → Calls Tryd.prog 32 #[.slice ao la ca, .slice bo lb cb, .int .u64 P] w' fun e v' => e = .returned (.tuple #[.slice none 0 0, .int .i64 90]) ∧ Below w'.heap.size w' v') := fun w' hb => mGcd_no P ao bo la ca lb cb x y w' HX.out.2.2.2.1 (HRAW.out w' hb).2.2 (HRAW.out w' hb).1 (HRAW.out w' hb).2.1 HNO.out
          clear hok
          go_wp2_with (first
            | (go_at_call 20; refine (mis_bad 90 _ _ _ _ (by decide)).mono ?_; rintro e vi ⟨rfl, hvi⟩; replace hvi := hvi.symm; subst hvi)
            | (go_at_call 33; have _t := H5; refine (HP0.out _ H5.out).mono ?_; rintro e wh ⟨rfl, hbh⟩; obtain ⟨ph0, ph1, ph2, ph3, ph4, ph5⟩ := KC.out _ (bnextM (B := 0) H5.out hbh); have H6 : Hid (Below W.heap.size W wh) := bnextM (B := 0) H5.out hbh; clear hbh)
            | (go_at_call 32; have _t := H4; refine (HG0.out _ H4.out).mono ?_; rintro e wg ⟨rfl, hbg⟩; obtain ⟨pg0, pg1, pg2, pg3, pg4, pg5⟩ := KC.out _ (bnextM (B := 0) H4.out hbg); have H5 : Hid (Below W.heap.size W wg) := bnextM (B := 0) H4.out hbg; clear hbg)
            | (go_at_call 31; have _t := H2; refine (HD0.out _ H2.out).mono ?_; rintro e wd ⟨rfl, hbd⟩; obtain ⟨pd0, pd1, pd2, pd3, pd4, pd5⟩ := KC.out _ (bnextM (B := 0) H2.out hbd); have H4 : Hid (Below W.heap.size W wd) := bnextM (B := 0) H2.out hbd; clear hbd)
            | (go_at_call 7; refine (HF.out _ H1.out).mono ?_; rintro e w2 ⟨rfl, hb2⟩; obtain ⟨pb0, pb1, pb2, pb3, pb4, pb5⟩ := KC.out _ hb2; have H2 : Hid (Below W.heap.size W w2) := hb2; clear hb2)
            | (go_at_call 5; rw [← hW]; refine hcH.mono ?_; rintro e w1 ⟨rfl, hb1⟩; obtain ⟨pa0, pa1, pa2, pa3, pa4, pa5⟩ := KC.out _ hb1; have H1 : Hid (Below W.heap.size W w1) := hb1; clear hb1))
          go_roundw
          case rel => exact ⟨k + 1, by omega, by go_num, bnextM (B := 0) HW.out.2 H6.out⟩
          case measure => simp [intOf]; omega
      · clear hh1
        go_wp2_with (go_at_call 5; rw [← hW]; refine hcH.mono ?_; rintro e w1 ⟨rfl, hb1⟩)
        go_ret
        exact ⟨rfl, bnextM (B := 0) HW.out.2 hb1⟩
    · by_cases hk1 : k < len
      · have z1 : (k : Int) < (len : Int) := by omega
        have z2 : ¬ (k : Int) < 20 := by omega
        clear hlt
        go_wp2_with (go_at_call 27; refine (hwk _ HB.out).mono ?_; rintro e w1 ⟨rfl, hb1⟩)
        go_ret
        exact ⟨rfl, bnextM (B := 0) HB.out hb1⟩
      · have z1 : ¬ (k : Int) < (len : Int) := by omega
        clear hlt
        go_wp2_with (go_at_call 27; refine (hwk _ HB.out).mono ?_; rintro e w1 ⟨rfl, hb1⟩)
        go_ret
        exact ⟨rfl, bnextM (B := 0) HB.out hb1⟩
end Go.Proofs.YtnniipekcbjloaaDoor
