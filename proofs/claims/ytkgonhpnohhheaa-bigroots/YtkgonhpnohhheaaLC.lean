/-
  The walk of BigRoots.
-/
import Derived.Test.YtkgonhpnohhheaaLB0
import Derived.Test.YtkgonhpnohhheaaES
import Derived.Deep.DeepCutAuto
namespace Go.Proofs.Ytkgonhpnohhheaa
open Go.RowKit
set_option linter.unusedVariables false
set_option linter.unusedSimpArgs false

theorem roots_short {v k : Nat} (hv : (mag v).length ≤ 4) (hk : k ≤ 9) : (mag (2 ^ k * v)).length < 40 := by
  have h1 := mag_len_mul (2 ^ k) v
  have h3 := mag_len_one (n := 2 ^ k) (Nat.lt_of_le_of_lt (Nat.pow_le_pow_right (n := 2) (by decide) hk) (by decide))
  omega
theorem mag_len_next {r A : Nat} (h : (mag r).length ≤ A) : (mag (r + 1)).length ≤ A + 2 := by
  have h1 := mag_len_add r 1
  have h2 := mag_len_one (n := 1) (by decide)
  omega
theorem InVar.stored {Z y : World} {b B : Nat} {neg : Bool} {ao : Option Addr} {l c : Nat} {v : Int} (hs : neg = sgB v) (ho : Own B y .u64 52 ao l c (mag v.natAbs)) (hb : b < B) (g3 : y.cell? ⟨b, 0, none⟩ = some (.bool false)) (g4 : y.cell? ⟨b, 1, none⟩ = some (.slice none 0 0)) :
    InVar ((y.setCell ⟨b, 0, none⟩ (.bool neg)).setCell ⟨b, 1, none⟩ (.slice ao l c)) b neg ao l c v :=
  ⟨⟨by simp [go_sem, g3, g4], by simp [go_sem, g3, g4]⟩, (ho.store hb _ _).int hs, by simp; exact cell_lt g3⟩
theorem cmpI_le {a b : Int} (h : a ≤ b) : ∃ c, cmpI a b = c ∧ ¬ 0 < c := by
  refine ⟨_, rfl, fun h1 => ?_⟩
  have := cmpI_pos h1
  omega

theorem add_got {x : World} {B r : Nat} {neg : Bool} {ao : Option Addr} {l c : Nat} (hs : neg = sgB ((r : Int) + 1)) (ho : Own B x .u64 52 ao l c (mag ((r : Int) + 1).natAbs)) (hr : (mag (r : Int).natAbs).length ≤ 4) :
    Hid (IntAt x neg ao l c ((r : Int) + 1) ∧ l ≤ 6 ∧ (mag ((r : Int) + 1).natAbs).length ≤ 6) := by
  rw [Int.natAbs_natCast] at hr
  have h := mag_len_next hr
  have e : ((r : Int) + 1).natAbs = r + 1 := by omega
  exact ⟨ho.int hs, by rw [ho.row.hlen, e]; omega, by rw [e]; omega⟩

set_option maxRecDepth 100000 in
set_option maxHeartbeats 4000000 in
theorem bigRoots_any (lo : Option Addr) (len cap : Nat) (w : World) (hE : ElemsAt w lo len) (hl : len ≤ 9223372036854775807) :
    Calls Try.prog 5 #[.slice lo len cap] w fun e w' => e = .returned (.bool true) ∧ Below w.heap.size w w' := by
  go_enter Try.func5, Try.ntmps5
  go_wp2
  go_loopw [3] (fun i wr => ∃ k : Nat, k ≤ len ∧ k ≤ 40 ∧ i = .int .i64 k ∧ Below w.heap.size w wr) (fun i _ => 40 - (intOf i).toNat)
  case atStart => exact ⟨0, Nat.zero_le _, by omega, rfl, Below.refl _ _⟩
  case round =>
    obtain ⟨k, hk, hk40, rfl, hbel⟩ := hrel
    by_cases hlt : k < len ∧ k < 40
    · obtain ⟨hlt, hlt40⟩ := hlt
      obtain ⟨b, off, rfl, hbw, hel⟩ := hE k hlt
      obtain ⟨na, nb, ao, bo, la, ca, lb, cb, N, x, y, ⟨h0, h1, h2, h3, h4⟩, hx, wx, hy, wy, hn1, hn2⟩ := hel.later hbel hbw
      obtain ⟨W, hT⟩ := In5.mk' wr na nb ao bo la ca lb cb N
      have hsz := hT.size
      have hbW : Below w.heap.size w W := bnext hbel hT.below
      have hwW := hbW.size
      have HX : Hid (RowAt W .u64 ao la ca x ∧ Wd 18446744073709551616 x) := ⟨hx.later hT.below, wx⟩
      clear hx hy wx wy
      have hLA : ∀ c, decide ((4 : Int) < (la : Int)) = c → ∀ W', Calls Try.prog 27 #[.agg #[.bool na, .slice ao la ca], .int .i64 4] W' fun e w' => e = .returned (.bool c) ∧ Below W'.heap.size W' w' := fun c hc W' => (long_any na ao la ca 4 W').mono fun e w' h => by rw [hc] at h; exact h
      by_cases h4a : 4 < la
      · have hLA' := hLA true (decide_eq_true (by omega))
        clear hLA
        go_wp2_with (go_at_call 27; rw [← hT.eq]; refine (hLA' _).mono ?_; rintro e w1 ⟨rfl, hb1⟩)
        go_ret
        exact ⟨rfl, bnext hbW hb1⟩
      · have hLA' := hLA false (decide_eq_false (by omega))
        clear hLA
        cases hm : mayB na x
        · have HM : Hid ((if mayB na x then 0 else 10 : Int) = 10) := by show _ = _; rw [hm]; rfl
          clear hm
          go_wp2_with (first
            | (go_at_call 27; rw [← hT.eq]; refine (hLA' _).mono ?_; rintro e w1 ⟨rfl, hb1⟩; obtain ⟨q0, q1, q2, q3, q4⟩ := hT.p.later hb1 (by omega))
            | (go_at_call 8; refine (check_at na ao la ca x _ (HX.out.1.later hb1) (by omega) 10 HM.out).mono ?_; rintro e w2 ⟨rfl, hb2⟩)
            | (go_at_call 7; refine (num_any 10 _).mono ?_; rintro e w3 ⟨rfl, rfl⟩))
          go_roundw
          case rel => exact ⟨k + 1, by omega, by omega, by go_num, bnext hbW (bnext hb1 hb2)⟩
          case measure => simp [intOf]; omega
        · have HM : Hid ((if mayB na x then 0 else 10 : Int) = 0) := by show _ = _; rw [hm]; rfl
          obtain ⟨v, hIv, hxv⟩ := int_of_may HX.out.1 HX.out.2 hm
          have HI : Hid (IntAt W na ao la ca v) := hIv
          have hlv : Hid ((mag v.natAbs).length ≤ 4) := by show _ ≤ _; rw [← hIv.row.hlen]; omega
          clear hm hxv hIv
          go_wp2_with (first
            | (go_at_call 27; rw [← hT.eq]; refine (hLA' _).mono ?_; rintro e w1 ⟨rfl, hb1⟩; obtain ⟨q0, q1, q2, q3, q4⟩ := hT.p.later hb1 (by omega))
            | (go_at_call 8; refine (check_at na ao la ca x _ (HX.out.1.later hb1) (by omega) 0 HM.out).mono ?_; rintro e w2 ⟨rfl, hb2⟩; have HB2 : Hid (Below W.heap.size W w2) := bnext hb1 hb2; clear hb1 hb2 q0 q1 q2 q3 q4; obtain ⟨q0, q1, q2, q3, q4⟩ := hT.p.later HB2.out (by omega))
            | (go_at_call 7; refine (num_any 0 _).mono ?_; rintro e w3 ⟨rfl, hw3⟩; replace hw3 := hw3.symm; subst hw3)
            | (go_at_call 37; refine (within_any N 9 w2 hn1 hn2 (by decide) (by decide)).mono ?_; rintro e w5 ⟨m, hm9, rfl, hw5⟩; replace hw5 := hw5.symm; subst hw5; obtain ⟨n, hnm⟩ : ∃ n, Hid (n = m + 1) := ⟨m + 1, show m + 1 = m + 1 from rfl⟩; have h1m : (1 : Int) + (m : Int) = (n : Int) := (by have := hnm.out; omega); have hn1' : 1 ≤ n := (by have := hnm.out; omega); have hn9' : n ≤ 9 := (by have := hnm.out; omega))
            | (go_at_call 15; refine (babs_nat na ao la ca v w2 (HI.out.later HB2.out) (by omega)).mono ?_; rintro e y0 ⟨ao0, l0, c0, rfl, ho0, hi0, hl0, hb0⟩; have HA0 := InVar.new (neg := false) (v := (v.natAbs : Int)) HB2.out (sgB_nat _).symm (by rw [Int.natAbs_natCast]; exact ho0) hb0; clear ho0 hi0 hl0 hb0; obtain ⟨g0, g1⟩ := HA0.out.1.box)
            | (go_at_call 36; have hrs := roots_short (k := n) hlv.out (by omega); refine (broot_small ao0 l0 c0 n v.natAbs _ HA0.out.1.int (by omega) (by omega) hrs).mono ?_; clear hrs; rintro e y1 ⟨r, hr, n1, ao1, l1, c1, rfl, hs1, ho1, hb1⟩; have HRt : Hid (IsRoot v.natAbs n r) := hr; have HA1 := InVar.new (v := (r : Int)) HA0.out.2.1 hs1 ho1 hb1; have hl1 : l1 ≤ 4 := (by rw [ho1.row.hlen, Int.natAbs_natCast]; exact Nat.le_trans (mag_len_mono (root_le hr (by omega))) hlv.out); have HLr : Hid ((mag (r : Int).natAbs).length ≤ 4) := (by show _ ≤ _; rw [← ho1.row.hlen]; exact hl1); clear hr hs1 ho1 hb1 g0 g1; obtain ⟨g0, g1⟩ := HA1.out.1.box)
            | (go_at_call 35; refine (bpow_small n1 ao1 l1 c1 n (r : Int) _ HA1.out.1.int (by omega) (by omega) (Nat.lt_of_le_of_lt (pow_len_le (K := 5) HLr.out (by omega) (Nat.le_refl _)) (by decide)) (Nat.lt_of_le_of_lt (pow_len_le (K := 9) HLr.out (by omega) (Nat.le_refl _)) (by decide))).mono ?_; rintro e y2 ⟨n2, ao2, l2, c2, rfl, hs2, ho2, hb2⟩; have HA2 := InVar.new (v := (r : Int) ^ n) HA1.out.2.1 hs2 ho2 hb2; clear hs2 ho2 hb2 g0 g1))
          have hZ0 : InVar (y2.alloc (.cells #[.bool n2, .slice ao2 l2 c2] 26)) y0.heap.size false ao0 l0 c0 (v.natAbs : Int) ∧ InVar (y2.alloc (.cells #[.bool n2, .slice ao2 l2 c2] 26)) y1.heap.size n1 ao1 l1 c1 (r : Int) ∧ InVar (y2.alloc (.cells #[.bool n2, .slice ao2 l2 c2] 26)) y2.heap.size n2 ao2 l2 c2 ((r : Int) ^ n) ∧ Below W.heap.size W (y2.alloc (.cells #[.bool n2, .slice ao2 l2 c2] 26)) := ⟨(HA0.out.1.later HA1.out.2.2).later HA2.out.2.2, HA1.out.1.later HA2.out.2.2, HA2.out.1, HA2.out.2.1⟩
          clear q0 q1 q2 q3 q4 HA0 HA1 HA2 HB2
          revert hZ0
          generalize (y2.alloc (.cells #[.bool n2, .slice ao2 l2 c2] 26)) = Z
          rintro ⟨v0, v1, v2, v8⟩
          have hZW := v8.size
          have KS : Hid (∀ w' : World, Below Z.heap.size Z w' → (Below Z.heap.size Z w' ∧ w'.cell? ⟨y1.heap.size, 0, none⟩ = some (.bool n1) ∧ w'.cell? ⟨y1.heap.size, 1, none⟩ = some (.slice ao1 l1 c1))) := fun w' h => ⟨h, (v1.box.later h v1.lt).1, (v1.box.later h v1.lt).2⟩
          have K1 : Hid (∀ w1 w2 : World, (Below Z.heap.size Z w1 ∧ w1.cell? ⟨y1.heap.size, 0, none⟩ = some (.bool n1) ∧ w1.cell? ⟨y1.heap.size, 1, none⟩ = some (.slice ao1 l1 c1)) → Below w1.heap.size w1 w2 → (Below Z.heap.size Z w2 ∧ w2.cell? ⟨y1.heap.size, 0, none⟩ = some (.bool n1) ∧ w2.cell? ⟨y1.heap.size, 1, none⟩ = some (.slice ao1 l1 c1))) := fun w1 w2 h hb => KS.out _ (bnext h.1 hb)
          have HV : Hid (InVar Z y0.heap.size false ao0 l0 c0 (v.natAbs : Int) ∧ InVar Z y1.heap.size n1 ao1 l1 c1 (r : Int) ∧ InVar Z y2.heap.size n2 ao2 l2 c2 ((r : Int) ^ n) ∧ Below W.heap.size W Z) := ⟨v0, v1, v2, v8⟩
          clear v0 v1 v2 v8
          go_cut [11, 12] (fun s11 s12 wx => ∃ r3 n3 ao3 l3 c3, s11 = .pointer (some ⟨r3, 0, none⟩) ∧ s12 = .int .i64 0 ∧ InVar wx r3 n3 ao3 l3 c3 (((r : Int) + 1) ^ n) ∧ Below Z.heap.size Z wx)
          case first =>
            have hzD : Z.heap.size ≤ Z.drew.heap.size := Nat.le_refl _
            go_region_held3 (fun w' => Below Z.heap.size Z w' ∧ w'.cell? ⟨y1.heap.size, 0, none⟩ = some (.bool n1) ∧ w'.cell? ⟨y1.heap.size, 1, none⟩ = some (.slice ao1 l1 c1))
              (with_reducible first
                | exact KS.out _ (Below.refl _ _).drew
                | exact KS.out _ (bnext hbY3 ((Below.refl _ _).alloc (Nat.le_refl _) _))
                | exact KS.out _ (below_store hbY3 (by omega) _ _)
                | exact KS.out _ (by assumption)
                | exact K1.out _ _ (by assumption) ((Below.refl _ _).alloc (Nat.le_refl _) _))
              (first
                | (go_at_call 22; refine (rfrom_any 1 Z.drew (by decide) (by decide)).mono ?_; rintro e f1 ⟨nf, aof, lf, cf, rfl, hsf, hof, hbf⟩; have HF1 : Hid (IntAt f1 nf aof lf cf 1 ∧ lf ≤ 1) := ⟨hof.int hsf, (by rw [hof.row.hlen]; exact mag_len_one (by decide))⟩; have hbF1 : Below Z.heap.size Z f1 := bnext (Below.refl _ _).drew hbf; have hzF := hbF1.size; clear hsf hof)
                | (go_at_call 22; refine (rfrom_any 1 (Z.drew.alloc (.cells #[.bool false, .slice none 0 0] 26)) (by decide) (by decide)).mono ?_; rintro e f1 ⟨nf, aof, lf, cf, rfl, hsf, hof, hbf⟩; have HF1 : Hid (IntAt f1 nf aof lf cf 1 ∧ lf ≤ 1) := ⟨hof.int hsf, (by rw [hof.row.hlen]; exact mag_len_one (by decide))⟩; have hbF1 : Below Z.heap.size Z f1 := bnext (bnext (Below.refl _ _).drew ((Below.refl _ _).alloc (Nat.le_refl _) _)) hbf; have hzF := hbF1.size; have FR : Fresh f1 Z.heap.size := Fresh.later (Fresh.new Z.drew) hbf (by simp); clear hsf hof)
                | (go_at_call 38; refine (ladd_small n1 nf ao1 aof l1 c1 lf cf (r : Int) 1 f1 (HV.out.2.1.int.later hbF1) HF1.out.1 (by omega) (by have := HF1.out.2; omega)).mono ?_; rintro e f2 ⟨ng, aog, lg, cg, rfl, hsg, hog, hbg⟩; have HG1 : Hid (IntAt f2 ng aog lg cg ((r : Int) + 1) ∧ lg ≤ 6 ∧ (mag ((r : Int) + 1).natAbs).length ≤ 6) := add_got hsg hog HLr.out; have hbG1 : Below Z.heap.size Z f2 := bnext hbF1 hbg; have hzG := hbG1.size; (try (have _t := FR; replace FR := Fresh.later FR hbg (cell_lt FR.2.1))); clear hsg hog)
                | (go_at_call 38; refine (ladd_small n1 nf ao1 aof l1 c1 lf cf (r : Int) 1 (f1.alloc (.cells #[.bool false, .slice none 0 0] 26)) (HV.out.2.1.int.later (bnext hbF1 ((Below.refl _ _).alloc (Nat.le_refl _) _))) (HF1.out.1.later ((Below.refl _ _).alloc (Nat.le_refl _) _)) (by omega) (by have := HF1.out.2; omega)).mono ?_; rintro e f2 ⟨ng, aog, lg, cg, rfl, hsg, hog, hbg⟩; have HG1 : Hid (IntAt f2 ng aog lg cg ((r : Int) + 1) ∧ lg ≤ 6 ∧ (mag ((r : Int) + 1).natAbs).length ≤ 6) := add_got hsg hog HLr.out; have hbG1 : Below Z.heap.size Z f2 := bnext (bnext hbF1 ((Below.refl _ _).alloc (Nat.le_refl _) _)) hbg; have hzG := hbG1.size; have FR : Fresh f2 f1.heap.size := Fresh.later (Fresh.new f1) hbg (by simp); clear hsg hog)
                | (go_at_call 35; (refine (bpow_small ng aog lg cg n ((r : Int) + 1) f2 HG1.out.1 (by have := HG1.out.2.1; omega) (by omega) (Nat.lt_of_le_of_lt (pow_len_le (K := 5) HG1.out.2.2 (by omega) (Nat.le_refl _)) (by decide)) (Nat.lt_of_le_of_lt (pow_len_le (K := 9) HG1.out.2.2 (by omega) (Nat.le_refl _)) (by decide))).mono ?_; rintro e y3 ⟨n3, ao3, l3, c3, rfl, hs3, ho3, hb3⟩; have hbY3 : Below Z.heap.size Z y3 := bnext hbG1 hb3; (try (have _t := FR; have FR3 := Fresh.later FR hb3 (cell_lt FR.2.1); obtain ⟨g5, g3, g4⟩ := FR3)); have HO3 : Hid (n3 = sgB (((r : Int) + 1) ^ n)) := hs3; clear hs3))
                | (go_at_call 35; (refine (bpow_small ng aog lg cg n ((r : Int) + 1) (f2.alloc (.cells #[.bool false, .slice none 0 0] 26)) (HG1.out.1.later ((Below.refl _ _).alloc (Nat.le_refl _) _)) (by have := HG1.out.2.1; omega) (by omega) (Nat.lt_of_le_of_lt (pow_len_le (K := 5) HG1.out.2.2 (by omega) (Nat.le_refl _)) (by decide)) (Nat.lt_of_le_of_lt (pow_len_le (K := 9) HG1.out.2.2 (by omega) (Nat.le_refl _)) (by decide))).mono ?_; rintro e y3 ⟨n3, ao3, l3, c3, rfl, hs3, ho3, hb3⟩; have hbY3 : Below Z.heap.size Z y3 := bnext (bnext hbG1 ((Below.refl _ _).alloc (Nat.le_refl _) _)) hb3; have FR3 : Fresh y3 f2.heap.size := Fresh.later (Fresh.new f2) hb3 (by simp); obtain ⟨g5, g3, g4⟩ := FR3; have HO3 : Hid (n3 = sgB (((r : Int) + 1) ^ n)) := hs3; clear hs3)))
            all_goals go_wp2
            all_goals go_meet
            · exact ⟨_, n3, ao3, l3, c3, rfl, rfl, (InVar.new hbG1 HO3.out ho3 hb3).out.1, (InVar.new hbG1 HO3.out ho3 hb3).out.2.1⟩
            · exact ⟨_, n3, ao3, l3, c3, rfl, rfl, InVar.stored (Z := Z) HO3.out ho3 (by simp) g3 g4, below_store hbY3 (by omega) _ _⟩
            · exact ⟨_, n3, ao3, l3, c3, rfl, rfl, InVar.stored (Z := Z) HO3.out ho3 (cell_lt FR.2.1) g3 g4, below_store hbY3 (by omega) _ _⟩
            · exact ⟨_, n3, ao3, l3, c3, rfl, rfl, InVar.stored (Z := Z) HO3.out ho3 (cell_lt FR.2.1) g3 g4, below_store hbY3 (by omega) _ _⟩
          case rest =>
            obtain ⟨r3, n3, ao3, l3, c3, rfl, rfl, vy, hbZ3⟩ := hcut
            have HC : Hid (InVar wc y0.heap.size false ao0 l0 c0 (v.natAbs : Int) ∧ InVar wc y2.heap.size n2 ao2 l2 c2 ((r : Int) ^ n) ∧ InVar wc r3 n3 ao3 l3 c3 (((r : Int) + 1) ^ n) ∧ Below W.heap.size W wc) := ⟨HV.out.1.later hbZ3, HV.out.2.2.1.later hbZ3, vy, bnext HV.out.2.2.2 hbZ3⟩
            clear vy KS K1 HV hbZ3
            obtain ⟨ca1, hca1, hca0⟩ := cmpI_le (a := (r : Int) ^ n) (b := (v.natAbs : Int)) (by have := HRt.out.1; rw [← Int.natCast_pow]; omega)
            have HCA : Hid (cmpI ((r : Int) ^ n) (v.natAbs : Int) = ca1 ∧ cmpI (((r : Int) + 1) ^ n) (v.natAbs : Int) = 1) := ⟨hca1, cmpI_gt (by have := HRt.out.2; rw [show ((r : Int) + 1) = ((r + 1 : Nat) : Int) by omega, ← Int.natCast_pow]; omega)⟩
            have hcd : decide (0 < ca1) = false := decide_eq_false hca0
            have hl0 : l0 ≤ 4 := by rw [HC.out.1.int.row.hlen, Int.natAbs_natCast]; exact hlv.out
            have hl2 : l2 ≤ 37 := by rw [HC.out.2.1.int.row.hlen, Int.natAbs_pow]; exact pow_len_le (K := 9) HLr.out (by omega) (Nat.le_refl _)
            have hl3 : l3 ≤ 100 := by
              rw [HC.out.2.2.1.int.row.hlen, Int.natAbs_pow]
              have e : ((r : Int) + 1).natAbs = r + 1 := by omega
              rw [e]
              have h4 := HLr.out
              rw [Int.natAbs_natCast] at h4
              exact Nat.le_trans (pow_len_le (K := 9) (mag_len_next h4) (by omega) (Nat.le_refl _)) (by decide)
            clear hca1
            obtain ⟨a0, a1⟩ := HC.out.1.box
            obtain ⟨b0, b1⟩ := HC.out.2.1.box
            obtain ⟨d0, d1⟩ := HC.out.2.2.1.box
            have HL2 : Hid ((mag (2 : Int).natAbs).length ≤ 1) := mag_len_one (by decide)
            go_wp2_with (first
              | (go_at_call 7; refine (num_any 0 _).mono ?_; rintro e xn ⟨rfl, hxn⟩; replace hxn := hxn.symm; subst hxn)
              | (go_at_call 25; have _t := HB1; refine (bcmp_any n3 false ao3 ao0 l3 c3 l0 c0 _ _ _ (HC.out.2.2.1.int.later HB1.out) (HC.out.1.int.later HB1.out) (by omega) (by omega) 1 HCA.out.2).mono ?_; rintro e p2 ⟨rfl, hp2⟩; have HB2 : Hid (Below wc.heap.size wc p2) := bnext HB1.out hp2; clear hp2 HB1)
              | (go_at_call 25; refine (bcmp_any n2 false ao2 ao0 l2 c2 l0 c0 _ _ _ HC.out.2.1.int HC.out.1.int (by omega) (by omega) ca1 HCA.out.1).mono ?_; rintro e p1 ⟨rfl, hp1⟩; have HB1 : Hid (Below wc.heap.size wc p1) := hp1; clear hp1 a0 a1 d0 d1; obtain ⟨a0, a1⟩ := (HC.out.1.later HB1.out).box; obtain ⟨d0, d1⟩ := (HC.out.2.2.1.later HB1.out).box)
              | (go_at_call 22; refine (rfrom_any 2 _ (by decide) (by decide)).mono ?_; rintro e f4 ⟨nt, aot, lt, ct, rfl, hst, hot, hbt⟩; have HT2 : Hid (IntAt f4 nt aot lt ct 2 ∧ lt ≤ 1 ∧ Below wc.heap.size wc f4) := ⟨hot.int hst, (by rw [hot.row.hlen]; exact HL2.out), bnext HB2.out hbt⟩; clear hst hot hbt)
              | (go_at_call 35; refine (bpow_small nt aot lt ct n 2 f4 HT2.out.1 (by have := HT2.out.2.1; omega) (by omega) (Nat.lt_of_le_of_lt (pow_len_le (K := 5) HL2.out (by omega) (Nat.le_refl _)) (by decide)) (Nat.lt_of_le_of_lt (pow_len_le (K := 9) HL2.out (by omega) (Nat.le_refl _)) (by decide))).mono ?_; rintro e y4 ⟨n4, ao4, l4, c4, rfl, hs4, ho4, hb4⟩; have HA4 := InVar.new (v := (2 : Int) ^ n) (bnext HC.out.2.2.2 HT2.out.2.2) hs4 ho4 hb4; have hl4 : l4 ≤ 10 := (by rw [ho4.row.hlen, Int.natAbs_pow]; exact pow_len_le (K := 9) HL2.out (by omega) (Nat.le_refl _)); clear hs4 ho4 hb4; obtain ⟨q0, q1, q2, q3, q4⟩ := hT.p.later HA4.out.2.1 (by omega))
              | (go_at_call 32; refine (bleft_any na ao la ca n v _ (HI.out.later HA4.out.2.1) (by omega) (by omega)).mono ?_; rintro e y5 ⟨n5, ao5, l5, c5, rfl, hs5, ho5, hb5⟩; have HA5 := InVar.new (v := v * ((2 ^ n : Nat) : Int)) HA4.out.2.1 hs5 ho5 hb5; clear hs5 ho5 hb5 q0 q1 q2 q3 q4; obtain ⟨q0, q1, q2, q3, q4⟩ := hT.p.later HA5.out.2.1 (by omega))
              | (go_at_call 34; refine (bright_any na ao la ca n v _ (HI.out.later HA5.out.2.1) (by omega) (by omega)).mono ?_; rintro e y6 ⟨n6, ao6, l6, c6, rfl, hs6, ho6, hb6⟩; have HA6 := InVar.new (v := v / ((2 ^ n : Nat) : Int)) HA5.out.2.1 hs6 ho6 hb6; clear hs6 ho6 hb6 q0 q1 q2 q3 q4; obtain ⟨q0, q1, q2, q3, q4⟩ := hT.p.later HA6.out.2.1 (by omega); obtain ⟨t0, t1⟩ := ((HA4.out.1.later HA5.out.2.2).later HA6.out.2.2).box)
              | (go_at_call 39; refine (bdivide_any na n4 ao ao4 la ca l4 c4 v ((2 : Int) ^ n) _ (HI.out.later HA6.out.2.1) ((HA4.out.1.later HA5.out.2.2).later HA6.out.2.2).int (by omega) (by omega) (Int.ne_of_gt (Int.pow_pos (by decide)))).mono ?_; rintro e y7 ⟨qq, rr, hfl, n7, ao7, l7, c7, n8, ao8, l8, c8, rfl, hs7, ho7, hs8, ho8, hb7⟩; have HFl : Hid (FloorOf v ((2 : Int) ^ n) qq rr) := hfl; have HA7 : Hid (Own (y6.alloc (.cells #[.bool n6, .slice ao6 l6 c6] 26)).heap.size y7 .u64 52 ao7 l7 c7 (mag qq.natAbs) ∧ n7 = sgB qq ∧ Below (y6.alloc (.cells #[.bool n6, .slice ao6 l6 c6] 26)).heap.size (y6.alloc (.cells #[.bool n6, .slice ao6 l6 c6] 26)) y7) := ⟨ho7, hs7, hb7⟩; clear hfl hs7 ho7 hs8 ho8 hb7))
            have hU0 : InVar ((y7.alloc (.cells #[.bool n7, .slice ao7 l7 c7] 26)).alloc (.cells #[.bool n8, .slice ao8 l8 c8] 26)) y5.heap.size n5 ao5 l5 c5 (v * ((2 ^ n : Nat) : Int)) ∧ InVar ((y7.alloc (.cells #[.bool n7, .slice ao7 l7 c7] 26)).alloc (.cells #[.bool n8, .slice ao8 l8 c8] 26)) y4.heap.size n4 ao4 l4 c4 ((2 : Int) ^ n) ∧ InVar ((y7.alloc (.cells #[.bool n7, .slice ao7 l7 c7] 26)).alloc (.cells #[.bool n8, .slice ao8 l8 c8] 26)) y6.heap.size n6 ao6 l6 c6 (v / ((2 ^ n : Nat) : Int)) ∧ InVar ((y7.alloc (.cells #[.bool n7, .slice ao7 l7 c7] 26)).alloc (.cells #[.bool n8, .slice ao8 l8 c8] 26)) y7.heap.size n7 ao7 l7 c7 qq ∧ Below W.heap.size W ((y7.alloc (.cells #[.bool n7, .slice ao7 l7 c7] 26)).alloc (.cells #[.bool n8, .slice ao8 l8 c8] 26)) := by
              have h1 := InVar.new (v := qq) HA6.out.2.1 HA7.out.2.1 HA7.out.1 HA7.out.2.2
              have h2 : Below (y7.alloc (.cells #[.bool n7, .slice ao7 l7 c7] 26)).heap.size (y7.alloc (.cells #[.bool n7, .slice ao7 l7 c7] 26)) ((y7.alloc (.cells #[.bool n7, .slice ao7 l7 c7] 26)).alloc (.cells #[.bool n8, .slice ao8 l8 c8] 26)) := (Below.refl _ _).alloc (Nat.le_refl _) _
              exact ⟨((HA5.out.1.later HA6.out.2.2).later h1.out.2.2).later h2, (((HA4.out.1.later HA5.out.2.2).later HA6.out.2.2).later h1.out.2.2).later h2, (HA6.out.1.later h1.out.2.2).later h2, h1.out.1.later h2, bnext h1.out.2.1 h2⟩
            clear q0 q1 q2 q3 q4 t0 t1 HA4 HA5 HA6 HA7 HT2
            revert hU0
            generalize ((y7.alloc (.cells #[.bool n7, .slice ao7 l7 c7] 26)).alloc (.cells #[.bool n8, .slice ao8 l8 c8] 26)) = U
            rintro ⟨u5, u4, u6, u7, u8⟩
            have u9 := hT.p.later u8 (by omega)
            have hUW := u8.size
            have hl5 : l5 ≤ 20 := by
              have h1 := mag_len_mul v.natAbs (2 ^ n)
              have h2 := mag_len_two n
              have h3 := hlv.out
              rw [u5.int.row.hlen, Int.natAbs_mul, Int.natAbs_natCast]; omega
            have hl6 : l6 ≤ 20 := by
              have h1 := mag_len_mono (Int.natAbs_ediv_le_natAbs v ((2 ^ n : Nat) : Int))
              have h3 := hlv.out
              rw [u6.int.row.hlen]; omega
            have HQ : Hid (decide (v * ((2 ^ n : Nat) : Int) = v * (2 : Int) ^ n) = true ∧ decide (v / ((2 ^ n : Nat) : Int) = qq) = true) := by
              have e : ((2 ^ n : Nat) : Int) = (2 : Int) ^ n := by rw [Int.natCast_pow]; rfl
              exact ⟨decide_eq_true (by rw [e]), decide_eq_true (by rw [e]; exact (HFl.out.pos (Int.pow_pos (by decide))).1.symm)⟩
            have HU : Hid (IntAt U n5 ao5 l5 c5 (v * ((2 ^ n : Nat) : Int)) ∧ IntAt U n4 ao4 l4 c4 ((2 : Int) ^ n) ∧ IntAt U n6 ao6 l6 c6 (v / ((2 ^ n : Nat) : Int)) ∧ IntAt U n7 ao7 l7 c7 qq ∧ IntAt U na ao la ca v) := ⟨u5.int, u4.int, u6.int, u7.int, HI.out.later u8⟩
            have KU : Hid (∀ w' : World, Below U.heap.size U w' → (Below U.heap.size U w' ∧ w'.cell? ⟨y5.heap.size, 0, none⟩ = some (.bool n5) ∧ w'.cell? ⟨y5.heap.size, 1, none⟩ = some (.slice ao5 l5 c5) ∧ w'.cell? ⟨y4.heap.size, 0, none⟩ = some (.bool n4) ∧ w'.cell? ⟨y4.heap.size, 1, none⟩ = some (.slice ao4 l4 c4) ∧ w'.cell? ⟨y6.heap.size, 0, none⟩ = some (.bool n6) ∧ w'.cell? ⟨y6.heap.size, 1, none⟩ = some (.slice ao6 l6 c6) ∧ w'.cell? ⟨y7.heap.size, 0, none⟩ = some (.bool n7) ∧ w'.cell? ⟨y7.heap.size, 1, none⟩ = some (.slice ao7 l7 c7) ∧ w'.cell? ⟨wr.heap.size, 0, none⟩ = some (.bool na) ∧ w'.cell? ⟨wr.heap.size, 1, none⟩ = some (.slice ao la ca))) := fun w' h => ⟨h, (u5.box.later h u5.lt).1, (u5.box.later h u5.lt).2, (u4.box.later h u4.lt).1, (u4.box.later h u4.lt).2, (u6.box.later h u6.lt).1, (u6.box.later h u6.lt).2, (u7.box.later h u7.lt).1, (u7.box.later h u7.lt).2, (u9.later h (by omega)).1, (u9.later h (by omega)).2.1⟩
            clear u5 u4 u6 u7 HC HCA HRt HFl
            go_region_held3 (fun w' => Below U.heap.size U w' ∧ w'.cell? ⟨y5.heap.size, 0, none⟩ = some (.bool n5) ∧ w'.cell? ⟨y5.heap.size, 1, none⟩ = some (.slice ao5 l5 c5) ∧ w'.cell? ⟨y4.heap.size, 0, none⟩ = some (.bool n4) ∧ w'.cell? ⟨y4.heap.size, 1, none⟩ = some (.slice ao4 l4 c4) ∧ w'.cell? ⟨y6.heap.size, 0, none⟩ = some (.bool n6) ∧ w'.cell? ⟨y6.heap.size, 1, none⟩ = some (.slice ao6 l6 c6) ∧ w'.cell? ⟨y7.heap.size, 0, none⟩ = some (.bool n7) ∧ w'.cell? ⟨y7.heap.size, 1, none⟩ = some (.slice ao7 l7 c7) ∧ w'.cell? ⟨wr.heap.size, 0, none⟩ = some (.bool na) ∧ w'.cell? ⟨wr.heap.size, 1, none⟩ = some (.slice ao la ca))
              (with_reducible first
                | exact KU.out _ (Below.refl _ _).drew
                | exact KU.out _ (by assumption))
              (first
                | (go_at_call 7; refine (num_any 0 _).mono ?_; rintro e xn ⟨rfl, rfl⟩)
                | (go_at_call 40; refine (lmul_small na n4 ao ao4 la ca l4 c4 v ((2 : Int) ^ n) _ (HU.out.2.2.2.2.later (Below.refl _ _).drew) (HU.out.2.1.later (Below.refl _ _).drew) (by omega) (by omega) (by omega)).mono ?_; rintro e x1 ⟨nx, aox, lx, cx, rfl, hsx, hox, hbx⟩; have HX1 : Hid (IntAt x1 nx aox lx cx (v * (2 : Int) ^ n)) := hox.int hsx; have hbM : Below U.heap.size U x1 := bnext (Below.refl _ _).drew hbx; clear hsx hox hbx)
                | (go_at_call 13; have _t := hbE1; refine (eqint_at n6 n7 ao6 ao7 l6 c6 l7 c7 _ _ _ (HU.out.2.2.1.later hbE1) (HU.out.2.2.2.1.later hbE1) (by omega) true HQ.out.2).mono ?_; rintro e x3 ⟨rfl, hbx3⟩; have hbE2 : Below U.heap.size U x3 := bnext hbE1 hbx3; clear hbx3)
                | (go_at_call 13; have _t := HX1; refine (eqint_at n5 nx ao5 aox l5 c5 lx cx _ _ _ (HU.out.1.later hbM) HX1.out (by omega) true HQ.out.1).mono ?_; rintro e x2 ⟨rfl, hbx2⟩; have hbE1 : Below U.heap.size U x2 := bnext hbM hbx2; clear hbx2 HX1))
            go_wp2
            go_roundw
            case rel => exact ⟨k + 1, by omega, by omega, by go_num, bnext hbW (bnext u8 hbE2)⟩
            case measure => simp [intOf]; omega
    · have hend : ¬ k < len ∨ k = 40 := by omega
      rcases hend with he | he
      · go_wp2_with (go_at_call 26; refine (wakes_any _).mono ?_; rintro e w1 ⟨rfl, hb1⟩)
        go_ret
        exact ⟨rfl, bnext hbel hb1⟩
      · subst he
        by_cases hq : 40 < len
        · go_wp2_with (go_at_call 26; refine (wakes_any _).mono ?_; rintro e w1 ⟨rfl, hb1⟩)
          go_ret
          exact ⟨rfl, bnext hbel hb1⟩
        · go_wp2_with (go_at_call 26; refine (wakes_any _).mono ?_; rintro e w1 ⟨rfl, hb1⟩)
          go_ret
          exact ⟨rfl, bnext hbel hb1⟩
end Go.Proofs.Ytkgonhpnohhheaa
