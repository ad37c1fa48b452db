/-
  Walks: the page's Root.
-/
import Derived.Test.YtmjbmgjegiimfaaHM
import Derived.Deep.DeepCutAuto
namespace Go.Proofs.Ytmjbmgjegiimfaa
open Go.RowKit Go.Shelf
set_option linter.unusedVariables false
set_option linter.unusedSimpArgs false

/-- R is the root but for less than 2^m -/
structure RootSt (A n m R : Nat) : Prop where
  le : R ^ n ≤ A
  lt : A < (R + 2 ^ m) ^ n
theorem RootSt.start {A n l : Nat} (hn : 1 ≤ n) (h : A < 2 ^ l) : RootSt A n (l / n + 1 + 1) 0 := by
  refine ⟨by rw [Nat.zero_pow (by omega)]; exact Nat.zero_le _, ?_⟩
  rw [Nat.zero_add, ← Nat.pow_mul]
  refine Nat.lt_of_lt_of_le h (Nat.pow_le_pow_right (by decide) ?_)
  have h1 := Nat.div_add_mod l n
  have h2 := Nat.mod_lt l (show 0 < n by omega)
  have h3 : (l / n + 1 + 1) * n = n * (l / n) + n + n := by rw [Nat.add_mul, Nat.add_mul, Nat.mul_comm]; omega
  omega
theorem RootSt.yes {A n k R : Nat} (h : RootSt A n (k + 1) R) (hx : (R + 2 ^ k) ^ n ≤ A) : RootSt A n k (R + 2 ^ k) :=
  ⟨hx, by have := h.lt; rw [Nat.pow_succ] at this; rw [show R + 2 ^ k + 2 ^ k = R + 2 ^ k * 2 by omega]; exact this⟩
theorem RootSt.no {A n k R : Nat} (h : RootSt A n (k + 1) R) (hx : A < (R + 2 ^ k) ^ n) : RootSt A n k R := ⟨h.le, hx⟩
theorem RootSt.small {A n m R : Nat} (hn : 1 ≤ n) (h : RootSt A n m R) : R ≤ A := by
  by_cases h0 : R = 0
  · omega
  · have h1 : R ^ 1 ≤ R ^ n := Nat.pow_le_pow_right (by omega) hn
    rw [Nat.pow_one] at h1
    exact Nat.le_trans h1 h.le
theorem RootSt.done {A n R : Nat} (h : RootSt A n 0 R) : IsRoot A n R := ⟨h.le, by have := h.lt; rw [Nat.pow_zero] at this; exact this⟩
theorem Boxed.lt' {Z : World} {r : Nat} {n : Bool} {o : Option Addr} {l c : Nat} (h : Boxed Z r n o l c) : r < Z.heap.size := cell_lt h.1
theorem Fresh.on {X y : World} {r : Nat} (h : Fresh X r) (hb : Below X.heap.size X y) : Fresh y r := h.later hb (cell_lt h.2.1)
theorem xvar_put {Z : World} {r : Nat} {n : Bool} {o : Option Addr} {l c : Nat} {v : Int} (hf : Fresh Z r) (hi : IntAt Z n o l c v) : XVar ((Z.setCell ⟨r, 0, none⟩ (.bool n)).setCell ⟨r, 1, none⟩ (.slice o l c)) r v :=
  ⟨n, o, l, c, boxed_new (n := false) (so := none) (l := 0) (c := 0) ⟨hf.2.1, hf.2.2⟩, ⟨hi.sg, hi.row.kept hf _ _⟩, fun j => by rw [frozen_far, frozen_far]; exact hf.1 j⟩
theorem xvar_new {Z : World} {n : Bool} {o : Option Addr} {l c : Nat} {v : Int} (hi : IntAt Z n o l c v) : XVar (Z.alloc (.cells #[.bool n, .slice o l c] 26)) Z.heap.size v :=
  ⟨n, o, l, c, ⟨by simp [go_sem], by simp [go_sem]⟩, hi.later ((Below.refl _ _).alloc (Nat.le_refl _) _), fun j => by simp [go_sem]⟩
theorem pow_cast (R k n : Nat) : (((R + 2 ^ k : Nat) : Int)) ^ n = (((R + 2 ^ k) ^ n : Nat) : Int) := by rw [Int.natCast_pow]

set_option maxRecDepth 100000 in
set_option maxHeartbeats 4000000 in
theorem rroot_any (ao : Option Addr) (len cap n A : Nat) (w : World) (hx : IntAt w false ao len cap (A : Int)) (hl : len ≤ 10) (hn : 1 ≤ n) (hn' : n ≤ 64) :
    Calls Try.prog 9 #[.agg #[.bool false, .slice ao len cap], .int .i64 (n : Int)] w fun e w' => ∃ r : Nat, IsRoot A n r ∧ RefInt w w' e (r : Int) := by
  obtain ⟨W, hT⟩ := One2.mk' w false ao len cap
  have hsz := hT.size
  have hR := hx.later hT.below
  have HLA : Hid ((mag A).length ≤ 10) := by show _ ≤ _; have := hx.row.hlen; rw [Int.natAbs_natCast] at this; omega
  obtain ⟨L, hL⟩ : ∃ L : Nat, rowBits len (dig (mag (A : Int).natAbs) (len - 1)) = (L : Int) ∧ L ≤ 640 ∧ A < 2 ^ L := by
    rw [Int.natAbs_natCast]
    have hlen := hx.row.hlen
    rw [Int.natAbs_natCast] at hlen
    by_cases h0 : 0 < A
    · obtain ⟨l, h1, h2, h3, h4, h5⟩ := row_bits h0 hlen
      exact ⟨l, h1, by omega, h5⟩
    · have hl0 : len = 0 := by
        by_cases h : 0 < len
        · exact absurd (mag_len_pos.1 (hlen ▸ h)) h0
        · omega
      exact ⟨0, by unfold rowBits; rw [if_pos hl0]; rfl, by omega, by omega⟩
  have HB : Hid (rowBits len (dig (mag (A : Int).natAbs) (len - 1)) = (L : Int) ∧ A < 2 ^ L) := ⟨hL.1, hL.2.2⟩
  have hL640 : L ≤ 640 := hL.2.1
  clear hx hL
  have hdiv : (L : Int).tdiv (n : Int) = ((L / n : Nat) : Int) := by rw [Int.tdiv_eq_ediv_of_nonneg (by omega), Int.natCast_ediv]
  obtain ⟨K, hK⟩ : ∃ K, L / n = K := ⟨_, rfl⟩
  rw [hK] at hdiv
  have HK : Hid (L / n = K) := hK
  have hK2 : K ≤ 640 := by rw [← hK]; exact Nat.le_trans (Nat.div_le_self _ _) hL640
  have hn0 : ((n : Int) == 0) = false := by simp; omega
  clear hK
  go_enter Try.func9, Try.ntmps9
  go_wp2_with (first
    | (go_at_call 23; rw [← hT.eq]; refine (rfrom_any 0 _ (by decide) (by decide)).mono ?_; rintro e w1 ⟨n1, o1, l1, c1, rfl, hs1, ho1, hb1⟩; have HF : Hid (RPow w (w1.alloc (.cells #[.bool n1, .slice o1 l1 c1] 26)) w1.heap.size false ao len cap (A : Int) 0) := RPow.first hT hR hb1 ⟨hs1, ho1.row⟩; clear hs1 ho1 hb1; obtain ⟨a0, a1⟩ := HF.out.ba)
    | (go_at_call 25; refine (rlen_any false ao len cap (A : Int) _ HF.out.ia (by omega)).mono ?_; rintro e w2 ⟨rfl, hb2⟩; rw [HB.out.1]; have HF2 : Hid (RPow w w2 w1.heap.size false ao len cap (A : Int) 0) := HF.out.later hb2; clear hb2 a0 a1))
  obtain ⟨g, hg⟩ : ∃ g, w1.heap.size = g := ⟨_, rfl⟩
  rw [hg] at HF2
  rw [hg]
  clear hg hR hT HF
  go_loopw [6] (fun i wr => ∃ (m R : Nat), m ≤ K + 2 ∧ i = .int .i64 ((m : Int) - 1) ∧ RootSt A n m R ∧ RPow w wr g false ao len cap (A : Int) (R : Int)) (fun i _ => (intOf i + 1).toNat)
  case atStart => exact ⟨K + 2, 0, Nat.le_refl _, by go_num, by rw [← HK.out]; exact RootSt.start hn HB.out.2, HF2.out⟩
  case round =>
    obtain ⟨m, R, hm, rfl, hst, hrp⟩ := hrel
    have HS : Hid (RPow w wr g false ao len cap (A : Int) (R : Int) ∧ RootSt A n m R) := ⟨hrp, hst⟩
    obtain ⟨n5, o5, l5, c5, ⟨x0, x1⟩, hi5, hf5⟩ := hrp.vx
    have HI : Hid (IntAt wr n5 o5 l5 c5 (R : Int) ∧ Boxed wr g n5 o5 l5 c5) := ⟨hi5, x0, x1⟩
    have hgz := hrp.gz
    have hl5 : l5 ≤ 10 := by
      rw [hi5.row.hlen, Int.natAbs_natCast]
      exact Nat.le_trans (mag_len_mono (hst.small hn)) HLA.out
    rcases m with _ | k
    · obtain ⟨g5, g3, g4⟩ := hrp.fr
      have HD : Hid (IsRoot A n R) := hst.done
      clear hst hrp hi5
      go_wp2
      exact bodyPost_ret (v := .agg #[.bool n5, .slice o5 l5 c5]) (by simp [results, Try.results9, go_sem, g3, g4]) rfl
        ⟨R, HD.out, HS.out.1.last HI.out.2 HI.out.1 _ _⟩
    · have hc1 : ((k + 1 : Nat) : Int) - 1 = (k : Int) := by omega
      rw [hc1]
      clear hst hrp hi5
      go_upto_region 5 with fail
      go_cut [7] (fun s7 wx => ∃ r7, s7 = .pointer (some ⟨r7, 0, none⟩) ∧ XVar wx r7 ((R + 2 ^ k : Nat) : Int) ∧ wr.heap.size ≤ r7 ∧ Below wr.heap.size wr wx)
      case first => as_aux_lemma =>
        have KS : Hid (∀ w' : World, Below wr.heap.size wr w' → (Below wr.heap.size wr w' ∧ w'.cell? ⟨g, 0, none⟩ = some (.bool n5) ∧ w'.cell? ⟨g, 1, none⟩ = some (.slice o5 l5 c5))) := fun w' h => ⟨h, (HI.out.2.later h hgz).1, (HI.out.2.later h hgz).2⟩
        have hA0 : Below wr.heap.size wr (wr.drew.alloc (.cells #[.bool false, .slice none 0 0] 26)) := below_alloc (Below.refl _ _).drew (Nat.le_refl _)
        have hF0 : Fresh (wr.drew.alloc (.cells #[.bool false, .slice none 0 0] 26)) wr.heap.size := Fresh.new wr.drew
        have HV : Hid ((R : Int) + 1 * ((2 ^ k : Nat) : Int) = ((R + 2 ^ k : Nat) : Int)) := by show _ = _; rw [Int.one_mul, Int.natCast_add]
        go_region_held3 (fun w' => (Below wr.heap.size wr w' ∧ w'.cell? ⟨g, 0, none⟩ = some (.bool n5) ∧ w'.cell? ⟨g, 1, none⟩ = some (.slice o5 l5 c5)))
          (first
            | exact KS.out _ (Below.refl _ _).drew
            | exact KS.out _ hA0
            | assumption
            | exact KS.out _ (by assumption)
            | exact KS.out _ (below_alloc (by assumption) (Nat.le_refl _))
            | exact KS.out _ (below_store (by assumption) hB2.size _ _)
            | exact KS.out _ (below_store (by assumption) hB1.size _ _)
            | exact KS.out _ (below_store (by assumption) (Nat.le_refl _) _ _))
          (first
            | (go_at_call 23; refine (rfrom_any 1 (wr.drew.alloc (.cells #[.bool false, .slice none 0 0] 26)) (by decide) (by decide)).mono ?_; rintro e y1 ⟨m1, p1, j1, e1, rfl, hs1, ho1, hb1⟩; have HJ1 : Hid (IntAt y1 m1 p1 j1 e1 1) := ⟨hs1, ho1.row⟩; have hj1 : j1 ≤ 1 := (by rw [ho1.row.hlen]; exact mag_one_len); have hB1 : Below wr.heap.size wr y1 := bnext hA0 hb1; have hF1 : Fresh y1 wr.heap.size := hF0.on hb1; clear hs1 ho1 hb1)
            | (go_at_call 23; refine (rfrom_any 1 wr.drew (by decide) (by decide)).mono ?_; rintro e y1 ⟨m1, p1, j1, e1, rfl, hs1, ho1, hb1⟩; have HJ1 : Hid (IntAt y1 m1 p1 j1 e1 1) := ⟨hs1, ho1.row⟩; have hj1 : j1 ≤ 1 := (by rw [ho1.row.hlen]; exact mag_one_len); have hB1 : Below wr.heap.size wr y1 := bnext (Below.refl _ _).drew hb1; have hA1 : Below wr.heap.size wr (y1.alloc (.cells #[.bool false, .slice none 0 0] 26)) := below_alloc hB1 (Nat.le_refl _); have hG1 : Fresh (y1.alloc (.cells #[.bool false, .slice none 0 0] 26)) y1.heap.size := Fresh.new _; clear hs1 ho1 hb1)
            | (go_at_call 6; have _t := hF1; refine (rleft_any m1 p1 j1 e1 k 1 y1 HJ1.out (by omega) (by omega)).mono ?_; rintro e y2 ⟨m2, p2, j2, e2, rfl, hs2, ho2, hb2⟩; have HJ2 : Hid (IntAt y2 m2 p2 j2 e2 (1 * ((2 ^ k : Nat) : Int))) := ⟨hs2, ho2.row⟩; have hj2 : j2 ≤ 650 := (by rw [ho2.row.hlen, Int.one_mul, Int.natAbs_natCast]; have q1 := mag_len_two k; omega); have hB2 : Below wr.heap.size wr y2 := bnext hB1 hb2; have hF2 : Fresh y2 wr.heap.size := hF1.on hb2; clear hs2 ho2 hb2)
            | (go_at_call 6; refine (rleft_any m1 p1 j1 e1 k 1 (y1.alloc (.cells #[.bool false, .slice none 0 0] 26)) (HJ1.out.later (below_alloc (Below.refl _ _) (Nat.le_refl _))) (by omega) (by omega)).mono ?_; rintro e y2 ⟨m2, p2, j2, e2, rfl, hs2, ho2, hb2⟩; have HJ2 : Hid (IntAt y2 m2 p2 j2 e2 (1 * ((2 ^ k : Nat) : Int))) := ⟨hs2, ho2.row⟩; have hj2 : j2 ≤ 650 := (by rw [ho2.row.hlen, Int.one_mul, Int.natAbs_natCast]; have q1 := mag_len_two k; omega); have hB2 : Below wr.heap.size wr y2 := bnext hA1 hb2; have hF2 : Fresh y2 y1.heap.size := hG1.on hb2; clear hs2 ho2 hb2)
            | (go_at_call 6; refine (rleft_any m1 p1 j1 e1 k 1 y1 HJ1.out (by omega) (by omega)).mono ?_; rintro e y2 ⟨m2, p2, j2, e2, rfl, hs2, ho2, hb2⟩; have HJ2 : Hid (IntAt y2 m2 p2 j2 e2 (1 * ((2 ^ k : Nat) : Int))) := ⟨hs2, ho2.row⟩; have hj2 : j2 ≤ 650 := (by rw [ho2.row.hlen, Int.one_mul, Int.natAbs_natCast]; have q1 := mag_len_two k; omega); have hB2 : Below wr.heap.size wr y2 := bnext hB1 hb2; have hA2 : Below wr.heap.size wr (y2.alloc (.cells #[.bool false, .slice none 0 0] 26)) := below_alloc hB2 (Nat.le_refl _); have hG2 : Fresh (y2.alloc (.cells #[.bool false, .slice none 0 0] 26)) y2.heap.size := Fresh.new _; clear hs2 ho2 hb2)
            | (go_at_call 26; have _t := hF2; refine (rplus_any n5 m2 o5 p2 l5 c5 j2 e2 (R : Int) (1 * ((2 ^ k : Nat) : Int)) y2 (HI.out.1.later hB2) HJ2.out (by omega) (by omega)).mono ?_; rintro e y3 ⟨m3, p3, j3, e3, rfl, hi3, hb3⟩; have HJ3 : Hid (IntAt y3 m3 p3 j3 e3 ((R + 2 ^ k : Nat) : Int)) := HV.out ▸ hi3; have hB3 : Below wr.heap.size wr y3 := bnext hB2 hb3; have hF3 := hF2.on hb3; obtain ⟨k5, k3, k4⟩ := hF2.on hb3; clear hi3 hb3)
            | (go_at_call 26; refine (rplus_any n5 m2 o5 p2 l5 c5 j2 e2 (R : Int) (1 * ((2 ^ k : Nat) : Int)) (y2.alloc (.cells #[.bool false, .slice none 0 0] 26)) (HI.out.1.later hA2) (HJ2.out.later (below_alloc (Below.refl _ _) (Nat.le_refl _))) (by omega) (by omega)).mono ?_; rintro e y3 ⟨m3, p3, j3, e3, rfl, hi3, hb3⟩; have HJ3 : Hid (IntAt y3 m3 p3 j3 e3 ((R + 2 ^ k : Nat) : Int)) := HV.out ▸ hi3; have hB3 : Below wr.heap.size wr y3 := bnext hA2 hb3; have hF3 := hG2.on hb3; obtain ⟨k5, k3, k4⟩ := hG2.on hb3; clear hi3 hb3)
            | (go_at_call 26; refine (rplus_any n5 m2 o5 p2 l5 c5 j2 e2 (R : Int) (1 * ((2 ^ k : Nat) : Int)) y2 (HI.out.1.later hB2) HJ2.out (by omega) (by omega)).mono ?_; rintro e y3 ⟨m3, p3, j3, e3, rfl, hi3, hb3⟩; have HJ3 : Hid (IntAt y3 m3 p3 j3 e3 ((R + 2 ^ k : Nat) : Int)) := HV.out ▸ hi3; have hB3 : Below wr.heap.size wr y3 := bnext hB2 hb3; clear hi3 hb3))
        all_goals go_wp2
        all_goals go_meet
        all_goals first
          | exact ⟨_, rfl, xvar_new HJ3.out, hB3.size, below_alloc hB3 (Nat.le_refl _)⟩
          | exact ⟨_, rfl, xvar_put hF3 HJ3.out, hB2.size, below_store hB3 hB2.size _ _⟩
          | exact ⟨_, rfl, xvar_put hF3 HJ3.out, hB1.size, below_store hB3 hB1.size _ _⟩
          | exact ⟨_, rfl, xvar_put hF3 HJ3.out, Nat.le_refl _, below_store hB3 (Nat.le_refl _) _ _⟩
      case rest => as_aux_lemma =>
        obtain ⟨r7, rfl, hxv, hr7, hbY⟩ := hcut
        obtain ⟨Y, hY⟩ : ∃ Y, Y = wc := ⟨_, rfl⟩
        subst hY
        obtain ⟨n7, o7, l7, c7, hx7, hi7, hf7⟩ := hxv
        have HI7 : Hid (IntAt Y n7 o7 l7 c7 ((R + 2 ^ k : Nat) : Int) ∧ Boxed Y r7 n7 o7 l7 c7) := ⟨hi7, hx7⟩
        have HY : Hid (RPow w Y g false ao len cap (A : Int) (R : Int)) := HS.out.1.later hbY
        have HBG : Hid (Boxed Y g n5 o5 l5 c5 ∧ ∀ j, Y.frozen? ⟨g, j, none⟩ = false) := ⟨HI.out.2.later hbY hgz, fun j => (hbY.frozen (p := ⟨g, j, none⟩) hgz).trans (hf5 j)⟩
        have HL7 : Hid ((mag (((R + 2 ^ k : Nat) : Int)).natAbs).length ≤ 1000) := by
          show _ ≤ _
          rw [Int.natAbs_natCast]
          have q1 := mag_len_add R (2 ^ k)
          have q2 := mag_len_two k
          have q3 := HI.out.1.row.hlen
          rw [Int.natAbs_natCast] at q3
          omega
        have hl7 : l7 ≤ 1000 := by rw [hi7.row.hlen]; exact HL7.out
        have KS : Hid (∀ w' : World, Below Y.heap.size Y w' → (Below Y.heap.size Y w' ∧ w'.cell? ⟨r7, 0, none⟩ = some (.bool n7) ∧ w'.cell? ⟨r7, 1, none⟩ = some (.slice o7 l7 c7) ∧ w'.cell? ⟨w.heap.size, 0, none⟩ = some (.bool false) ∧ w'.cell? ⟨w.heap.size, 1, none⟩ = some (.slice ao len cap))) := fun w' h => ⟨h, (HI7.out.2.later h HI7.out.2.lt').1, (HI7.out.2.later h HI7.out.2.lt').2, (HY.out.ba.later h HY.out.ba.lt').1, (HY.out.ba.later h HY.out.ba.lt').2⟩
        clear hx7 hi7 hf7 hbY
        go_upto_region 6 with fail
        obtain ⟨c, hc⟩ : ∃ c, cmpI ((((R + 2 ^ k : Nat) : Int)) ^ n) (A : Int) = c := ⟨_, rfl⟩
        by_cases hle : (R + 2 ^ k) ^ n ≤ A
        · have hc0 : c ≤ 0 := by rw [← hc, pow_cast]; unfold cmpI; split; omega; rw [if_neg (by omega)]; omega
          have HC : Hid (cmpI ((((R + 2 ^ k : Nat) : Int)) ^ n) (A : Int) = c) := hc
          have HLE : Hid ((R + 2 ^ k) ^ n ≤ A) := hle
          clear hc hle
          go_region_held3 (fun w' => (Below Y.heap.size Y w' ∧ w'.cell? ⟨r7, 0, none⟩ = some (.bool n7) ∧ w'.cell? ⟨r7, 1, none⟩ = some (.slice o7 l7 c7) ∧ w'.cell? ⟨w.heap.size, 0, none⟩ = some (.bool false) ∧ w'.cell? ⟨w.heap.size, 1, none⟩ = some (.slice ao len cap)))
            (first
              | exact KS.out _ (Below.refl _ _).drew
              | assumption
              | exact KS.out _ (by assumption))
            (first
              | (go_at_call 8; refine (rpow_any n7 o7 l7 c7 n ((R + 2 ^ k : Nat) : Int) _ (HI7.out.1.later (Below.refl _ _).drew) hl7 hn').mono ?_; rintro e y1 ⟨n8, o8, l8, c8, rfl, hi8, hb8⟩; have HI8 : Hid (IntAt y1 n8 o8 l8 c8 ((((R + 2 ^ k : Nat) : Int)) ^ n)) := hi8; have hl8 : l8 ≤ 100000 := (by rw [hi8.row.hlen]; refine Nat.le_trans (len_pow _ n) ?_; have h1 : (mag (((R + 2 ^ k : Nat) : Int)).natAbs).length * n ≤ 1000 * 64 := Nat.mul_le_mul HL7.out hn'; omega); have hB8 : Below Y.heap.size Y y1 := bnext (Below.refl _ _).drew hb8; clear hi8 hb8)
              | (go_at_call 27; refine (rcmp_any n8 false o8 ao l8 c8 len cap _ (A : Int) _ HI8.out (HY.out.ia.later hB8) (by omega) (by omega) c HC.out).mono ?_; rintro e y2 ⟨rfl, hb9⟩; have hB9 : Below Y.heap.size Y y2 := bnext hB8 hb9; clear hb9))
          obtain ⟨z0, z1⟩ := HI7.out.2.later hB9 HI7.out.2.lt'
          obtain ⟨x2, x3⟩ := HBG.out.1.later hB9 HY.out.gz
          have hfz : ∀ j, y2.frozen? ⟨g, j, none⟩ = false := fun j => (hB9.frozen (p := ⟨g, j, none⟩) HY.out.gz).trans (HBG.out.2 j)
          have HB9 : Hid (Below Y.heap.size Y y2) := hB9
          clear hB9 hB8
          go_wp2
          go_roundw
          case rel => exact ⟨k, R + 2 ^ k, by omega, by go_num, HS.out.2.yes HLE.out, HY.out.put HB9.out (HI7.out.1.later HB9.out)⟩
          case measure => simp [intOf]
        · have hc0 : ¬ c ≤ 0 := by rw [← hc, pow_cast, cmpI_gt (by omega)]; decide
          have hgt : A < (R + 2 ^ k) ^ n := by omega
          clear hle
          have HC : Hid (cmpI ((((R + 2 ^ k : Nat) : Int)) ^ n) (A : Int) = c) := hc
          have HLE : Hid (A < (R + 2 ^ k) ^ n) := hgt
          clear hc hgt
          go_region_held3 (fun w' => (Below Y.heap.size Y w' ∧ w'.cell? ⟨r7, 0, none⟩ = some (.bool n7) ∧ w'.cell? ⟨r7, 1, none⟩ = some (.slice o7 l7 c7) ∧ w'.cell? ⟨w.heap.size, 0, none⟩ = some (.bool false) ∧ w'.cell? ⟨w.heap.size, 1, none⟩ = some (.slice ao len cap)))
            (first
              | exact KS.out _ (Below.refl _ _).drew
              | assumption
              | exact KS.out _ (by assumption))
            (first
              | (go_at_call 8; refine (rpow_any n7 o7 l7 c7 n ((R + 2 ^ k : Nat) : Int) _ (HI7.out.1.later (Below.refl _ _).drew) hl7 hn').mono ?_; rintro e y1 ⟨n8, o8, l8, c8, rfl, hi8, hb8⟩; have HI8 : Hid (IntAt y1 n8 o8 l8 c8 ((((R + 2 ^ k : Nat) : Int)) ^ n)) := hi8; have hl8 : l8 ≤ 100000 := (by rw [hi8.row.hlen]; refine Nat.le_trans (len_pow _ n) ?_; have h1 : (mag (((R + 2 ^ k : Nat) : Int)).natAbs).length * n ≤ 1000 * 64 := Nat.mul_le_mul HL7.out hn'; omega); have hB8 : Below Y.heap.size Y y1 := bnext (Below.refl _ _).drew hb8; clear hi8 hb8)
              | (go_at_call 27; refine (rcmp_any n8 false o8 ao l8 c8 len cap _ (A : Int) _ HI8.out (HY.out.ia.later hB8) (by omega) (by omega) c HC.out).mono ?_; rintro e y2 ⟨rfl, hb9⟩; have hB9 : Below Y.heap.size Y y2 := bnext hB8 hb9; clear hb9))
          have HB9 : Hid (Below Y.heap.size Y y2) := hB9
          clear hB9 hB8
          go_wp2
          go_roundw
          case rel => exact ⟨k, R, by omega, by go_num, HS.out.2.no HLE.out, HY.out.later HB9.out⟩
          case measure => simp [intOf]
end Go.Proofs.Ytmjbmgjegiimfaa
