/-
  Walks: the page's rationals: From, Text, Parse. (gen/rpage.py)
-/
import Derived.Test.YtljmbnbilmghhaaGreatDoorRO
namespace Go.Proofs.YtljmbnbilmghhaaGreatDoor
open Go.RowKit
set_option linter.unusedVariables false
set_option linter.unusedSimpArgs false

/-- a number handed in, a rational to come -/
structure IR2 (w W : World) (na : Bool) (ao : Option Addr) (la ca : Nat) : Prop where
  eq : W = (w.alloc (.cells #[.bool na, .slice ao la ca] 26)).alloc (.cells #[.bool false, .slice none 0 0, .slice none 0 0] 28)
  below : Below w.heap.size w W
  size : W.heap.size = w.heap.size + 2
  a : Boxed W w.heap.size na ao la ca
  r : Fresh3 W (w.heap.size + 1)
theorem IR2.mk' (w : World) (na : Bool) (ao : Option Addr) (la ca : Nat) : ∃ W, IR2 w W na ao la ca :=
  ⟨_, rfl, ((Below.refl _ _).alloc (Nat.le_refl _) _).alloc (by simp) _, by simp, ⟨by simp [go_sem], by simp [go_sem]⟩, ⟨fun j => by simp [go_sem], by simp [go_sem], by simp [go_sem], by simp [go_sem]⟩⟩
set_option maxRecDepth 100000 in
set_option maxHeartbeats 2000000 in
theorem qfrom_any (na : Bool) (ao : Option Addr) (la ca : Nat) (zs : List Int) (w : World) (hx : RowAt w .u64 ao la ca zs) :
    Calls Tryz.prog 42 #[.agg #[.bool na, .slice ao la ca]] w fun e w' => ∃ bo lb cb, e = .returned (.agg #[.bool na, .slice ao la ca, .slice bo lb cb]) ∧ RowAt w' .u64 ao la ca zs ∧ Own w.heap.size w' .u64 66 bo lb cb (mag 1) ∧ Below w.heap.size w w' := by
  obtain ⟨W, hT⟩ := IR2.mk' w na ao la ca
  have hsz := hT.size
  have KW : Hid (∀ w' : World, Below W.heap.size W w' → w'.cell? ⟨w.heap.size, 0, none⟩ = some (.bool na) ∧ w'.cell? ⟨w.heap.size, 1, none⟩ = some (.slice ao la ca)) := fun w' h => ⟨(h.cell (p := ⟨w.heap.size, 0, none⟩) (by show w.heap.size < _; omega)).trans hT.a.1, (h.cell (p := ⟨w.heap.size, 1, none⟩) (by show w.heap.size < _; omega)).trans hT.a.2⟩
  have KS : Hid (∀ X : World, Below W.heap.size W X → ∀ x y z, (fun w' : World => w'.cell? ⟨w.heap.size, 0, none⟩ = some (.bool na) ∧ w'.cell? ⟨w.heap.size, 1, none⟩ = some (.slice ao la ca)) (((X.setCell ⟨w.heap.size + 1, 0, none⟩ x).setCell ⟨w.heap.size + 1, 1, none⟩ y).setCell ⟨w.heap.size + 1, 2, none⟩ z)) := fun X h x y z => by
    obtain ⟨h1, h2⟩ := KW.out X h
    (try dsimp only)
    rw [cell_off (by omega), cell_off (by omega), cell_off (by omega), cell_off (by omega), cell_off (by omega), cell_off (by omega)]
    exact ⟨h1, h2⟩
  have HF : Hid (Fresh3 W (w.heap.size + 1) ∧ Below w.heap.size w W ∧ RowAt w .u64 ao la ca zs) := ⟨hT.r, hT.below, hx⟩
  clear hx
  go_enter Tryz.func42, Tryz.ntmps42
  go_upto_region 1 with fail
  rw [← hT.eq]
  clear hT
  have hzU : W.heap.size ≤ W.drew.heap.size := Nat.le_refl _
  have S0 : Step8 0 := ⟨trivial⟩
  go_region_held3 (fun w' => (w'.cell? ⟨w.heap.size, 0, none⟩ = some (.bool na) ∧ w'.cell? ⟨w.heap.size, 1, none⟩ = some (.slice ao la ca)))
    (with_reducible (first | exact KS.out _ hbF1 _ _ _ | exact KW.out _ (Below.refl _ _).drew | exact KW.out _ (by assumption) | (refine KW.out _ ?_; (repeat (first | refine below_alloc ?_ (Nat.le_refl _) | refine Below.drew ?_ | refine below_set ?_ (by omega))); (first | exact hbF1 | exact Below.refl _ _))))
    (first
      | (have _t := S0; go_at_call 88; refine with_held (S := fun w9 => Below W.heap.size W w9) (by show Below _ _ _; with_reducible ((repeat (first | refine below_alloc ?_ (Nat.le_refl _) | refine Below.drew ?_ | refine below_set ?_ (by omega))); (first | exact hbF1 | exact Below.refl _ _))) (fun hS => ?_); refine (nof_at 1 1 _ rfl (by decide)).mono ?_; rintro e f1 ⟨o1, l1, c1, rfl, ho, hb⟩; have H1 : Hid (Own W.heap.size f1 .u64 66 o1 l1 c1 (mag 1) ∧ Below W.heap.size W f1) := ⟨ho.mono hS.size, bnext hS hb⟩; clear ho; obtain ⟨k5, k2, k3, k4⟩ := HF.out.1.later (bnext hS hb) (by omega); have hbF1 : Below W.heap.size W f1 := bnext hS hb; have hzF1 := hbF1.size; clear hS hb S0; skip))
  all_goals go_wp2
  have hs1 := H1.out.2.size
  exact bodyPost_ret (v := .agg #[.bool na, .slice ao la ca, .slice o1 l1 c1]) (by simp [results, Tryz.results42, go_sem, k2, k3, k4]) rfl
    ⟨_, _, _, rfl, HF.out.2.2.later (below_store3 (bnext HF.out.2.1 H1.out.2) (by omega) _ _ _), (H1.out.1.store3 (by omega) _ _ _).mono (by omega), below_store3 (bnext HF.out.2.1 H1.out.2) (by omega) _ _ _⟩
set_option maxRecDepth 100000 in
set_option maxHeartbeats 2000000 in
theorem qtext_any (na : Bool) (ao po : Option Addr) (la ca lp cp : Nat) (a : Rat) (w : World) (hx : RatAt w na ao la ca po lp cp a) (hl : la ≤ 1000) (hl' : lp ≤ 1000) :
    Calls Tryz.prog 56 #[.agg #[.bool na, .slice ao la ca, .slice po lp cp]] w fun e w' => e = .returned (.string (strOfNums (rnums a))) ∧ Below w.heap.size w w' := by
  obtain ⟨W, hT⟩ := ROne1.mk' w na ao po la ca lp cp
  have hsz := hT.size
  have HX : Hid (RatAt W na ao la ca po lp cp a) := hx.later hT.below
  obtain ⟨s, hs⟩ : ∃ s, strOfNums (itext a.num) = s := ⟨_, rfl⟩
  obtain ⟨t, ht⟩ : ∃ s, strOfNums (dnums a.den) = s := ⟨_, rfl⟩
  have HC1 : Hid (∀ X, Below W.heap.size W X → Calls Tryz.prog 103 #[.agg #[.bool na, .slice ao la ca]] X fun e w' => e = .returned (.string s) ∧ Below X.heap.size X w') := fun X h => by rw [← hs]; exact rtext_any na ao la ca a.num X (HX.out.num.later h) (by omega)
  have HC2 : Hid (∀ X, Below W.heap.size W X → Calls Tryz.prog 104 #[.slice po lp cp] X fun e w' => e = .returned (.string t) ∧ Below X.heap.size X w') := fun X h => by rw [← ht]; exact rntext_any po lp cp a.den X (HX.out.den.later h) (by omega)
  have HW : Hid (Below w.heap.size w W) := hT.below
  by_cases h1 : a.den = 1
  · have HD : Hid (decide (a.den = 1) = true) := decide_eq_true h1
    have HE : Hid (strOfNums (rnums a) = s) := by show _ = _; rw [← hs, rnums, if_pos h1]
    clear hx hs ht h1
    go_enter Tryz.func56, Tryz.ntmps56
    go_wp2_with (first
      | (go_at_call 35; rw [← hT.eq]; refine (isWhole_any na ao po la ca lp cp a.den _ HX.out.den true HD.out).mono ?_; rintro e w1 ⟨rfl, hb1⟩; obtain ⟨p0, p1, p2⟩ := hT.a.later hb1 (by omega))
      | (go_at_call 103; refine (HC1.out _ hb1).mono ?_; rintro e w3 ⟨rfl, hb3⟩))
    go_ret
    exact ⟨by rw [HE.out]; rfl, bnext HW.out (bnext hb1 hb3)⟩
  · have HD : Hid (decide (a.den = 1) = false) := decide_eq_false h1
    have hsz1 : s.size ≤ 20002 := by rw [← hs, strOfNums_size]; exact itext_len hx.num.row.hlen hl
    have hsz2 : t.size ≤ 20002 := by rw [← ht, strOfNums_size, ← itext_nat]; exact itext_len (by rw [Int.natAbs_natCast]; exact hx.den.hlen) hl'
    obtain ⟨u, hu⟩ : ∃ u : ByteArray, s ++ ⟨#[47]⟩ = u := ⟨_, rfl⟩
    obtain ⟨v, hv⟩ : ∃ v : ByteArray, u ++ t = v := ⟨_, rfl⟩
    have hsz3 : u.size = s.size + 1 := by rw [← hu, ByteArray.size_append]; rfl
    have hadd1 : ∀ X, Sem.run Tryz.prog (Op.stringOp .add s ⟨#[47]⟩) X = .ok (.string u) X := fun X => by rw [← hu]; exact run_string_add_sum X s ⟨#[47]⟩ (by show s.size + 1 ≤ _; omega)
    have hadd2 : ∀ X, Sem.run Tryz.prog (Op.stringOp .add u t) X = .ok (.string v) X := fun X => by rw [← hv]; exact run_string_add_sum X u t (by omega)
    have HE : Hid (v = strOfNums (rnums a)) := by show _ = _; rw [← hv, ← hu, ← hs, ← ht, ← itext_nat]; exact rnums_two h1
    clear hu hv hsz1 hsz2 hsz3
    have KW : Hid (∀ w' : World, Below W.heap.size W w' → (Below W.heap.size W w' ∧ w'.cell? ⟨w.heap.size, 0, none⟩ = some (.bool na) ∧ w'.cell? ⟨w.heap.size, 1, none⟩ = some (.slice ao la ca) ∧ w'.cell? ⟨w.heap.size, 2, none⟩ = some (.slice po lp cp))) := fun w' h => ⟨h, (h.cell (p := ⟨w.heap.size, 0, none⟩) (by show w.heap.size < _; omega)).trans hT.a.1, (h.cell (p := ⟨w.heap.size, 1, none⟩) (by show w.heap.size < _; omega)).trans hT.a.2.1, (h.cell (p := ⟨w.heap.size, 2, none⟩) (by show w.heap.size < _; omega)).trans hT.a.2.2⟩
    clear hx hs ht h1
    go_enter Tryz.func56, Tryz.ntmps56
    go_upto_region 3 with (first
      | (go_at_call 35; rw [← hT.eq]; refine (isWhole_any na ao po la ca lp cp a.den _ HX.out.den false HD.out).mono ?_; rintro e w1 ⟨rfl, hb1⟩; obtain ⟨p0, p1, p2⟩ := hT.a.later hb1 (by omega)))
    have KU : Hid (∀ w' : World, Below w1.heap.size w1 w' → (Below w1.heap.size w1 w' ∧ w'.cell? ⟨w.heap.size, 0, none⟩ = some (.bool na) ∧ w'.cell? ⟨w.heap.size, 1, none⟩ = some (.slice ao la ca) ∧ w'.cell? ⟨w.heap.size, 2, none⟩ = some (.slice po lp cp))) := fun w' h => ⟨h, (KW.out w' (bnext hb1 h)).2⟩
    have HB1 : Hid (Below W.heap.size W w1) := hb1
    clear p0 p1 p2 KW hb1 hT
    have hzU : w1.heap.size ≤ w1.drew.heap.size := Nat.le_refl _
    have S0 : Step8 0 := ⟨trivial⟩
    go_region_held3 (fun w' => (Below w1.heap.size w1 w' ∧ w'.cell? ⟨w.heap.size, 0, none⟩ = some (.bool na) ∧ w'.cell? ⟨w.heap.size, 1, none⟩ = some (.slice ao la ca) ∧ w'.cell? ⟨w.heap.size, 2, none⟩ = some (.slice po lp cp)))
      (with_reducible (first | exact KU.out _ (Below.refl _ _).drew | exact KU.out _ (by assumption) | (refine KU.out _ ?_; (repeat (first | refine below_alloc ?_ (Nat.le_refl _) | refine Below.drew ?_ | refine below_set ?_ (by omega))); (first | exact hbF2 | exact hbF1 | exact Below.refl _ _))))
      (first
        | (have _t := S0; go_at_call 103; refine with_held (S := fun w9 => Below w1.heap.size w1 w9) (by show Below _ _ _; with_reducible ((repeat (first | refine below_alloc ?_ (Nat.le_refl _) | refine Below.drew ?_ | refine below_set ?_ (by omega))); (first | exact hbF2 | exact hbF1 | exact Below.refl _ _))) (fun hS => ?_); refine (HC1.out _ (bnext HB1.out hS)).mono ?_; rintro e f1 ⟨rfl, hb⟩; skip; have hbF1 : Below w1.heap.size w1 f1 := bnext hS hb; have hzF1 := hbF1.size; clear hS hb S0; have S1 : Step8 1 := ⟨trivial⟩)
        | (have _t := S1; go_at_call 104; refine with_held (S := fun w9 => Below w1.heap.size w1 w9) (by show Below _ _ _; with_reducible ((repeat (first | refine below_alloc ?_ (Nat.le_refl _) | refine Below.drew ?_ | refine below_set ?_ (by omega))); (first | exact hbF2 | exact hbF1 | exact Below.refl _ _))) (fun hS => ?_); refine with_held (S := fun w9 => Below f1.heap.size f1 w9) (by show Below _ _ _; with_reducible ((repeat (refine below_alloc ?_ (Nat.le_refl _))); exact Below.refl _ _)) (fun hS2 => ?_); refine (HC2.out _ (bnext HB1.out hS)).mono ?_; rintro e f2 ⟨rfl, hb⟩; skip; have hbF2 : Below w1.heap.size w1 f2 := bnext hS hb; have hzF2 := hbF2.size; clear hS hb S1; clear hS2; skip))
    all_goals go_wp2
    all_goals go_ret
    all_goals exact ⟨by rw [← HE.out]; rfl, bnext HW.out (bnext HB1.out hbF2)⟩
theorem InVar2.new {W y : World} {n : Bool} {o : Option Addr} {l c : Nat} {v : Int} (hb : Below W.heap.size W y) (h : IntAt y n o l c v) : Hid (InVar (y.alloc (.cells #[.bool n, .slice o l c] 26)) y.heap.size n o l c v ∧ Below W.heap.size W (y.alloc (.cells #[.bool n, .slice o l c] 26)) ∧ Below y.heap.size y (y.alloc (.cells #[.bool n, .slice o l c] 26))) := by
  have h1 : Below y.heap.size y (y.alloc (.cells #[.bool n, .slice o l c] 26)) := (Below.refl _ _).alloc (Nat.le_refl _) _
  exact ⟨⟨⟨by simp [go_sem], by simp [go_sem]⟩, h.later h1, by simp⟩, below_alloc hb (Nat.le_refl _), h1⟩
theorem mayR_int (v : Int) (d : Nat) : mayR (sgB v) (mag v.natAbs) (mag d) = (decide (0 < d) && decide (Nat.gcd v.natAbs d = 1)) := by
  have h1 : mayB (sgB v) (mag v.natAbs) = true := may_int v
  have h2 : mayB false (mag d) = true := by have := may_int (d : Int); rwa [sgB_nat, Int.natAbs_natCast] at this
  have h3 : decide (0 < (mag d).length) = decide (0 < d) := by
    by_cases e : 0 < d
    · rw [decide_eq_true e, decide_eq_true (mag_len_pos.2 e)]
    · rw [decide_eq_false e, decide_eq_false (fun h => e (mag_len_pos.1 h))]
  unfold mayR
  rw [h1, h2, h3, mag_val, mag_val, Int.natAbs_natCast, Int.natAbs_natCast, Bool.true_and, Bool.true_and]
set_option maxRecDepth 100000 in
set_option maxHeartbeats 2000000 in
theorem qparse_bad1 (s x : ByteArray) (n : Nat) (w : World) (hle : n ≤ s.size) (hsz0 : s.size ≤ 9223372036854775807) (hbar : ∀ j, j < n → byteAt s j ≠ 47) (hcase : n = s.size ∨ (n < s.size ∧ byteAt s n = 47)) (hx : s.extract 0 n = x) (hr : PageRefuses x) :
    Calls Tryz.prog 57 #[.string s] w fun e w' => RawOut w w' e (.int .i64 24) false [] [] := by
  obtain ⟨W, hT⟩ := R1.mk' w
  have hsz := hT.size
  have HR : Hid (PageRefuses x) := hr
  have c1 : (0 : Int) ≤ ↑n := by omega
  have c2 : (↑n : Int) ≤ ↑s.size := by omega
  clear hr
  go_enter Tryz.func57, Tryz.ntmps57
  go_wp2
  rw [← hT.eq]
  go_loopw [4] (fun i wr => ∃ k : Nat, k ≤ n ∧ i = .int .i64 k ∧ wr = W) (fun i _ => n - (intOf i).toNat)
  case atStart => exact ⟨0, Nat.zero_le _, rfl, rfl⟩
  case round =>
    obtain ⟨k, hk, rfl, hw⟩ := hrel
    subst hw
    by_cases hlt : k < n
    · as_aux_lemma =>
      have hks : k < s.size := by omega
      have hx1 : ((s[k].toNat : Int) == 47) = false := by have := hbar k hlt; rw [byteAt_of hks] at this; simp; omega
      go_wp2
      go_roundw
      case rel => exact ⟨k + 1, by omega, by go_num, by first | rfl | trivial⟩
      case measure => simp [intOf]; omega
    · obtain rfl : k = n := by omega
      rcases hcase with hc | ⟨hc, hc2⟩
      · as_aux_lemma =>
        have hkk2 : ¬ (k : Int) < (s.size : Int) := by omega
        clear hc
        go_wp2_with (first
          | (go_at_call 105; refine (HR.out _).mono ?_; rintro e y2 ⟨rfl, hb2⟩; obtain ⟨k5, k2, k3, k4⟩ := hT.r.later (hb2) (by omega); have hltr : w.heap.size < y2.heap.size := (by have := hb2.size; omega); have hner : w.heap.size ≠ y2.heap.size := (by omega)))
        exact bodyPost_ret (v := .tuple #[.agg #[.bool false, .slice none 0 0, .slice none 0 0], .int .i64 24]) (by simp [results, Tryz.results57, go_sem, k2, k3, k4, hltr, hner]) rfl
          ⟨_, _, _, _, _, _, rfl, RowAt.nilRow _ _, RowAt.nilRow _ _, below_alloc (below_store3 (bnext hT.below hb2) (Nat.le_refl _) _ _ _) (Nat.le_refl _)⟩
      · as_aux_lemma =>
        have hx1 : ((s[k].toNat : Int) == 47) = true := by rw [byteAt_of hc] at hc2; simp; omega
        go_wp2_with (first
          | (go_at_call 105; refine (HR.out _).mono ?_; rintro e y2 ⟨rfl, hb2⟩; obtain ⟨k5, k2, k3, k4⟩ := hT.r.later (hb2) (by omega); have hltr : w.heap.size < y2.heap.size := (by have := hb2.size; omega); have hner : w.heap.size ≠ y2.heap.size := (by omega)))
        exact bodyPost_ret (v := .tuple #[.agg #[.bool false, .slice none 0 0, .slice none 0 0], .int .i64 24]) (by simp [results, Tryz.results57, go_sem, k2, k3, k4, hltr, hner]) rfl
          ⟨_, _, _, _, _, _, rfl, RowAt.nilRow _ _, RowAt.nilRow _ _, below_alloc (below_store3 (bnext hT.below hb2) (Nat.le_refl _) _ _ _) (Nat.le_refl _)⟩
set_option maxRecDepth 100000 in
set_option maxHeartbeats 2000000 in
theorem qparse_one (s x : ByteArray) (n : Nat) (v : Int) (w : World) (hle : n ≤ s.size) (hsz0 : s.size ≤ 9223372036854775807) (hbar : ∀ j, j < n → byteAt s j ≠ 47) (hcase : n = s.size) (hx : s.extract 0 n = x) (hr : PageReads x v) (hl : (mag v.natAbs).length ≤ 1024) :
    Calls Tryz.prog 57 #[.string s] w fun e w' => RawOut w w' e (.int .i64 0) (sgB v) (mag v.natAbs) (mag 1) := by
  obtain ⟨W, hT⟩ := R1.mk' w
  have hsz := hT.size
  have HR : Hid (PageReads x v ∧ True) := ⟨hr, trivial⟩
  have HL : Hid ((mag v.natAbs).length ≤ 1024 ∧ True) := ⟨hl, trivial⟩
  have c1 : (0 : Int) ≤ ↑n := by omega
  have c2 : (↑n : Int) ≤ ↑s.size := by omega
  clear hr hl
  go_enter Tryz.func57, Tryz.ntmps57
  go_wp2
  rw [← hT.eq]
  go_loopw [4] (fun i wr => ∃ k : Nat, k ≤ n ∧ i = .int .i64 k ∧ wr = W) (fun i _ => n - (intOf i).toNat)
  case atStart => exact ⟨0, Nat.zero_le _, rfl, rfl⟩
  case round =>
    obtain ⟨k, hk, rfl, hw⟩ := hrel
    subst hw
    by_cases hlt : k < n
    · as_aux_lemma =>
      have hks : k < s.size := by omega
      have hx1 : ((s[k].toNat : Int) == 47) = false := by have := hbar k hlt; rw [byteAt_of hks] at this; simp; omega
      go_wp2
      go_roundw
      case rel => exact ⟨k + 1, by omega, by go_num, by first | rfl | trivial⟩
      case measure => simp [intOf]; omega
    · obtain rfl : k = n := by omega
      have hkk2 : ¬ (k : Int) < (s.size : Int) := by omega
      have hkk3 : ((k : Int) == (s.size : Int)) = true := by simp; omega
      clear hcase
      go_wp2_with (first
        | (go_at_call 105; refine (HR.out.1 _).mono ?_; rintro e y2 ⟨n2, o2, l2, c2, rfl, hi2, hb2⟩; have H2 : Hid (IntAt y2 n2 o2 l2 c2 v ∧ Below wr.heap.size wr y2) := ⟨hi2, hb2⟩; have hl2 : l2 ≤ 1024 := (by rw [hi2.row.hlen]; exact HL.out.1); clear hi2 hb2; have HB2 := InVar2.new H2.out.2 H2.out.1)
        | (go_at_call 42; refine (qfrom_any n2 o2 l2 c2 (mag v.natAbs) _ HB2.out.1.int.row).mono ?_; rintro e y3 ⟨bo, lb, cb, rfl, hr3, ho3, hb3⟩; have H3 : Hid (RowAt y3 .u64 o2 l2 c2 (mag v.natAbs) ∧ RowAt y3 .u64 bo lb cb (mag 1) ∧ Below wr.heap.size wr y3 ∧ n2 = sgB v) := ⟨hr3, ho3.row, bnext HB2.out.2.1 hb3, HB2.out.1.int.sg⟩; clear hr3 ho3 hb3; obtain ⟨k5, k2, k3, k4⟩ := hT.r.later (H3.out.2.2.1) (by omega); skip))
      exact bodyPost_ret (v := .tuple #[.agg #[.bool n2, .slice o2 l2 c2, .slice bo lb cb], .int .i64 0]) (by simp [results, Tryz.results57, go_sem, k2, k3, k4]) rfl
        ⟨_, _, _, _, _, _, by rw [H3.out.2.2.2], row_kept3 H3.out.1 ⟨k2, k3, k4⟩, row_kept3 H3.out.2.1 ⟨k2, k3, k4⟩, below_store3 (bnext hT.below H3.out.2.2.1) (Nat.le_refl _) _ _ _⟩
theorem wrap64_of {x : Int} (h : -9223372036854775808 ≤ x ∧ x ≤ 9223372036854775807) : wrap64 x = x := by unfold wrap64; omega
set_option maxRecDepth 100000 in
set_option maxHeartbeats 2000000 in
theorem qparse_bad2 (s x y : ByteArray) (n : Nat) (v : Int) (w : World) (hle : n ≤ s.size) (hsz0 : s.size ≤ 9223372036854775807) (hbar : ∀ j, j < n → byteAt s j ≠ 47) (hc : n < s.size) (hc2 : byteAt s n = 47) (hx : s.extract 0 n = x) (hy : s.extract (n + 1) s.size = y) (hr : PageReads x v) (hr2 : PageNoDigits y) (hl : (mag v.natAbs).length ≤ 1024) :
    Calls Tryz.prog 57 #[.string s] w fun e w' => RawOut w w' e (.int .i64 24) false [] [] := by
  obtain ⟨W, hT⟩ := R1.mk' w
  have hsz := hT.size
  have HR : Hid (PageReads x v ∧ PageNoDigits y) := ⟨hr, hr2⟩
  have HL : Hid ((mag v.natAbs).length ≤ 1024 ∧ True) := ⟨hl, trivial⟩
  have c1 : (0 : Int) ≤ ↑n := by omega
  have c2 : (↑n : Int) ≤ ↑s.size := by omega
  clear hr hr2 hl
  go_enter Tryz.func57, Tryz.ntmps57
  go_wp2
  rw [← hT.eq]
  go_loopw [4] (fun i wr => ∃ k : Nat, k ≤ n ∧ i = .int .i64 k ∧ wr = W) (fun i _ => n - (intOf i).toNat)
  case atStart => exact ⟨0, Nat.zero_le _, rfl, rfl⟩
  case round =>
    obtain ⟨k, hk, rfl, hw⟩ := hrel
    subst hw
    by_cases hlt : k < n
    · as_aux_lemma =>
      have hks : k < s.size := by omega
      have hx1 : ((s[k].toNat : Int) == 47) = false := by have := hbar k hlt; rw [byteAt_of hks] at this; simp; omega
      go_wp2
      go_roundw
      case rel => exact ⟨k + 1, by omega, by go_num, by first | rfl | trivial⟩
      case measure => simp [intOf]; omega
    · obtain rfl : k = n := by omega
      have hx1 : ((s[k].toNat : Int) == 47) = true := by rw [byteAt_of hc] at hc2; simp; omega
      have hkk3 : ((k : Int) == (s.size : Int)) = false := by simp; omega
      have c3 : (0 : Int) ≤ ↑k + 1 := by omega
      have c4 : (↑k + 1 : Int) ≤ ↑s.size := by omega
      have c5 : wrap64 ((k : Int) + 1) = (k : Int) + 1 := wrap64_of (by omega)
      have c6 : ((k : Int) + 1).toNat = k + 1 := by omega
      go_wp2_with (first
        | (go_at_call 105; refine (HR.out.1 _).mono ?_; rintro e y2 ⟨n2, o2, l2, c2, rfl, hi2, hb2⟩; have H2 : Hid (IntAt y2 n2 o2 l2 c2 v ∧ Below wr.heap.size wr y2) := ⟨hi2, hb2⟩; have hl2 : l2 ≤ 1024 := (by rw [hi2.row.hlen]; exact HL.out.1); clear hi2 hb2; have HB2 := InVar2.new H2.out.2 H2.out.1)
        | (go_at_call 106; refine (HR.out.2 _).mono ?_; rintro e y3 ⟨rfl, hb3⟩; have hB3 : Below wr.heap.size wr y3 := bnext HB2.out.2.1 hb3; obtain ⟨v0, v1⟩ := (HB2.out.1.later hb3).box; have hz3 := (HB2.out.1.later hb3).lt; obtain ⟨k5, k2, k3, k4⟩ := hT.r.later (hB3) (by omega); have hltr : w.heap.size < y3.heap.size := (by have := hB3.size; omega); have hner : w.heap.size ≠ y3.heap.size := (by omega)))
      exact bodyPost_ret (v := .tuple #[.agg #[.bool false, .slice none 0 0, .slice none 0 0], .int .i64 24]) (by simp [results, Tryz.results57, go_sem, k2, k3, k4, hltr, hner]) rfl
        ⟨_, _, _, _, _, _, rfl, RowAt.nilRow _ _, RowAt.nilRow _ _, below_alloc (below_store3 (bnext hT.below hB3) (Nat.le_refl _) _ _ _) (Nat.le_refl _)⟩
set_option maxRecDepth 100000 in
set_option maxHeartbeats 2000000 in
theorem qparse_bad3 (s x y : ByteArray) (n : Nat) (v : Int) (d : Nat) (w : World) (hle : n ≤ s.size) (hsz0 : s.size ≤ 9223372036854775807) (hbar : ∀ j, j < n → byteAt s j ≠ 47) (hc : n < s.size) (hc2 : byteAt s n = 47) (hx : s.extract 0 n = x) (hy : s.extract (n + 1) s.size = y) (hr : PageReads x v) (hr2 : PageDigits y d) (hl : (mag v.natAbs).length ≤ 1024) (hld : (mag d).length ≤ 1024) (hm : (decide (0 < d) && decide (Nat.gcd v.natAbs d = 1)) = false) :
    Calls Tryz.prog 57 #[.string s] w fun e w' => RawOut w w' e (.int .i64 24) false [] [] := by
  obtain ⟨W, hT⟩ := R1.mk' w
  have hsz := hT.size
  have HR : Hid (PageReads x v ∧ PageDigits y d) := ⟨hr, hr2⟩
  have HL : Hid ((mag v.natAbs).length ≤ 1024 ∧ (mag d).length ≤ 1024) := ⟨hl, hld⟩
  clear hld
  have HM : Hid (mayR (sgB v) (mag v.natAbs) (mag d) = false) := (mayR_int v d).trans hm
  clear hm
  have c1 : (0 : Int) ≤ ↑n := by omega
  have c2 : (↑n : Int) ≤ ↑s.size := by omega
  clear hr hr2 hl
  go_enter Tryz.func57, Tryz.ntmps57
  go_wp2
  rw [← hT.eq]
  go_loopw [4] (fun i wr => ∃ k : Nat, k ≤ n ∧ i = .int .i64 k ∧ wr = W) (fun i _ => n - (intOf i).toNat)
  case atStart => exact ⟨0, Nat.zero_le _, rfl, rfl⟩
  case round =>
    obtain ⟨k, hk, rfl, hw⟩ := hrel
    subst hw
    by_cases hlt : k < n
    · as_aux_lemma =>
      have hks : k < s.size := by omega
      have hx1 : ((s[k].toNat : Int) == 47) = false := by have := hbar k hlt; rw [byteAt_of hks] at this; simp; omega
      go_wp2
      go_roundw
      case rel => exact ⟨k + 1, by omega, by go_num, by first | rfl | trivial⟩
      case measure => simp [intOf]; omega
    · obtain rfl : k = n := by omega
      have hx1 : ((s[k].toNat : Int) == 47) = true := by rw [byteAt_of hc] at hc2; simp; omega
      have hkk3 : ((k : Int) == (s.size : Int)) = false := by simp; omega
      have c3 : (0 : Int) ≤ ↑k + 1 := by omega
      have c4 : (↑k + 1 : Int) ≤ ↑s.size := by omega
      have c5 : wrap64 ((k : Int) + 1) = (k : Int) + 1 := wrap64_of (by omega)
      have c6 : ((k : Int) + 1).toNat = k + 1 := by omega
      go_wp2_with (first
        | (go_at_call 105; refine (HR.out.1 _).mono ?_; rintro e y2 ⟨n2, o2, l2, c2, rfl, hi2, hb2⟩; have H2 : Hid (IntAt y2 n2 o2 l2 c2 v ∧ Below wr.heap.size wr y2) := ⟨hi2, hb2⟩; have hl2 : l2 ≤ 1024 := (by rw [hi2.row.hlen]; exact HL.out.1); clear hi2 hb2; have HB2 := InVar2.new H2.out.2 H2.out.1)
        | (go_at_call 106; refine (HR.out.2 _).mono ?_; rintro e y3 ⟨o3, l3, c3', rfl, hr3, hb3⟩; have H3 : Hid (IntAt y3 n2 o2 l2 c2 v ∧ RowAt y3 .u64 o3 l3 c3' (mag d) ∧ Below wr.heap.size wr y3) := ⟨(HB2.out.1.later hb3).int, hr3, bnext HB2.out.2.1 hb3⟩; obtain ⟨v0, v1⟩ := (HB2.out.1.later hb3).box; have hz3 := (HB2.out.1.later hb3).lt; have hl3 : l3 ≤ 1024 := (by rw [hr3.hlen]; exact HL.out.2); clear hr3 hb3; have HA : Hid (Boxed3 (y3.alloc (.cells #[.bool n2, .slice o2 l2 c2, .slice o3 l3 c3'] 28)) y3.heap.size n2 o2 l2 c2 o3 l3 c3' ∧ Below y3.heap.size y3 (y3.alloc (.cells #[.bool n2, .slice o2 l2 c2, .slice o3 l3 c3'] 28))) := ⟨⟨by simp [go_sem], by simp [go_sem], by simp [go_sem]⟩, (Below.refl _ _).alloc (Nat.le_refl _) _⟩)
        | (go_at_call 24; refine (qmay_any n2 o2 o3 l2 c2 l3 c3' (mag v.natAbs) (mag d) _ (H3.out.1.row.later HA.out.2) (mag_wd _) (H3.out.2.1.later HA.out.2) (mag_wd _) (by omega) (by omega) false (by rw [H3.out.1.sg]; exact HM.out)).mono ?_; rintro e y4 ⟨rfl, hb4⟩; have H4 : Hid (Below wr.heap.size wr y4 ∧ Boxed3 y4 y3.heap.size n2 o2 l2 c2 o3 l3 c3' ∧ RowAt y4 .u64 o2 l2 c2 (mag v.natAbs) ∧ RowAt y4 .u64 o3 l3 c3' (mag d) ∧ y3.heap.size < y4.heap.size) := ⟨bnext (bnext H3.out.2.2 HA.out.2) hb4, HA.out.1.later hb4 (by simp), (H3.out.1.row.later HA.out.2).later hb4, (H3.out.2.1.later HA.out.2).later hb4, (by have := hb4.size; simp at this; omega)⟩; clear hb4; obtain ⟨a0, a1, a2⟩ := H4.out.2.1; obtain ⟨k5, k2, k3, k4⟩ := hT.r.later (H4.out.1) (by omega); skip))
      exact bodyPost_ret (v := .tuple #[.agg #[.bool false, .slice none 0 0, .slice none 0 0], .int .i64 24]) (by simp [results, Tryz.results57, go_sem, k2, k3, k4]) rfl
        ⟨_, _, _, _, _, _, rfl, RowAt.nilRow _ _, RowAt.nilRow _ _, below_store3 (bnext hT.below H4.out.1) (Nat.le_refl _) _ _ _⟩
set_option maxRecDepth 100000 in
set_option maxHeartbeats 2000000 in
theorem qparse_bad4 (s x y : ByteArray) (n : Nat) (v : Int) (d : Nat) (w : World) (hle : n ≤ s.size) (hsz0 : s.size ≤ 9223372036854775807) (hbar : ∀ j, j < n → byteAt s j ≠ 47) (hc : n < s.size) (hc2 : byteAt s n = 47) (hx : s.extract 0 n = x) (hy : s.extract (n + 1) s.size = y) (hr : PageReads x v) (hr2 : PageDigits y d) (hl : (mag v.natAbs).length ≤ 1024) (hld : (mag d).length ≤ 1024) (hd : d = 1) :
    Calls Tryz.prog 57 #[.string s] w fun e w' => RawOut w w' e (.int .i64 24) false [] [] := by
  obtain ⟨W, hT⟩ := R1.mk' w
  have hsz := hT.size
  have HR : Hid (PageReads x v ∧ PageDigits y d) := ⟨hr, hr2⟩
  have HL : Hid ((mag v.natAbs).length ≤ 1024 ∧ (mag d).length ≤ 1024) := ⟨hl, hld⟩
  clear hld
  have HM : Hid (mayR (sgB v) (mag v.natAbs) (mag d) = true) := (mayR_int v d).trans (by rw [hd]; simp)
  have HD : Hid (decide (d = 1) = true) := decide_eq_true hd
  clear hd
  have c1 : (0 : Int) ≤ ↑n := by omega
  have c2 : (↑n : Int) ≤ ↑s.size := by omega
  clear hr hr2 hl
  go_enter Tryz.func57, Tryz.ntmps57
  go_wp2
  rw [← hT.eq]
  go_loopw [4] (fun i wr => ∃ k : Nat, k ≤ n ∧ i = .int .i64 k ∧ wr = W) (fun i _ => n - (intOf i).toNat)
  case atStart => exact ⟨0, Nat.zero_le _, rfl, rfl⟩
  case round =>
    obtain ⟨k, hk, rfl, hw⟩ := hrel
    subst hw
    by_cases hlt : k < n
    · as_aux_lemma =>
      have hks : k < s.size := by omega
      have hx1 : ((s[k].toNat : Int) == 47) = false := by have := hbar k hlt; rw [byteAt_of hks] at this; simp; omega
      go_wp2
      go_roundw
      case rel => exact ⟨k + 1, by omega, by go_num, by first | rfl | trivial⟩
      case measure => simp [intOf]; omega
    · obtain rfl : k = n := by omega
      have hx1 : ((s[k].toNat : Int) == 47) = true := by rw [byteAt_of hc] at hc2; simp; omega
      have hkk3 : ((k : Int) == (s.size : Int)) = false := by simp; omega
      have c3 : (0 : Int) ≤ ↑k + 1 := by omega
      have c4 : (↑k + 1 : Int) ≤ ↑s.size := by omega
      have c5 : wrap64 ((k : Int) + 1) = (k : Int) + 1 := wrap64_of (by omega)
      have c6 : ((k : Int) + 1).toNat = k + 1 := by omega
      go_wp2_with (first
        | (go_at_call 105; refine (HR.out.1 _).mono ?_; rintro e y2 ⟨n2, o2, l2, c2, rfl, hi2, hb2⟩; have H2 : Hid (IntAt y2 n2 o2 l2 c2 v ∧ Below wr.heap.size wr y2) := ⟨hi2, hb2⟩; have hl2 : l2 ≤ 1024 := (by rw [hi2.row.hlen]; exact HL.out.1); clear hi2 hb2; have HB2 := InVar2.new H2.out.2 H2.out.1)
        | (go_at_call 106; refine (HR.out.2 _).mono ?_; rintro e y3 ⟨o3, l3, c3', rfl, hr3, hb3⟩; have H3 : Hid (IntAt y3 n2 o2 l2 c2 v ∧ RowAt y3 .u64 o3 l3 c3' (mag d) ∧ Below wr.heap.size wr y3) := ⟨(HB2.out.1.later hb3).int, hr3, bnext HB2.out.2.1 hb3⟩; obtain ⟨v0, v1⟩ := (HB2.out.1.later hb3).box; have hz3 := (HB2.out.1.later hb3).lt; have hl3 : l3 ≤ 1024 := (by rw [hr3.hlen]; exact HL.out.2); clear hr3 hb3; have HA : Hid (Boxed3 (y3.alloc (.cells #[.bool n2, .slice o2 l2 c2, .slice o3 l3 c3'] 28)) y3.heap.size n2 o2 l2 c2 o3 l3 c3' ∧ Below y3.heap.size y3 (y3.alloc (.cells #[.bool n2, .slice o2 l2 c2, .slice o3 l3 c3'] 28))) := ⟨⟨by simp [go_sem], by simp [go_sem], by simp [go_sem]⟩, (Below.refl _ _).alloc (Nat.le_refl _) _⟩)
        | (go_at_call 24; refine (qmay_any n2 o2 o3 l2 c2 l3 c3' (mag v.natAbs) (mag d) _ (H3.out.1.row.later HA.out.2) (mag_wd _) (H3.out.2.1.later HA.out.2) (mag_wd _) (by omega) (by omega) true (by rw [H3.out.1.sg]; exact HM.out)).mono ?_; rintro e y4 ⟨rfl, hb4⟩; have H4 : Hid (Below wr.heap.size wr y4 ∧ Boxed3 y4 y3.heap.size n2 o2 l2 c2 o3 l3 c3' ∧ RowAt y4 .u64 o2 l2 c2 (mag v.natAbs) ∧ RowAt y4 .u64 o3 l3 c3' (mag d) ∧ y3.heap.size < y4.heap.size) := ⟨bnext (bnext H3.out.2.2 HA.out.2) hb4, HA.out.1.later hb4 (by simp), (H3.out.1.row.later HA.out.2).later hb4, (H3.out.2.1.later HA.out.2).later hb4, (by have := hb4.size; simp at this; omega)⟩; clear hb4; obtain ⟨a0, a1, a2⟩ := H4.out.2.1; obtain ⟨k5, k2, k3, k4⟩ := hT.r.later (H4.out.1) (by omega); skip)
        | (go_at_call 35; refine (isWhole_any n2 o2 o3 l2 c2 l3 c3' d _ H4.out.2.2.2.1 true HD.out).mono ?_; rintro e y5 ⟨rfl, hb5⟩; have H5 : Hid (Below wr.heap.size wr y5 ∧ Boxed3 y5 y3.heap.size n2 o2 l2 c2 o3 l3 c3' ∧ RowAt y5 .u64 o2 l2 c2 (mag v.natAbs) ∧ RowAt y5 .u64 o3 l3 c3' (mag d)) := ⟨bnext H4.out.1 hb5, H4.out.2.1.later hb5 H4.out.2.2.2.2, H4.out.2.2.1.later hb5, H4.out.2.2.2.1.later hb5⟩; clear hb5 a0 a1 a2 k5 k2 k3 k4; obtain ⟨a0, a1, a2⟩ := H5.out.2.1; obtain ⟨k5, k2, k3, k4⟩ := hT.r.later (H5.out.1) (by omega); skip))
      exact bodyPost_ret (v := .tuple #[.agg #[.bool false, .slice none 0 0, .slice none 0 0], .int .i64 24]) (by simp [results, Tryz.results57, go_sem, k2, k3, k4]) rfl
        ⟨_, _, _, _, _, _, rfl, RowAt.nilRow _ _, RowAt.nilRow _ _, below_store3 (bnext hT.below H5.out.1) (Nat.le_refl _) _ _ _⟩
set_option maxRecDepth 100000 in
set_option maxHeartbeats 2000000 in
theorem qparse_two (s x y : ByteArray) (n : Nat) (v : Int) (d : Nat) (w : World) (hle : n ≤ s.size) (hsz0 : s.size ≤ 9223372036854775807) (hbar : ∀ j, j < n → byteAt s j ≠ 47) (hc : n < s.size) (hc2 : byteAt s n = 47) (hx : s.extract 0 n = x) (hy : s.extract (n + 1) s.size = y) (hr : PageReads x v) (hr2 : PageDigits y d) (hl : (mag v.natAbs).length ≤ 1024) (hld : (mag d).length ≤ 1024) (hm : (decide (0 < d) && decide (Nat.gcd v.natAbs d = 1)) = true) (hd : d ≠ 1) :
    Calls Tryz.prog 57 #[.string s] w fun e w' => RawOut w w' e (.int .i64 0) (sgB v) (mag v.natAbs) (mag d) := by
  obtain ⟨W, hT⟩ := R1.mk' w
  have hsz := hT.size
  have HR : Hid (PageReads x v ∧ PageDigits y d) := ⟨hr, hr2⟩
  have HL : Hid ((mag v.natAbs).length ≤ 1024 ∧ (mag d).length ≤ 1024) := ⟨hl, hld⟩
  clear hld
  have HM : Hid (mayR (sgB v) (mag v.natAbs) (mag d) = true) := (mayR_int v d).trans hm
  have HD : Hid (decide (d = 1) = false) := decide_eq_false hd
  clear hd hm
  have c1 : (0 : Int) ≤ ↑n := by omega
  have c2 : (↑n : Int) ≤ ↑s.size := by omega
  clear hr hr2 hl
  go_enter Tryz.func57, Tryz.ntmps57
  go_wp2
  rw [← hT.eq]
  go_loopw [4] (fun i wr => ∃ k : Nat, k ≤ n ∧ i = .int .i64 k ∧ wr = W) (fun i _ => n - (intOf i).toNat)
  case atStart => exact ⟨0, Nat.zero_le _, rfl, rfl⟩
  case round =>
    obtain ⟨k, hk, rfl, hw⟩ := hrel
    subst hw
    by_cases hlt : k < n
    · as_aux_lemma =>
      have hks : k < s.size := by omega
      have hx1 : ((s[k].toNat : Int) == 47) = false := by have := hbar k hlt; rw [byteAt_of hks] at this; simp; omega
      go_wp2
      go_roundw
      case rel => exact ⟨k + 1, by omega, by go_num, by first | rfl | trivial⟩
      case measure => simp [intOf]; omega
    · obtain rfl : k = n := by omega
      have hx1 : ((s[k].toNat : Int) == 47) = true := by rw [byteAt_of hc] at hc2; simp; omega
      have hkk3 : ((k : Int) == (s.size : Int)) = false := by simp; omega
      have c3 : (0 : Int) ≤ ↑k + 1 := by omega
      have c4 : (↑k + 1 : Int) ≤ ↑s.size := by omega
      have c5 : wrap64 ((k : Int) + 1) = (k : Int) + 1 := wrap64_of (by omega)
      have c6 : ((k : Int) + 1).toNat = k + 1 := by omega
      go_wp2_with (first
        | (go_at_call 105; refine (HR.out.1 _).mono ?_; rintro e y2 ⟨n2, o2, l2, c2, rfl, hi2, hb2⟩; have H2 : Hid (IntAt y2 n2 o2 l2 c2 v ∧ Below wr.heap.size wr y2) := ⟨hi2, hb2⟩; have hl2 : l2 ≤ 1024 := (by rw [hi2.row.hlen]; exact HL.out.1); clear hi2 hb2; have HB2 := InVar2.new H2.out.2 H2.out.1)
        | (go_at_call 106; refine (HR.out.2 _).mono ?_; rintro e y3 ⟨o3, l3, c3', rfl, hr3, hb3⟩; have H3 : Hid (IntAt y3 n2 o2 l2 c2 v ∧ RowAt y3 .u64 o3 l3 c3' (mag d) ∧ Below wr.heap.size wr y3) := ⟨(HB2.out.1.later hb3).int, hr3, bnext HB2.out.2.1 hb3⟩; obtain ⟨v0, v1⟩ := (HB2.out.1.later hb3).box; have hz3 := (HB2.out.1.later hb3).lt; have hl3 : l3 ≤ 1024 := (by rw [hr3.hlen]; exact HL.out.2); clear hr3 hb3; have HA : Hid (Boxed3 (y3.alloc (.cells #[.bool n2, .slice o2 l2 c2, .slice o3 l3 c3'] 28)) y3.heap.size n2 o2 l2 c2 o3 l3 c3' ∧ Below y3.heap.size y3 (y3.alloc (.cells #[.bool n2, .slice o2 l2 c2, .slice o3 l3 c3'] 28))) := ⟨⟨by simp [go_sem], by simp [go_sem], by simp [go_sem]⟩, (Below.refl _ _).alloc (Nat.le_refl _) _⟩)
        | (go_at_call 24; refine (qmay_any n2 o2 o3 l2 c2 l3 c3' (mag v.natAbs) (mag d) _ (H3.out.1.row.later HA.out.2) (mag_wd _) (H3.out.2.1.later HA.out.2) (mag_wd _) (by omega) (by omega) true (by rw [H3.out.1.sg]; exact HM.out)).mono ?_; rintro e y4 ⟨rfl, hb4⟩; have H4 : Hid (Below wr.heap.size wr y4 ∧ Boxed3 y4 y3.heap.size n2 o2 l2 c2 o3 l3 c3' ∧ RowAt y4 .u64 o2 l2 c2 (mag v.natAbs) ∧ RowAt y4 .u64 o3 l3 c3' (mag d) ∧ y3.heap.size < y4.heap.size) := ⟨bnext (bnext H3.out.2.2 HA.out.2) hb4, HA.out.1.later hb4 (by simp), (H3.out.1.row.later HA.out.2).later hb4, (H3.out.2.1.later HA.out.2).later hb4, (by have := hb4.size; simp at this; omega)⟩; clear hb4; obtain ⟨a0, a1, a2⟩ := H4.out.2.1; obtain ⟨k5, k2, k3, k4⟩ := hT.r.later (H4.out.1) (by omega); skip)
        | (go_at_call 35; refine (isWhole_any n2 o2 o3 l2 c2 l3 c3' d _ H4.out.2.2.2.1 false HD.out).mono ?_; rintro e y5 ⟨rfl, hb5⟩; have H5 : Hid (Below wr.heap.size wr y5 ∧ Boxed3 y5 y3.heap.size n2 o2 l2 c2 o3 l3 c3' ∧ RowAt y5 .u64 o2 l2 c2 (mag v.natAbs) ∧ RowAt y5 .u64 o3 l3 c3' (mag d)) := ⟨bnext H4.out.1 hb5, H4.out.2.1.later hb5 H4.out.2.2.2.2, H4.out.2.2.1.later hb5, H4.out.2.2.2.1.later hb5⟩; clear hb5 a0 a1 a2 k5 k2 k3 k4; obtain ⟨a0, a1, a2⟩ := H5.out.2.1; obtain ⟨k5, k2, k3, k4⟩ := hT.r.later (H5.out.1) (by omega); skip))
      exact bodyPost_ret (v := .tuple #[.agg #[.bool n2, .slice o2 l2 c2, .slice o3 l3 c3'], .int .i64 0]) (by simp [results, Tryz.results57, go_sem, k2, k3, k4]) rfl
        ⟨_, _, _, _, _, _, by rw [H3.out.1.sg], row_kept3 H5.out.2.2.1 ⟨k2, k3, k4⟩, row_kept3 H5.out.2.2.2 ⟨k2, k3, k4⟩, below_store3 (bnext hT.below H5.out.1) (Nat.le_refl _) _ _ _⟩
end Go.Proofs.YtljmbnbilmghhaaGreatDoor
