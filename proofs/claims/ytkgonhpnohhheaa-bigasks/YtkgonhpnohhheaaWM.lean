/-
  Walks: Small.
-/
import Derived.Test.YtkgonhpnohhheaaWL
namespace Go.Proofs.Ytkgonhpnohhheaa
open Go.RowKit
set_option linter.unusedVariables false
set_option linter.unusedSimpArgs false

/-- is it an int64? -/
def smallB (v : Int) : Bool := decide (-9223372036854775808 ≤ v ∧ v < 9223372036854775808)
def smallI (v : Int) : Int := if smallB v then v else 0
theorem small_yes {v : Int} (h : -9223372036854775808 ≤ v ∧ v < 9223372036854775808) : smallB v = true ∧ smallI v = v := by
  have : smallB v = true := decide_eq_true h
  exact ⟨this, by unfold smallI; rw [this]; rfl⟩
theorem small_no {v : Int} (h : ¬ (-9223372036854775808 ≤ v ∧ v < 9223372036854775808)) : smallB v = false ∧ smallI v = 0 := by
  have : smallB v = false := decide_eq_false h
  exact ⟨this, by unfold smallI; rw [this]; rfl⟩
theorem ret_two {x y : Int} {b : Bool} (h : x = y) : Ending.returned (.tuple #[.int .i64 x, .bool b]) = .returned (.tuple #[.int .i64 y, .bool b]) := by rw [h]

set_option maxRecDepth 100000 in
set_option maxHeartbeats 2000000 in
theorem bsmall_any (neg : Bool) (ao : Option Addr) (len cap : Nat) (v : Int) (w : World) (hx : IntAt w neg ao len cap v) (hl : len ≤ 4294967296) :
    Calls Try.prog 10 #[.agg #[.bool neg, .slice ao len cap]] w fun e w' => e = .returned (.tuple #[.int .i64 (smallI v), .bool (smallB v)]) ∧ Below w.heap.size w w' := by
  obtain ⟨W, hT⟩ := One1.mk' w neg ao len cap
  have hsz := hT.size
  have hR := hx.later hT.below
  have hM : Hid ((if mayB neg (mag v.natAbs) then 0 else 10 : Int) = 0) := hx.may
  by_cases hbig : 18446744073709551616 ≤ v.natAbs
  · have hlen : 1 < len := by have := mag_two hbig; rw [← hx.row.hlen] at this; exact this
    obtain ⟨e1, e2⟩ := small_no (v := v) (by omega)
    rw [e1, e2]
    clear hx e1 e2 hbig
    go_enter Try.func10, Try.ntmps10
    go_wp2_with (go_at_call 8; rw [← hT.eq]; refine (check_at neg ao len cap _ _ hR.row (by omega) 0 hM.out).mono ?_; rintro e w1 ⟨rfl, hb1⟩; obtain ⟨p0, p1⟩ := hT.a.later hb1 (by omega))
    go_ret2
    exact ⟨rfl, bnext hT.below hb1⟩
  · rcases hx.three with ⟨h1, rfl, h3⟩ | ⟨h1, rfl, rfl⟩ | ⟨h1, rfl, h3⟩
    · have hm := mag_one (n := v.natAbs) (by omega) (by omega)
      have hlen : len = 1 := by have := hx.row.hlen; rw [hm] at this; exact this
      subst hlen
      obtain ⟨m, hmm⟩ : ∃ m : Int, (v.natAbs : Int) = m := ⟨_, rfl⟩
      have hm0 : 0 ≤ m := by omega
      have hm1 : m < 18446744073709551616 := by omega
      have hv : v = -m := by omega
      have HL : Hid (dig (mag v.natAbs) 0 = m) := by show _ = _; rw [hm, hmm]; rfl
      clear hm hx h3
      by_cases c1 : m < 9223372036854775808
      · obtain ⟨e1, e2⟩ := small_yes (v := v) (by omega)
        rw [e1, e2]
        have HV : Hid (v = -m) := hv
        clear e1 e2 hv hmm h1 hbig
        go_enter Try.func10, Try.ntmps10
        go_wp2_with (first | (go_at_call 8; rw [← hT.eq]; refine (check_at true ao 1 cap _ _ hR.row (by omega) 0 hM.out).mono ?_; rintro e w1 ⟨rfl, hb1⟩; obtain ⟨p0, p1⟩ := hT.a.later hb1 (by omega)) | (go_at_call 42; refine (lowLimb_any ao 1 cap _ _ (hR.row.later hb1)).mono ?_; rintro e w2 ⟨rfl, rfl⟩; rw [HL.out]))
        go_ret2
        exact ⟨ret_two (by rw [HV.out]), bnext hT.below hb1⟩
      · by_cases c2 : m = 9223372036854775808
        · subst c2
          obtain ⟨e1, e2⟩ := small_yes (v := v) (by omega)
          rw [e1, e2]
          have HV : Hid (v = -(9223372036854775808 : Int)) := by show _ = _; omega
          clear e1 e2 hv hmm h1 hbig c1
          go_enter Try.func10, Try.ntmps10
          go_wp2_with (first | (go_at_call 8; rw [← hT.eq]; refine (check_at true ao 1 cap _ _ hR.row (by omega) 0 hM.out).mono ?_; rintro e w1 ⟨rfl, hb1⟩; obtain ⟨p0, p1⟩ := hT.a.later hb1 (by omega)) | (go_at_call 42; refine (lowLimb_any ao 1 cap _ _ (hR.row.later hb1)).mono ?_; rintro e w2 ⟨rfl, rfl⟩; rw [HL.out]))
          go_ret2
          exact ⟨ret_two (by rw [HV.out]), bnext hT.below hb1⟩
        · obtain ⟨e1, e2⟩ := small_no (v := v) (by omega)
          rw [e1, e2]
          have c3 : 9223372036854775808 < m := by omega
          have c4 : (m == 9223372036854775808) = false := by simp; omega
          clear e1 e2 hv hmm h1 hbig c1 c2
          go_enter Try.func10, Try.ntmps10
          go_wp2_with (first | (go_at_call 8; rw [← hT.eq]; refine (check_at true ao 1 cap _ _ hR.row (by omega) 0 hM.out).mono ?_; rintro e w1 ⟨rfl, hb1⟩; obtain ⟨p0, p1⟩ := hT.a.later hb1 (by omega)) | (go_at_call 42; refine (lowLimb_any ao 1 cap _ _ (hR.row.later hb1)).mono ?_; rintro e w2 ⟨rfl, rfl⟩; rw [HL.out]))
          go_ret2
          exact ⟨rfl, bnext hT.below hb1⟩
    · subst h1
      obtain ⟨e1, e2⟩ := small_yes (v := 0) (by decide)
      rw [e1, e2]
      have HL : Hid (dig (mag (0 : Int).natAbs) 0 = 0) := rfl
      clear e1 e2 hx hbig
      go_enter Try.func10, Try.ntmps10
      go_wp2_with (first | (go_at_call 8; rw [← hT.eq]; refine (check_at false ao 0 cap _ _ hR.row (by omega) 0 hM.out).mono ?_; rintro e w1 ⟨rfl, hb1⟩; obtain ⟨p0, p1⟩ := hT.a.later hb1 (by omega)) | (go_at_call 42; refine (lowLimb_any ao 0 cap _ _ (hR.row.later hb1)).mono ?_; rintro e w2 ⟨rfl, rfl⟩; rw [HL.out]))
      go_ret2
      exact ⟨rfl, bnext hT.below hb1⟩
    · have hm := mag_one (n := v.natAbs) (by omega) (by omega)
      have hlen : len = 1 := by have := hx.row.hlen; rw [hm] at this; exact this
      subst hlen
      obtain ⟨m, hmm⟩ : ∃ m : Int, (v.natAbs : Int) = m := ⟨_, rfl⟩
      have hm0 : 0 ≤ m := by omega
      have hm1 : m < 18446744073709551616 := by omega
      have hv : v = m := by omega
      have HL : Hid (dig (mag v.natAbs) 0 = m) := by show _ = _; rw [hm, hmm]; rfl
      clear hm hx h3
      by_cases c1 : m < 9223372036854775808
      · obtain ⟨e1, e2⟩ := small_yes (v := v) (by omega)
        rw [e1, e2]
        have HV : Hid (v = m) := hv
        clear e1 e2 hv hmm h1 hbig
        go_enter Try.func10, Try.ntmps10
        go_wp2_with (first | (go_at_call 8; rw [← hT.eq]; refine (check_at false ao 1 cap _ _ hR.row (by omega) 0 hM.out).mono ?_; rintro e w1 ⟨rfl, hb1⟩; obtain ⟨p0, p1⟩ := hT.a.later hb1 (by omega)) | (go_at_call 42; refine (lowLimb_any ao 1 cap _ _ (hR.row.later hb1)).mono ?_; rintro e w2 ⟨rfl, rfl⟩; rw [HL.out]))
        go_ret2
        exact ⟨ret_two (by rw [HV.out]), bnext hT.below hb1⟩
      · obtain ⟨e1, e2⟩ := small_no (v := v) (by omega)
        rw [e1, e2]
        clear e1 e2 hv hmm h1 hbig
        by_cases c2 : m = 9223372036854775808
        · subst c2
          go_enter Try.func10, Try.ntmps10
          go_wp2_with (first | (go_at_call 8; rw [← hT.eq]; refine (check_at false ao 1 cap _ _ hR.row (by omega) 0 hM.out).mono ?_; rintro e w1 ⟨rfl, hb1⟩; obtain ⟨p0, p1⟩ := hT.a.later hb1 (by omega)) | (go_at_call 42; refine (lowLimb_any ao 1 cap _ _ (hR.row.later hb1)).mono ?_; rintro e w2 ⟨rfl, rfl⟩; rw [HL.out]))
          go_ret2
          exact ⟨rfl, bnext hT.below hb1⟩
        · have c4 : (m == 9223372036854775808) = false := by simp; omega
          go_enter Try.func10, Try.ntmps10
          go_wp2_with (first | (go_at_call 8; rw [← hT.eq]; refine (check_at false ao 1 cap _ _ hR.row (by omega) 0 hM.out).mono ?_; rintro e w1 ⟨rfl, hb1⟩; obtain ⟨p0, p1⟩ := hT.a.later hb1 (by omega)) | (go_at_call 42; refine (lowLimb_any ao 1 cap _ _ (hR.row.later hb1)).mono ?_; rintro e w2 ⟨rfl, rfl⟩; rw [HL.out]))
          go_ret2
          exact ⟨rfl, bnext hT.below hb1⟩

end Go.Proofs.Ytkgonhpnohhheaa
