/-
  Walks: the page's own Small.
-/
import Derived.Test.YtkgonhpnohhheaaWM
namespace Go.Proofs.Ytkgonhpnohhheaa
open Go.RowKit
set_option linter.unusedVariables false
set_option linter.unusedSimpArgs false

set_option maxRecDepth 100000 in
set_option maxHeartbeats 2000000 in
theorem rsmall_any (neg : Bool) (ao : Option Addr) (len cap : Nat) (v : Int) (w : World) (hx : IntAt w neg ao len cap v) (hl : len ≤ 4294967296) :
    Calls Try.prog 16 #[.agg #[.bool neg, .slice ao len cap]] w fun e w' => e = .returned (.tuple #[.int .i64 (smallI v), .bool (smallB v)]) ∧ Below w.heap.size w w' := by
  by_cases hz : v = 0
  · obtain rfl : len = 0 := by
      rcases hx.three with h | h | h
      · omega
      · exact h.2.2
      · omega
    subst hz
    obtain ⟨e1, e2⟩ := small_yes (v := 0) (by decide)
    rw [e1, e2]
    clear e1 e2 hx
    go_enter Try.func16, Try.ntmps16
    go_wp2
    go_ret2
    exact ⟨rfl, (Below.refl _ _).alloc (Nat.le_refl _) _⟩
  have hpos : 0 < len := by
    rcases hx.three with h | h | h
    · exact h.2.2
    · exact absurd h.1 hz
    · exact h.2.2
  have hne : ((len : Int) == 0) = false := by simp; omega
  obtain ⟨b, off, rfl, hb, hc⟩ := hx.row.get hpos
  have hcell := hc 0 hpos
  simp only [Nat.add_zero] at hcell
  have hmb := (mag_wd v.natAbs).dig (by decide) 0
  by_cases hbig : 18446744073709551616 ≤ v.natAbs
  · have hlen : 1 < len := by have := mag_two hbig; rw [← hx.row.hlen] at this; exact this
    obtain ⟨e1, e2⟩ := small_no (v := v) (by omega)
    rw [e1, e2]
    obtain ⟨m, hm⟩ : ∃ m, dig (mag v.natAbs) 0 = m := ⟨_, rfl⟩
    rw [hm] at hcell hmb
    have hlen' : 1 < (len : Int) := by omega
    clear hx e1 e2 hbig hc hm
    go_enter Try.func16, Try.ntmps16
    go_wp2
    go_ret2
    exact ⟨rfl, (Below.refl _ _).alloc (Nat.le_refl _) _⟩
  · have hm := mag_one (n := v.natAbs) (by omega) (by omega)
    have hlen : len = 1 := by have := hx.row.hlen; rw [hm] at this; exact this
    subst hlen
    have hd : dig (mag v.natAbs) 0 = (v.natAbs : Int) := by rw [hm]; rfl
    rw [hd] at hcell
    obtain ⟨m, hmm⟩ : ∃ m : Int, (v.natAbs : Int) = m := ⟨_, rfl⟩
    rw [hmm] at hcell
    have hm0 : 0 ≤ m := by omega
    have hm1 : m < 18446744073709551616 := by omega
    have h3 := hx.three
    clear hm hd hmb hc hx
    rcases h3 with ⟨h1, rfl, _⟩ | ⟨h1, _, _⟩ | ⟨h1, rfl, _⟩
    · have HV : Hid (v = -m) := by show _ = _; omega
      by_cases c1 : m ≤ 9223372036854775808
      · obtain ⟨e1, e2⟩ := small_yes (v := v) (by omega)
        rw [e1, e2]
        have ew : wrap64 (IntKind.u64.wrap (-m)) = -m := by rw [wrapU]; unfold wrap64; omega
        clear e1 e2 hmm h1 hbig hz
        go_enter Try.func16, Try.ntmps16
        go_wp2
        go_ret2
        exact ⟨ret_two (ew.trans HV.out.symm), (Below.refl _ _).alloc (Nat.le_refl _) _⟩
      · obtain ⟨e1, e2⟩ := small_no (v := v) (by omega)
        rw [e1, e2]
        clear e1 e2 hmm h1 hbig hz
        go_enter Try.func16, Try.ntmps16
        go_wp2
        go_ret2
        exact ⟨rfl, (Below.refl _ _).alloc (Nat.le_refl _) _⟩
    · exact absurd h1 hz
    · have HV : Hid (v = m) := by show _ = _; omega
      by_cases c1 : m < 9223372036854775808
      · obtain ⟨e1, e2⟩ := small_yes (v := v) (by omega)
        rw [e1, e2]
        clear e1 e2 hmm h1 hbig hz
        go_enter Try.func16, Try.ntmps16
        go_wp2
        go_ret2
        exact ⟨ret_two (by rw [HV.out]), (Below.refl _ _).alloc (Nat.le_refl _) _⟩
      · obtain ⟨e1, e2⟩ := small_no (v := v) (by omega)
        rw [e1, e2]
        clear e1 e2 hmm h1 hbig hz
        go_enter Try.func16, Try.ntmps16
        go_wp2
        go_ret2
        exact ⟨rfl, (Below.refl _ _).alloc (Nat.le_refl _) _⟩

end Go.Proofs.Ytkgonhpnohhheaa
