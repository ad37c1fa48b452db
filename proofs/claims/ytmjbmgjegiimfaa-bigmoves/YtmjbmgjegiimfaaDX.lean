/-
  Walks: math/bits.Div64 whole; divideByLimb.
-/
import Derived.Test.YtmjbmgjegiimfaaDW
namespace Go.Proofs.Ytmjbmgjegiimfaa
open Go.RowKit
set_option linter.unusedVariables false
set_option linter.unusedSimpArgs false

set_option maxRecDepth 100000 in
set_option maxHeartbeats 1000000 in
theorem div64_zero (lo y : Int) (w : World) (h1 : 0 < y) (h2 : y < 18446744073709551616) (h3 : 0 ≤ lo) (h4 : lo < 18446744073709551616) :
    Calls Try.prog 87 #[.int .u64 0, .int .u64 lo, .int .u64 y] w fun e w' => e = .returned (.tuple #[.int .u64 (lo / y), .int .u64 (lo % y)]) ∧ ∃ n, w' = w.drewN n := by
  have hy0 : (y == 0) = false := by simp; omega
  have hyh : ¬ y ≤ 0 := by omega
  have hy : ¬ y = 0 := by omega
  go_enter Try.func87, Try.ntmps87
  go_wp2
  go_quiet (fail)
  go_wp2
  go_ret2
  exact ⟨rfl, _, rfl⟩

theorem div64_ex (hi lo y : Int) (h0 : 0 ≤ hi) (h1 : hi < y) (h2 : y < 18446744073709551616) (h3 : 0 ≤ lo) (h4 : lo < 18446744073709551616) :
    ∃ d r : Int, (∀ W : World, Calls Try.prog 87 #[.int .u64 hi, .int .u64 lo, .int .u64 y] W fun e w' => e = .returned (.tuple #[.int .u64 d, .int .u64 r]) ∧ ∃ n, w' = W.drewN n) ∧
      (0 ≤ d ∧ d < 18446744073709551616) ∧ (0 ≤ r ∧ r < y) ∧ d * y + r = hi * 18446744073709551616 + lo := by
  refine ⟨(hi * 18446744073709551616 + lo) / y, (hi * 18446744073709551616 + lo) % y, fun W => ?_, ?_, ⟨Int.emod_nonneg _ (by omega), Int.emod_lt_of_pos _ (by omega)⟩, ?_⟩
  · by_cases hh : hi = 0
    · subst hh
      rw [Int.zero_mul, Int.zero_add]
      exact div64_zero lo y W h1 h2 h3 h4
    · refine (div64_pos hi lo y W (by omega) h1 h2 h3 h4).mono ?_
      rintro e w' ⟨rfl, rfl⟩
      exact ⟨rfl, 0, rfl⟩
  · refine ⟨Int.ediv_nonneg (by omega) (by omega), Int.ediv_lt_of_lt_mul (by omega) ?_⟩
    have : (hi + 1) * 18446744073709551616 ≤ y * 18446744073709551616 := Int.mul_le_mul_of_nonneg_right (by omega) (by decide)
    rw [Int.mul_comm 18446744073709551616 y]; omega
  · have := Int.mul_ediv_add_emod (hi * 18446744073709551616 + lo) y
    rw [Int.mul_comm ((hi * 18446744073709551616 + lo) / y) y]; exact this

theorem V_cons (q : Int) (L : List Int) (off m : Nat) : V q L off (m + 1) = dig L off + q * V q L (off + 1) m := by
  have := V_split q L off 1 m
  rw [Nat.add_comm 1 m] at this
  rw [this, V_succ, V_zero, Int.pow_one]; simp

/-- the upper digits of x, from place k on, were divided by y: the quotient's lie in Lk, r is left -/
structure QuoSt (q : Int) (L x : List Int) (y : Int) (off n k : Nat) (r : Int) (Lk : List Int) : Prop where
  len : Lk.length = L.length
  out : ∀ j, j < off + k ∨ off + n ≤ j → dig Lk j = dig L j
  wd : Wd q Lk
  r0 : 0 ≤ r
  r1 : r < y
  eq : V q Lk (off + k) (n - k) * y + r = V q x k (n - k)
theorem QuoSt.start {q : Int} {L x : List Int} {y : Int} (off n : Nat) (h : Wd q L) (hy : 0 < y) : QuoSt q L x y off n n 0 L :=
  ⟨rfl, fun _ _ => rfl, h, Int.le_refl _, hy, by simp [V_zero]⟩
theorem QuoSt.step {q : Int} {L x : List Int} {y : Int} {off n k : Nat} {r : Int} {Lk : List Int} (h : QuoSt q L x y off n (k + 1) r Lk) (hk : k < n) (hl : off + n ≤ L.length) {d r' : Int} (hd : 0 ≤ d ∧ d < q) (hr : 0 ≤ r' ∧ r' < y)
    (he : d * y + r' = r * q + dig x k) : QuoSt q L x y off n k r' (Lk.set (off + k) d) := by
  have hl2 : off + k < Lk.length := by rw [h.len]; omega
  refine ⟨by simp [h.len], fun j hj => ?_, h.wd.set _ hd, hr.1, hr.2, ?_⟩
  · rw [dig_set _ hl2, if_neg (by omega)]; exact h.out j (by omega)
  · have e0 : n - k = (n - (k + 1)) + 1 := by omega
    rw [e0, V_cons, V_cons, dig_set _ hl2, if_pos rfl]
    have e1 : V q (Lk.set (off + k) d) (off + k + 1) (n - (k + 1)) = V q Lk (off + (k + 1)) (n - (k + 1)) := V_congr fun j hj => by rw [dig_set _ hl2, if_neg (by omega)]; rfl
    rw [e1]
    have := h.eq
    grind

/-- what divideByLimb leaves -/
def Quoted (w w' : World) (e : Ending) (g off n : Nat) (L xs : List Int) (y : Int) : Prop :=
  ∃ r L', e = .returned (.int .u64 r) ∧ Blk w' g .u64 44 L' ∧ QuoSt 18446744073709551616 L xs y off n 0 r L' ∧ Touch g w w'


set_option maxRecDepth 100000 in
set_option maxHeartbeats 1600000 in
theorem divideByLimb_any (g off n cap : Nat) (bo : Option Addr) (cb : Nat) (L xs : List Int) (y : Int) (w : World) (hb : Blk w g .u64 44 L) (hW : Wd 18446744073709551616 L) (hn : off + n ≤ L.length) (hnc : n ≤ cap) (hcap : cap ≤ 4611686018427387904)
    (hx : RowAt w .u64 bo n cb xs) (hxW : Wd 18446744073709551616 xs) (hap : Apart bo n g off n) (hy : 0 < y) (hy' : y < 18446744073709551616) :
    Calls Try.prog 84 #[.slice (some ⟨g, off, none⟩) n cap, .slice bo n cb, .int .u64 y] w fun e w' => Quoted w w' e g off n L xs y := by
  have HH : Hid (Blk w g .u64 44 L ∧ Wd 18446744073709551616 L ∧ off + n ≤ L.length ∧ Wd 18446744073709551616 xs ∧ Apart bo n g off n) := ⟨hb, hW, hn, hxW, hap⟩
  clear hb hW hn hxW hap
  go_enter Try.func84, Try.ntmps84
  go_wp2
  go_loopw [7, 8] (fun c i wr => ∃ (k : Nat) (r : Int) (Lk : List Int), k ≤ n ∧ i = .int .i64 ((k : Int) - 1) ∧ c = .int .u64 r ∧ QuoSt 18446744073709551616 L xs y off n k r Lk ∧ Blk wr g .u64 44 Lk ∧ Touch g w wr) (fun _ i _ => (intOf i + 1).toNat)
  case atStart => exact ⟨n, 0, L, Nat.le_refl _, by go_num, rfl, QuoSt.start off n HH.out.2.1 hy, HH.out.1, Touch.refl _ _⟩
  case round =>
    obtain ⟨k, r, Lk, hk, rfl, rfl, hst, hbl, hto⟩ := hrel
    have HS : Hid (QuoSt 18446744073709551616 L xs y off n k r Lk ∧ Blk wr g .u64 44 Lk ∧ Touch g w wr) := ⟨hst, hbl, hto⟩
    rcases k with _ | k
    · clear hst hbl hto hx
      go_wp2
      go_ret
      exact ⟨r, Lk, rfl, HS.out.2.1, HS.out.1, HS.out.2.2⟩
    · have hxr : RowAt wr .u64 bo n cb xs := row_touch hx HH.out.1 hbl hto HH.out.2.2.2.2 (fun j hj => hst.out j (by omega)) hst.len
      obtain ⟨b', o', rfl, hb', hc'⟩ := hxr.get (by omega)
      have hcx := hc' k (by omega)
      have hcz := hbl.cell (j := off + k) (by have := hst.len; have := HH.out.2.2.1; omega)
      have hfz := hbl.frozen (off + k)
      have hgs : g < wr.heap.size := hbl.lt
      have bx := HH.out.2.2.2.1.dig (by decide) k
      obtain ⟨x, hxe⟩ : ∃ x, dig xs k = x := ⟨_, rfl⟩
      obtain ⟨z, hz⟩ : ∃ z, dig Lk (off + k) = z := ⟨_, rfl⟩
      rw [hz] at hcz
      rw [hxe] at hcx bx
      have HX : Hid (dig xs k = x) := hxe
      obtain ⟨d, r', hdiv, hd, hr, he⟩ := div64_ex r x y hst.r0 hst.r1 hy' bx.1 bx.2
      have HD : Hid ((0 ≤ d ∧ d < 18446744073709551616) ∧ (0 ≤ r' ∧ r' < y) ∧ d * y + r' = r * 18446744073709551616 + x) := ⟨hd, hr, he⟩
      have hkk : ((k + 1 : Nat) : Int) - 1 = (k : Int) := by omega
      rw [hkk]
      clear hd hr he hst hbl hto hxr hx hc' bx hxe hz hkk
      go_wp2_with (go_at_call 87; refine (hdiv _).mono ?_; rintro e w' ⟨rfl, nd, rfl⟩)
      go_roundw
      case rel => exact ⟨k, r', Lk.set (off + k) d, by omega, by go_num, rfl, HS.out.1.step (by omega) HH.out.2.2.1 HD.out.1 HD.out.2.1 (by rw [HX.out]; exact HD.out.2.2), Blk.set (w := wr.drewN nd) HS.out.2.1 _ _, (HS.out.2.2.drewN nd).set _ _⟩
      case measure => simp [intOf]
end Go.Proofs.Ytmjbmgjegiimfaa
