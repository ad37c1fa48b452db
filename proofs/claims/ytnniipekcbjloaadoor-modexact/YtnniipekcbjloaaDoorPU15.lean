/-
  MV: what passes Miller and Rabin's test to the bases 2, 3, 5, 7 below 2^31 is a prime.
-/
import Derived.Test.YtnniipekcbjloaaDoorPU07
import Derived.Test.YtnniipekcbjloaaDoorPU09
import Derived.Test.YtnniipekcbjloaaDoorPU10
import Derived.Test.YtnniipekcbjloaaDoorPU11
import Derived.Test.YtnniipekcbjloaaDoorPU12
import Derived.Test.YtnniipekcbjloaaDoorPU13
import Derived.Test.YtnniipekcbjloaaDoorPU14
import Derived.ProofKit
import Derived.OpenShut
import Derived.Deep.Slices
import Derived.Deep.Strs
namespace Go.Proofs.YtnniipekcbjloaaDoor
open Go.RowKit
set_option linter.unusedVariables false
theorem passM_prime {n : Nat} (h1 : 1 < n) (hlt : n < 2147483648) (h210 : Nat.gcd n 210 = 1) (hp : passM n = true) : PrN n := by
  refine mr_sound (fun m hm => allM_is okM_all m (by omega) (by have : (2 : Nat) ^ 16 = 65536 := rfl; omega)) (fun q h2 h3 => ?_) (fun q h2 h3 => ?_) (fun q h2 h3 => ?_) ckE_all h1 hlt h210 hp
  · by_cases c0 : q < 138
    · exact allM_is okQ_b1 q (by omega) (by have : (2 : Nat) ^ 3 = 8 := rfl; omega)
    · by_cases c1 : q < 146
      · exact allM_is okQ_b2 q (by omega) (by have : (2 : Nat) ^ 3 = 8 := rfl; omega)
      · by_cases c2 : q < 154
        · exact allM_is okQ_b3 q (by omega) (by have : (2 : Nat) ^ 3 = 8 := rfl; omega)
        · by_cases c3 : q < 162
          · exact allM_is okQ_b4 q (by omega) (by have : (2 : Nat) ^ 3 = 8 := rfl; omega)
          · by_cases c4 : q < 178
            · exact allM_is okQ_b5 q (by omega) (by have : (2 : Nat) ^ 4 = 16 := rfl; omega)
            · by_cases c5 : q < 194
              · exact allM_is okQ_b6 q (by omega) (by have : (2 : Nat) ^ 4 = 16 := rfl; omega)
              · by_cases c6 : q < 226
                · exact allM_is okQ_b7 q (by omega) (by have : (2 : Nat) ^ 5 = 32 := rfl; omega)
                · by_cases c7 : q < 258
                  · exact allM_is okQ_b8 q (by omega) (by have : (2 : Nat) ^ 5 = 32 := rfl; omega)
                  · by_cases c8 : q < 322
                    · exact allM_is okQ_b9 q (by omega) (by have : (2 : Nat) ^ 6 = 64 := rfl; omega)
                    · by_cases c9 : q < 450
                      · exact allM_is okQ_b10 q (by omega) (by have : (2 : Nat) ^ 7 = 128 := rfl; omega)
                      · by_cases c10 : q < 706
                        · exact allM_is okQ_b11 q (by omega) (by have : (2 : Nat) ^ 8 = 256 := rfl; omega)
                        · exact allM_is okQ_b12 q (by omega) (by have : (2 : Nat) ^ 9 = 512 := rfl; omega)
  · by_cases c0 : q < 1280
    · exact allM_is okQ_c1 q (by omega) (by have : (2 : Nat) ^ 8 = 256 := rfl; omega)
    · by_cases c1 : q < 1536
      · exact allM_is okQ_c2 q (by omega) (by have : (2 : Nat) ^ 8 = 256 := rfl; omega)
      · by_cases c2 : q < 2048
        · exact allM_is okQ_c3 q (by omega) (by have : (2 : Nat) ^ 9 = 512 := rfl; omega)
        · by_cases c3 : q < 3072
          · exact allM_is okQ_c4 q (by omega) (by have : (2 : Nat) ^ 10 = 1024 := rfl; omega)
          · exact allM_is okQ_c5 q (by omega) (by have : (2 : Nat) ^ 10 = 1024 := rfl; omega)
  · by_cases c0 : q < 8192
    · exact allM_is okQ_d1 q (by omega) (by have : (2 : Nat) ^ 12 = 4096 := rfl; omega)
    · by_cases c1 : q < 12288
      · exact allM_is okQ_d2 q (by omega) (by have : (2 : Nat) ^ 12 = 4096 := rfl; omega)
      · by_cases c2 : q < 16384
        · exact allM_is okQ_d3 q (by omega) (by have : (2 : Nat) ^ 12 = 4096 := rfl; omega)
        · by_cases c3 : q < 32768
          · exact allM_is okQ_d4 q (by omega) (by have : (2 : Nat) ^ 14 = 16384 := rfl; omega)
          · exact allM_is okQ_d5 q (by omega) (by have : (2 : Nat) ^ 0 = 1 := rfl; omega)
end Go.Proofs.YtnniipekcbjloaaDoor
/-
  PA: walks: Miller and Rabin's test of whatever number; which numbers modp takes for primes.
-/
namespace Go.Proofs.YtnniipekcbjloaaDoor
open Go.RowKit Go.Shelf
set_option linter.unusedVariables false
set_option linter.unusedSimpArgs false
theorem odM_eq : ∀ (t f D : Nat), D % 2 = 1 → t ≤ f → odM f (D * 2 ^ t) = D
  | 0, 0, D, _, _ => by show D * 2 ^ 0 = D; omega
  | 0, f + 1, D, h, _ => by
    show (bif Nat.beq (D * 2 ^ 0 % 2) 0 then odM f (D * 2 ^ 0 / 2) else D * 2 ^ 0) = D
    rw [Nat.pow_zero, Nat.mul_one, h]; rfl
  | t + 1, f + 1, D, h, hle => by
    show (bif Nat.beq (D * 2 ^ (t + 1) % 2) 0 then odM f (D * 2 ^ (t + 1) / 2) else D * 2 ^ (t + 1)) = D
    have e : D * 2 ^ (t + 1) = D * 2 ^ t * 2 := by rw [Nat.pow_succ, Nat.mul_assoc]
    rw [e, Nat.mul_mod_left]
    show odM f (D * 2 ^ t * 2 / 2) = D
    rw [Nat.mul_div_cancel _ (by omega)]
    exact odM_eq t f D h (by omega)
theorem lpM_iff (n a : Nat) (hn : 1 < n) : ∀ f e x k, n - 1 = e * 2 ^ k → x = a ^ e % n → k ≤ f → (lpM n f e x = true ↔ ∃ j, j < k ∧ a ^ (e * 2 ^ j) % n = n - 1)
  | 0, e, x, k, _, _, hk => by
    constructor
    · intro h; cases h
    · rintro ⟨j, hj, _⟩; omega
  | f + 1, e, x, k, hk, hx, hf => by
    have hd : lpM n (f + 1) e x = (bif Nat.beq e (n - 1) then false else bif Nat.beq x (n - 1) then true else lpM n f (2 * e) (x * x % n)) := rfl
    rcases k with _ | k
    · have h1 : Nat.beq e (n - 1) = true := beq_iff.2 (by rw [Nat.pow_zero] at hk; omega)
      rw [hd, h1]
      constructor
      · intro h; cases h
      · rintro ⟨j, hj, _⟩; omega
    · have h1 : Nat.beq e (n - 1) = false := by
        cases h2 : Nat.beq e (n - 1)
        · rfl
        · exfalso
          have h3 := beq_iff.1 h2
          have h4 : 2 ≤ 2 ^ (k + 1) := by rw [Nat.pow_succ]; have := Nat.two_pow_pos k; omega
          have h5 : e * 2 ≤ e * 2 ^ (k + 1) := Nat.mul_le_mul_left _ h4
          omega
      have hk2 : n - 1 = (2 * e) * 2 ^ k := by rw [hk, Nat.pow_succ, Nat.mul_comm 2 e, Nat.mul_assoc, Nat.mul_comm 2]
      have hx2 : x * x % n = a ^ (2 * e) % n := by
        rw [hx, ← Nat.mul_mod, ← Nat.pow_add]
        congr 2; omega
      have ih := lpM_iff n a hn f (2 * e) (x * x % n) k hk2 hx2 (by omega)
      rw [hd, h1]
      show (bif Nat.beq x (n - 1) then true else lpM n f (2 * e) (x * x % n)) = true ↔ _
      cases h2 : Nat.beq x (n - 1)
      · show lpM n f (2 * e) (x * x % n) = true ↔ _
        rw [ih]
        constructor
        · rintro ⟨j, hj, e1⟩
          refine ⟨j + 1, by omega, ?_⟩
          rw [← e1]; congr 2
          rw [Nat.pow_succ, Nat.mul_comm 2 e, Nat.mul_assoc, Nat.mul_comm 2]
        · rintro ⟨j, hj, e1⟩
          rcases j with _ | j
          · exfalso
            rw [Nat.pow_zero, Nat.mul_one, ← hx] at e1
            rw [beq_iff.2 e1] at h2; cases h2
          · refine ⟨j, by omega, ?_⟩
            rw [← e1]; congr 2
            rw [Nat.pow_succ, Nat.mul_comm 2 e, Nat.mul_assoc, Nat.mul_comm 2]
      · show true = true ↔ _
        constructor
        · intro _
          refine ⟨0, by omega, ?_⟩
          rw [Nat.pow_zero, Nat.mul_one, ← hx]; exact beq_iff.1 h2
        · intro _; rfl
theorem sprM_iff {n a D t : Nat} (hn : 1 < n) (hlt : n ≤ 2 ^ 31) (hD : n - 1 = D * 2 ^ t) (ho : D % 2 = 1) : sprM n a = true ↔ (a ^ D % n = 1 ∨ ∃ j, j < t ∧ a ^ (D * 2 ^ j) % n = n - 1) := by
  have hD0 : 1 ≤ D := by omega
  have ht : t ≤ 31 := by
    by_cases h : t ≤ 31
    · exact h
    · exfalso
      have h1 : (2 : Nat) ^ 32 ≤ 2 ^ t := Nat.pow_le_pow_right (by omega) (by omega)
      have h2 : 1 * 2 ^ t ≤ D * 2 ^ t := Nat.mul_le_mul_right _ hD0
      have h3 : (2 : Nat) ^ 32 = 2 * 2 ^ 31 := rfl
      have h4 : (0 : Nat) < 2 ^ 31 := Nat.two_pow_pos _
      omega
  have hd : D < 2 ^ 31 := by
    have h2 : D * 1 ≤ D * 2 ^ t := Nat.mul_le_mul_left _ (Nat.two_pow_pos t)
    omega
  have e1 : odM 31 (n - 1) = D := by rw [hD]; exact odM_eq t 31 D ho ht
  have e2 : sprM n a = (bif Nat.beq (pwM a n 4 (odM 31 (n - 1))) 1 then true else lpM n 31 (odM 31 (n - 1)) (pwM a n 4 (odM 31 (n - 1)))) := rfl
  have hp := pwM_is a n 4 D (Nat.lt_trans hd (by decide))
  rw [e2, e1, hp]
  have hl := lpM_iff n a hn 31 D (a ^ D % n) t hD rfl ht
  cases h2 : Nat.beq (a ^ D % n) 1
  · have h3 : ¬ a ^ D % n = 1 := fun e => by rw [beq_iff.2 e] at h2; cases h2
    show lpM n 31 D (a ^ D % n) = true ↔ _
    rw [hl]
    exact ⟨Or.inr, fun h => h.resolve_left h3⟩
  · exact ⟨fun _ => Or.inl (beq_iff.1 h2), fun _ => rfl⟩
theorem cop_210 {n : Nat} (h2 : n % 2 ≠ 0) (h3 : n % 3 ≠ 0) (h5 : n % 5 ≠ 0) (h7 : n % 7 ≠ 0) : Nat.gcd n 210 = 1 := by
  have g2 : Nat.Coprime 2 n := by
    rw [Nat.Coprime, Nat.gcd_rec, show n % 2 = 1 by omega]; decide
  have g3 : Nat.Coprime 3 n := by
    rw [Nat.Coprime, Nat.gcd_rec]
    rcases (by omega : n % 3 = 1 ∨ n % 3 = 2) with h | h <;> (rw [h]; decide)
  have g5 : Nat.Coprime 5 n := by
    rw [Nat.Coprime, Nat.gcd_rec]
    rcases (by omega : n % 5 = 1 ∨ n % 5 = 2 ∨ n % 5 = 3 ∨ n % 5 = 4) with h | h | h | h <;> (rw [h]; decide)
  have g7 : Nat.Coprime 7 n := by
    rw [Nat.Coprime, Nat.gcd_rec]
    rcases (by omega : n % 7 = 1 ∨ n % 7 = 2 ∨ n % 7 = 3 ∨ n % 7 = 4 ∨ n % 7 = 5 ∨ n % 7 = 6) with h | h | h | h | h | h <;> (rw [h]; decide)
  have h : Nat.Coprime (2 * 3 * 5 * 7) n := ((g2.mul_left g3).mul_left g5).mul_left g7
  rw [Nat.gcd_comm]; exact h
set_option maxRecDepth 100000 in
set_option maxHeartbeats 1000000 in
theorem looksSoB_any (m a : Nat) (b : Bool) (w : World) (hm1 : 1 ≤ m) (hm2 : m ≤ 2147483647) (ha : a ≤ 1000) (hb : sprM (m + 1) a = b) (hT : TabAt 0 Lib.deBruijn64tab w) :
    Calls Tryd.prog 71 #[.int .u64 ((m : Int) + 1), .int .u64 (a : Int)] w fun e w' => e = .returned (.bool b) ∧ Below w.heap.size w w' := by
  have hm64 : m < 18446744073709551616 := by omega
  have htz := mtrailing m w hm64 hT
  obtain ⟨k, hk, ht64⟩ := mctz_spec (x := m) (by omega) hm64
  obtain ⟨t, ht⟩ : ∃ t, Lib.ctz 64 m = t := ⟨_, rfl⟩
  rw [ht] at htz hk ht64
  have hD1 : m / 2 ^ t = 2 * k + 1 := by
    have : m / 2 ^ t = 2 ^ t * (2 * k + 1) / 2 ^ t := by rw [← hk]
    rw [this]; exact Nat.mul_div_cancel_left _ (Nat.two_pow_pos t)
  have hD : m = m / 2 ^ t * 2 ^ t := by rw [hD1, Nat.mul_comm]; exact hk
  have hcast : (m : Int) / 2 ^ t = ((m / 2 ^ t : Nat) : Int) := by rw [Int.natCast_ediv, Int.natCast_pow]; rfl
  obtain ⟨D, hDd⟩ : ∃ D, m / 2 ^ t = D := ⟨_, rfl⟩
  rw [hDd] at hcast hD hD1
  have hDm : D ≤ m := by rw [← hDd]; exact Nat.div_le_self _ _
  have HS : Hid (sprM (m + 1) a = b ∧ (sprM (m + 1) a = true ↔ (a ^ D % (m + 1) = 1 ∨ ∃ j, j < t ∧ a ^ (D * 2 ^ j) % (m + 1) = m + 1 - 1))) :=
    ⟨hb, sprM_iff (by omega) (by have : (2 : Nat) ^ 31 = 2147483648 := rfl; omega) (by rw [Nat.add_sub_cancel]; exact hD) (by omega)⟩
  have hpc : ∀ e : Nat, (a : Int) ^ e % ((m : Int) + 1) = ((a ^ e % (m + 1) : Nat) : Int) := fun e => by
    rw [Int.natCast_emod, Int.natCast_pow]; rfl
  obtain ⟨y0, hy0⟩ : ∃ y0, a ^ D % (m + 1) = y0 := ⟨_, rfl⟩
  have hyb : y0 < m + 1 := by rw [← hy0]; exact Nat.mod_lt _ (by omega)
  have hrai := fun W => raised_any ((m : Int) + 1) (a : Int) (y0 : Int) D W ⟨by omega, by omega⟩ ⟨by omega, by omega⟩ (by omega) (by rw [hpc, hy0])
  have HX0 : Hid (y0 = a ^ (D * 2 ^ 0) % (m + 1)) := by show _ = _; rw [Nat.pow_zero, Nat.mul_one]; exact hy0.symm
  have HY0 : Hid (a ^ D % (m + 1) = y0) := hy0
  have e1 : (m : Int) + 1 - 1 = (m : Int) := by omega
  have hm1' : (m : Int) ≤ 2147483647 := by omega
  have hm2' : (1 : Int) ≤ (m : Int) := by omega
  have ht0 : (0 : Int) ≤ (t : Int) := by omega
  have ht1 : (t : Int) ≤ 63 := by omega
  clear hk hD hDd ht hy0 hD1 hb hpc hm64
  by_cases h1 : y0 = 1
  · subst h1
    obtain rfl : b = true := by rw [← HS.out.1]; exact HS.out.2.2 (Or.inl HY0.out)
    clear HS
    have hrai' : ∀ W, Calls Tryd.prog 86 #[.int .u64 ((m : Int) + 1), .int .u64 (a : Int), .int .u64 (D : Int)] W fun e w' => e = .returned (.int .u64 1) ∧ Below W.heap.size W w' := hrai
    clear hrai
    go_enter Tryd.func71, Tryd.ntmps71
    go_wp2_with (first
      | (go_at_call 85; refine htz.mono ?_; rintro e w1 ⟨rfl, hw1⟩; replace hw1 := hw1.symm; subst hw1)
      | (go_at_call 86; refine (hrai' _).mono ?_; rintro e w2 ⟨rfl, hb2⟩))
    go_ret
    exact ⟨rfl, hb2⟩
  · have h1' : ((y0 : Int) == 1) = false := by simp; omega
    have HN : Hid (¬ y0 = 1) := h1
    clear h1
    go_enter Tryd.func71, Tryd.ntmps71
    go_wp2_with (first
      | (go_at_call 85; refine htz.mono ?_; rintro e w1 ⟨rfl, hw1⟩; replace hw1 := hw1.symm; subst hw1)
      | (go_at_call 86; refine (hrai _).mono ?_; rintro e w2 ⟨rfl, hb2⟩))
    clear h1'
    go_loopw [7, 22] (fun z i wr => ∃ (j : Nat) (x : Nat), i = .int .i64 (j : Int) ∧ j ≤ t ∧ z = .int .u64 (x : Int) ∧ Hid (x = a ^ (D * 2 ^ j) % (m + 1) ∧ x < m + 1 ∧ ∀ i, i < j → ¬ a ^ (D * 2 ^ i) % (m + 1) = m) ∧ Below w.heap.size w wr) (fun _ i _ => t - (intOf i).toNat)
    case atStart => exact ⟨0, y0, by go_num, Nat.zero_le _, rfl, ⟨HX0.out, hyb, fun i hi => absurd hi (by omega)⟩, hb2⟩
    case round =>
      obtain ⟨j, x, rfl, hjt, rfl, HV, hbe⟩ := hrel
      have HBE : Hid (Below w.heap.size w wr) := hbe
      clear hbe hb2
      by_cases hj : j < t
      · by_cases hx : x = m
        · have hxm : ((x : Int) == (m : Int)) = true := by simp; omega
          have hlt : (j : Int) < (t : Int) := by omega
          obtain rfl : b = true := by
            rw [← HS.out.1]
            exact HS.out.2.2 (Or.inr ⟨j, hj, by rw [← HV.out.1, hx]; omega⟩)
          clear hx HS HV
          go_wp2
          go_ret
          exact ⟨rfl, HBE.out⟩
        · have hxm : ((x : Int) == (m : Int)) = false := by simp; omega
          obtain ⟨r1, hr1⟩ : ∃ r1, x * x % (m + 1) = r1 := ⟨_, rfl⟩
          have HC1 : Hid (∀ W : World, Calls Tryd.prog 47 #[.int .u64 ((m : Int) + 1), .int .u64 (x : Int), .int .u64 (x : Int)] W fun e w' => e = .returned (.int .u64 (r1 : Int)) ∧ Below W.heap.size W w') :=
            fun W => mtimes_any _ (x : Int) (x : Int) (r1 : Int) W (by omega) (by have := HV.out; omega) (by have := HV.out; omega) (by rw [← hr1, Int.natCast_emod, Int.natCast_mul]; rfl)
          have HV2 : Hid (r1 = a ^ (D * 2 ^ (j + 1)) % (m + 1) ∧ r1 < m + 1 ∧ ∀ i, i < j + 1 → ¬ a ^ (D * 2 ^ i) % (m + 1) = m) := by
            have hv := HV.out
            refine ⟨?_, ?_, fun i hi => ?_⟩
            · rw [← hr1, hv.1, ← Nat.mul_mod, ← Nat.pow_add]
              have e2 : D * 2 ^ j + D * 2 ^ j = D * 2 ^ (j + 1) := by rw [Nat.pow_succ, ← Nat.mul_assoc]; omega
              rw [e2]
            · rw [← hr1]; exact Nat.mod_lt _ (by omega)
            · by_cases e : i = j
              · subst e; rw [← hv.1]; exact hx
              · exact hv.2.2 i (by omega)
          have hlt : (j : Int) < (t : Int) := by omega
          clear hx hr1
          go_wp2_with (go_at_call 47; refine (HC1.out _).mono ?_; rintro e w4 ⟨rfl, hb4⟩; have HB1 : Hid (Below w.heap.size w w4) := (by have h := HBE.out; exact h.trans (hb4.mono h.size)); clear hb4)
          go_roundw
          case rel => exact ⟨j + 1, r1, by go_num, by omega, rfl, HV2, HB1.out⟩
          case measure => simp [intOf]; omega
      · obtain rfl : b = false := by
          rw [← HS.out.1]
          cases h : sprM (m + 1) a
          · rfl
          · exfalso
            rcases HS.out.2.1 h with h | ⟨i, hi, h⟩
            · exact HN.out (HY0.out.symm.trans h)
            · exact HV.out.2.2 i (by omega) (by rw [h]; omega)
        have hlt : ¬ (j : Int) < (t : Int) := by omega
        clear HS HV hj
        go_wp2
        go_ret
        exact ⟨rfl, HBE.out⟩
set_option maxRecDepth 100000 in
set_option maxHeartbeats 2000000 in
theorem isPrime_no (p : Int) (w : World) (h0 : 0 ≤ p ∧ p < 18446744073709551616) (hpr : ¬ (IsPr p ∧ p < 2147483648)) (hT : TabAt 0 Lib.deBruijn64tab w) :
    Calls Tryd.prog 48 #[.int .u64 p] w fun e w' => e = .returned (.bool false) ∧ Below w.heap.size w w' := by
  obtain ⟨hp0, hp1⟩ := h0
  have i0 : ∀ w, (Instr.index 95 (.agg #[.int .u64 2, .int .u64 3, .int .u64 5, .int .u64 7]) (.int .i64 0)).run Tryd.prog w = .ok (.int .u64 2) w := fun _ => by kernel_rfl
  have i1 : ∀ w, (Instr.index 95 (.agg #[.int .u64 2, .int .u64 3, .int .u64 5, .int .u64 7]) (.int .i64 1)).run Tryd.prog w = .ok (.int .u64 3) w := fun _ => by kernel_rfl
  have i2 : ∀ w, (Instr.index 95 (.agg #[.int .u64 2, .int .u64 3, .int .u64 5, .int .u64 7]) (.int .i64 2)).run Tryd.prog w = .ok (.int .u64 5) w := fun _ => by kernel_rfl
  have i3 : ∀ w, (Instr.index 95 (.agg #[.int .u64 2, .int .u64 3, .int .u64 5, .int .u64 7]) (.int .i64 3)).run Tryd.prog w = .ok (.int .u64 7) w := fun _ => by kernel_rfl
  by_cases c1 : p < 2
  · clear hpr
    go_enter Tryd.func48, Tryd.ntmps48
    go_wp2
    go_ret
    exact ⟨rfl, Below.refl _ _⟩
  by_cases c2 : 2147483648 ≤ p
  · clear hpr
    go_enter Tryd.func48, Tryd.ntmps48
    go_wp2
    go_ret
    exact ⟨rfl, Below.refl _ _⟩
  obtain ⟨m, hm⟩ : ∃ m : Nat, p = (m : Int) + 1 := ⟨p.toNat - 1, by omega⟩
  have hn : ¬ IsPr p := fun h => hpr ⟨h, by omega⟩
  have hsm : ∀ q : Int, IsPr q → p ≠ q := fun q hq e => hn (e ▸ hq)
  have k2 : IsPr 2 := ⟨by decide, fun d h1 h2 => by omega⟩
  have k3 : IsPr 3 := ⟨by decide, fun d h1 h2 => by obtain rfl : d = 2 := (by omega); decide⟩
  have k5 : IsPr 5 := ⟨by decide, fun d h1 h2 => by rcases (by omega : d = 2 ∨ d = 3 ∨ d = 4) with rfl | rfl | rfl <;> decide⟩
  have k7 : IsPr 7 := ⟨by decide, fun d h1 h2 => by rcases (by omega : d = 2 ∨ d = 3 ∨ d = 4 ∨ d = 5 ∨ d = 6) with rfl | rfl | rfl | rfl | rfl <;> decide⟩
  have n2 : (p == 2) = false := by simpa using hsm 2 k2
  have n3 : (p == 3) = false := by simpa using hsm 3 k3
  have n5 : (p == 5) = false := by simpa using hsm 5 k5
  have n7 : (p == 7) = false := by simpa using hsm 7 k7
  clear hsm k2 k3 k5 k7 hpr
  obtain ⟨r2, hr2⟩ : ∃ r, p % 2 = r := ⟨_, rfl⟩
  obtain ⟨r3, hr3⟩ : ∃ r, p % 3 = r := ⟨_, rfl⟩
  obtain ⟨r5, hr5⟩ : ∃ r, p % 5 = r := ⟨_, rfl⟩
  obtain ⟨r7, hr7⟩ : ∃ r, p % 7 = r := ⟨_, rfl⟩
  by_cases d2 : r2 = 0
  · subst d2
    clear hn hm hr3 hr5 hr7
    go_enter Tryd.func48, Tryd.ntmps48
    go_wp2
    refine wp_loop_rounds 2 ?_
    (rw [rounds_succ]; go_wp2)
    go_ret
    exact ⟨rfl, Below.refl _ _⟩
  have q2 : (p % 2 == 0) = false := by rw [hr2]; simpa using d2
  by_cases d3 : r3 = 0
  · subst d3
    clear hn hm hr2 hr5 hr7 d2
    go_enter Tryd.func48, Tryd.ntmps48
    go_wp2
    refine wp_loop_rounds 3 ?_
    (rw [rounds_succ]; go_wp2)
    (rw [rounds_succ]; go_wp2)
    go_ret
    exact ⟨rfl, Below.refl _ _⟩
  have q3 : (p % 3 == 0) = false := by rw [hr3]; simpa using d3
  by_cases d5 : r5 = 0
  · subst d5
    clear hn hm hr2 hr3 hr7 d2 d3
    go_enter Tryd.func48, Tryd.ntmps48
    go_wp2
    refine wp_loop_rounds 4 ?_
    (rw [rounds_succ]; go_wp2)
    (rw [rounds_succ]; go_wp2)
    (rw [rounds_succ]; go_wp2)
    go_ret
    exact ⟨rfl, Below.refl _ _⟩
  have q5 : (p % 5 == 0) = false := by rw [hr5]; simpa using d5
  by_cases d7 : r7 = 0
  · subst d7
    clear hn hm hr2 hr3 hr5 d2 d3 d5
    go_enter Tryd.func48, Tryd.ntmps48
    go_wp2
    refine wp_loop_rounds 5 ?_
    (rw [rounds_succ]; go_wp2)
    (rw [rounds_succ]; go_wp2)
    (rw [rounds_succ]; go_wp2)
    (rw [rounds_succ]; go_wp2)
    go_ret
    exact ⟨rfl, Below.refl _ _⟩
  have q7 : (p % 7 == 0) = false := by rw [hr7]; simpa using d7
  have hm1 : 1 ≤ m := by omega
  have hm2 : m ≤ 2147483647 := by omega
  obtain ⟨b2, hb2⟩ : ∃ b, sprM (m + 1) 2 = b := ⟨_, rfl⟩
  obtain ⟨b3, hb3⟩ : ∃ b, sprM (m + 1) 3 = b := ⟨_, rfl⟩
  obtain ⟨b5, hb5⟩ : ∃ b, sprM (m + 1) 5 = b := ⟨_, rfl⟩
  obtain ⟨b7, hb7⟩ : ∃ b, sprM (m + 1) 7 = b := ⟨_, rfl⟩
  have hall : ¬ (b2 = true ∧ b3 = true ∧ b5 = true ∧ b7 = true) := by
    rintro ⟨rfl, rfl, rfl, rfl⟩
    have hpass : passM (m + 1) = true := by
      show (sprM (m + 1) 2).and ((sprM (m + 1) 3).and ((sprM (m + 1) 5).and (sprM (m + 1) 7))) = true
      rw [hb2, hb3, hb5, hb7]; rfl
    have h := (passM_prime (n := m + 1) (by omega) (by omega) (cop_210 (by omega) (by omega) (by omega) (by omega)) hpass).int
    exact hn (by rw [hm]; exact h)
  have H2 : ∀ W, TabAt 0 Lib.deBruijn64tab W → Calls Tryd.prog 71 #[.int .u64 p, .int .u64 2] W fun e w' => e = .returned (.bool b2) ∧ Below W.heap.size W w' := fun W hW => by
    rw [hm]; exact looksSoB_any m 2 b2 W hm1 hm2 (by omega) hb2 hW
  have H3 : ∀ W, TabAt 0 Lib.deBruijn64tab W → Calls Tryd.prog 71 #[.int .u64 p, .int .u64 3] W fun e w' => e = .returned (.bool b3) ∧ Below W.heap.size W w' := fun W hW => by
    rw [hm]; exact looksSoB_any m 3 b3 W hm1 hm2 (by omega) hb3 hW
  have H5 : ∀ W, TabAt 0 Lib.deBruijn64tab W → Calls Tryd.prog 71 #[.int .u64 p, .int .u64 5] W fun e w' => e = .returned (.bool b5) ∧ Below W.heap.size W w' := fun W hW => by
    rw [hm]; exact looksSoB_any m 5 b5 W hm1 hm2 (by omega) hb5 hW
  have H7 : ∀ W, TabAt 0 Lib.deBruijn64tab W → Calls Tryd.prog 71 #[.int .u64 p, .int .u64 7] W fun e w' => e = .returned (.bool b7) ∧ Below W.heap.size W w' := fun W hW => by
    rw [hm]; exact looksSoB_any m 7 b7 W hm1 hm2 (by omega) hb7 hW
  have HH : Hid (TabAt 0 Lib.deBruijn64tab w) := hT
  clear hT hn hm hr2 hr3 hr5 hr7 d2 d3 d5 d7 hb2 hb3 hb5 hb7 hm1 hm2
  by_cases t2 : b2 = true
  · subst t2
    by_cases t3 : b3 = true
    · subst t3
      by_cases t5 : b5 = true
      · subst t5
        obtain rfl : b7 = false := by
          cases b7
          · rfl
          · exact absurd ⟨rfl, rfl, rfl, rfl⟩ hall
        clear hall
        go_enter Tryd.func48, Tryd.ntmps48
        go_wp2
        refine wp_loop_rounds 5 ?_
        (rw [rounds_succ]; go_wp2)
        (rw [rounds_succ]; go_wp2)
        (rw [rounds_succ]; go_wp2)
        (rw [rounds_succ]; go_wp2)
        (rw [rounds_succ]; go_wp2)
        refine wp_loop_rounds 5 ?_
        (rw [rounds_succ]; go_wp2_with (go_at_call 71; refine (H2 _ HH.out).mono ?_; rintro e w2 ⟨rfl, hb2⟩))
        (rw [rounds_succ]; go_wp2_with (go_at_call 71; refine (H3 _ (mtab_later HH.out hb2)).mono ?_; rintro e w3 ⟨rfl, hb3'⟩; have hb3 := hb2.trans (hb3'.mono hb2.size); clear hb3'))
        (rw [rounds_succ]; go_wp2_with (go_at_call 71; refine (H5 _ (mtab_later HH.out hb3)).mono ?_; rintro e w5 ⟨rfl, hb5'⟩; have hb5 := hb3.trans (hb5'.mono hb3.size); clear hb5'))
        (rw [rounds_succ]; go_wp2_with (go_at_call 71; refine (H7 _ (mtab_later HH.out hb5)).mono ?_; rintro e w7 ⟨rfl, hb7'⟩; have hb7 := hb5.trans (hb7'.mono hb5.size); clear hb7'))
        go_ret
        exact ⟨rfl, hb7⟩
      · obtain rfl : b5 = false := by simpa using t5
        clear hall t5
        go_enter Tryd.func48, Tryd.ntmps48
        go_wp2
        refine wp_loop_rounds 5 ?_
        (rw [rounds_succ]; go_wp2)
        (rw [rounds_succ]; go_wp2)
        (rw [rounds_succ]; go_wp2)
        (rw [rounds_succ]; go_wp2)
        (rw [rounds_succ]; go_wp2)
        refine wp_loop_rounds 4 ?_
        (rw [rounds_succ]; go_wp2_with (go_at_call 71; refine (H2 _ HH.out).mono ?_; rintro e w2 ⟨rfl, hb2⟩))
        (rw [rounds_succ]; go_wp2_with (go_at_call 71; refine (H3 _ (mtab_later HH.out hb2)).mono ?_; rintro e w3 ⟨rfl, hb3'⟩; have hb3 := hb2.trans (hb3'.mono hb2.size); clear hb3'))
        (rw [rounds_succ]; go_wp2_with (go_at_call 71; refine (H5 _ (mtab_later HH.out hb3)).mono ?_; rintro e w5 ⟨rfl, hb5'⟩; have hb5 := hb3.trans (hb5'.mono hb3.size); clear hb5'))
        go_ret
        exact ⟨rfl, hb5⟩
    · obtain rfl : b3 = false := by simpa using t3
      clear hall t3
      go_enter Tryd.func48, Tryd.ntmps48
      go_wp2
      refine wp_loop_rounds 5 ?_
      (rw [rounds_succ]; go_wp2)
      (rw [rounds_succ]; go_wp2)
      (rw [rounds_succ]; go_wp2)
      (rw [rounds_succ]; go_wp2)
      (rw [rounds_succ]; go_wp2)
      refine wp_loop_rounds 3 ?_
      (rw [rounds_succ]; go_wp2_with (go_at_call 71; refine (H2 _ HH.out).mono ?_; rintro e w2 ⟨rfl, hb2⟩))
      (rw [rounds_succ]; go_wp2_with (go_at_call 71; refine (H3 _ (mtab_later HH.out hb2)).mono ?_; rintro e w3 ⟨rfl, hb3'⟩; have hb3 := hb2.trans (hb3'.mono hb2.size); clear hb3'))
      go_ret
      exact ⟨rfl, hb3⟩
  · obtain rfl : b2 = false := by simpa using t2
    clear hall t2
    go_enter Tryd.func48, Tryd.ntmps48
    go_wp2
    refine wp_loop_rounds 5 ?_
    (rw [rounds_succ]; go_wp2)
    (rw [rounds_succ]; go_wp2)
    (rw [rounds_succ]; go_wp2)
    (rw [rounds_succ]; go_wp2)
    (rw [rounds_succ]; go_wp2)
    refine wp_loop_rounds 2 ?_
    (rw [rounds_succ]; go_wp2_with (go_at_call 71; refine (H2 _ HH.out).mono ?_; rintro e w2 ⟨rfl, hb2⟩))
    go_ret
    exact ⟨rfl, hb2⟩
end Go.Proofs.YtnniipekcbjloaaDoor
/-
  MM: walks: what is too heavy; the law's items in memory, and off a reading.
-/
namespace Go.Proofs.YtnniipekcbjloaaDoor
open Go.RowKit Go.Shelf Go.ChangeShapes Go.WideShapes Go.ChangeAt
set_option linter.unusedVariables false
set_option linter.unusedSimpArgs false
/-- a list of numbers: how long each is -/
def PolyL (w : World) (po : Option Addr) (pl : Nat) (ls : List Nat) : Prop :=
  pl = ls.length ∧ ∀ t, (ht : t < ls.length) → ∃ b off n o c, po = some ⟨b, off, none⟩ ∧ w.cell? ⟨b, off + t * 2, none⟩ = some (.bool n) ∧ w.cell? ⟨b, off + t * 2 + 1, none⟩ = some (.slice o ls[t] c)
theorem PolyL.later {w w' : World} {po : Option Addr} {pl : Nat} {ls : List Nat} (h : PolyL w po pl ls) (hb : Below w.heap.size w w') : PolyL w' po pl ls :=
  ⟨h.1, fun t ht => by
    obtain ⟨b, off, n, o, c, e, h1, h2⟩ := h.2 t ht
    exact ⟨b, off, n, o, c, e, (hb.cell (p := ⟨b, off + t * 2, none⟩) (cell_lt h1)).trans h1, (hb.cell (p := ⟨b, off + t * 2 + 1, none⟩) (cell_lt h2)).trans h2⟩⟩
/-- too many numbers, or too long ones -/
def hvB (pl : Nat) (ls : List Nat) : Bool := decide (13 < pl) || ls.any fun l => decide (3 < l)
set_option maxRecDepth 100000 in
set_option maxHeartbeats 1000000 in
theorem mheavyPoly_any (c : Bool) (po : Option Addr) (pl pc : Nat) (ls : List Nat) (w : World) (hr : PolyL w po pl ls) (hc : hvB pl ls = c) :
    Calls Tryd.prog 34 #[.slice po pl pc, .int .i64 12, .int .i64 3] w fun e w' => e = .returned (.bool c) ∧ Below w.heap.size w w' := by
  by_cases hd : 13 < pl
  · obtain rfl : c = true := by rw [← hc]; simp [hvB, hd]
    have hd' : ((13 : Int) < (pl : Int)) := by omega
    clear hd hc
    go_enter Tryd.func34, Tryd.ntmps34
    go_wp2
    go_ret
    exact ⟨rfl, Below.refl _ _⟩
  · have hd' : ¬ ((13 : Int) < (pl : Int)) := by omega
    have HR : Hid (PolyL w po pl ls ∧ hvB pl ls = c ∧ ¬ 13 < pl) := ⟨hr, hc, hd⟩
    have hp13 : pl ≤ 13 := by omega
    clear hr hc hd
    go_enter Tryd.func34, Tryd.ntmps34
    go_wp2
    go_loopw [7] (fun i wr => ∃ k : Nat, k ≤ pl ∧ i = .int .i64 k ∧ Hid (Below w.heap.size w wr ∧ ∀ t, (ht : t < ls.length) → t < k → ls[t] ≤ 3)) (fun i _ => pl - (intOf i).toNat)
    case atStart => exact ⟨0, Nat.zero_le _, rfl, Below.refl _ _, fun t _ ht => absurd ht (by omega)⟩
    case round =>
      obtain ⟨k, hk, rfl, HZ⟩ := hrel
      by_cases hlt : k < pl
      · have hkl : k < ls.length := by rw [← HR.out.1.1]; exact hlt
        obtain ⟨b, off, n, o, cc, rfl, h1, h2⟩ := (HR.out.1.later HZ.out.1).2 k hkl
        obtain ⟨l, hl⟩ : ∃ l, ls[k] = l := ⟨_, rfl⟩
        rw [hl] at h2
        have HL : Hid (ls[k] = l ∧ k < ls.length) := ⟨hl, hkl⟩
        have z1 : (k : Int) < (pl : Int) := by omega
        have z2 : (0 : Int) ≤ (k : Int) := by omega
        by_cases h3 : 3 < l
        · obtain rfl : c = true := by
            rw [← HR.out.2.1]; unfold hvB
            exact Bool.or_eq_true_iff.2 (Or.inr (List.any_eq_true.2 ⟨ls[k], List.getElem_mem hkl, decide_eq_true (by rw [hl]; exact h3)⟩))
          have hcon : ∀ W', Calls Tryd.prog 62 #[.agg #[.bool n, .slice o l cc], .int .i64 3] W' fun e w' => e = .returned (.bool true) ∧ Below W'.heap.size W' w' := fun W' => (long_any n o l cc 3 W').mono fun e w' h => by rw [decide_eq_true (by omega)] at h; exact h
          clear h3 hl
          go_wp2_with (go_at_call 62; refine (hcon _).mono ?_; rintro e w1 ⟨rfl, hb1⟩)
          go_ret
          exact ⟨rfl, bnextM (B := 0) HZ.out.1 hb1⟩
        · have hcon : ∀ W', Calls Tryd.prog 62 #[.agg #[.bool n, .slice o l cc], .int .i64 3] W' fun e w' => e = .returned (.bool false) ∧ Below W'.heap.size W' w' := fun W' => (long_any n o l cc 3 W').mono fun e w' h => by rw [decide_eq_false (by omega)] at h; exact h
          have H3 : Hid (¬ 3 < l) := h3
          clear h3 hl
          go_wp2_with (go_at_call 62; refine (hcon _).mono ?_; rintro e w1 ⟨rfl, hb1⟩)
          go_roundw
          case rel => exact ⟨k + 1, by omega, by go_num, bnextM (B := 0) HZ.out.1 hb1, fun t ht htk => by
            by_cases e : t = k
            · subst e; have := HL.out.1; have := H3.out; omega
            · exact HZ.out.2 t ht (by omega)⟩
          case measure => simp [intOf]; omega
      · have z1 : ¬ (k : Int) < (pl : Int) := by omega
        obtain rfl : c = false := by
          rw [← HR.out.2.1]; unfold hvB
          rw [Bool.or_eq_false_iff]
          refine ⟨decide_eq_false HR.out.2.2, ?_⟩
          rw [List.any_eq_false]
          intro r hr
          obtain ⟨t, ht, rfl⟩ := List.getElem_of_mem hr
          have := HZ.out.2 t ht (by have := HR.out.1.1; omega)
          simp; omega
        go_wp2
        go_ret
        exact ⟨rfl, HZ.out.1⟩
/-- an item's cells -/
def itemV (ao bo co : Option Addr) (la ca lb cb lc cc : Nat) (N P : Int) (po : Option Addr) (pl pc : Nat) : List Value :=
  [.slice ao la ca, .slice bo lb cb, .slice co lc cc, .int .u64 N, .int .u64 P, .slice po pl pc]
/-- is an item too heavy? -/
def hvI (la lb lc pl : Nat) (ls : List Nat) : Bool := decide (12 < la) || (decide (12 < lb) || (decide (12 < lc) || hvB pl ls))
set_option maxRecDepth 100000 in
set_option maxHeartbeats 1000000 in
theorem mheavy_any (c : Bool) (ao bo co : Option Addr) (la ca lb cb lc cc : Nat) (N P : Int) (po : Option Addr) (pl pc : Nat) (ls : List Nat) (w : World) (hr : PolyL w po pl ls) (hc : hvI la lb lc pl ls = c) :
    Calls Tryd.prog 5 #[.agg #[.slice ao la ca, .slice bo lb cb, .slice co lc cc, .int .u64 N, .int .u64 P, .slice po pl pc]] w fun e w' => e = .returned (.bool c) ∧ Below w.heap.size w w' := by
  have HB : Hid (Below w.heap.size w (w.alloc (.cells #[.slice ao la ca, .slice bo lb cb, .slice co lc cc, .int .u64 N, .int .u64 P, .slice po pl pc] 29))) := (Below.refl _ _).alloc (Nat.le_refl _) _
  by_cases h1 : 12 < la
  · obtain rfl : c = true := by rw [← hc]; simp [hvI, h1]
    have h1' : (12 : Int) < (la : Int) := by omega
    clear hc h1 hr
    go_enter Tryd.func5, Tryd.ntmps5
    go_wp2
    go_ret
    exact ⟨rfl, HB.out⟩
  · have h1' : ¬ (12 : Int) < (la : Int) := by omega
    by_cases h2 : 12 < lb
    · obtain rfl : c = true := by rw [← hc]; simp [hvI, h2]
      have h2' : (12 : Int) < (lb : Int) := by omega
      clear hc h1 h2 hr
      go_enter Tryd.func5, Tryd.ntmps5
      go_wp2
      go_ret
      exact ⟨rfl, HB.out⟩
    · have h2' : ¬ (12 : Int) < (lb : Int) := by omega
      by_cases h3 : 12 < lc
      · obtain rfl : c = true := by rw [← hc]; simp [hvI, h3]
        have h3' : (12 : Int) < (lc : Int) := by omega
        clear hc h1 h2 h3 hr
        go_enter Tryd.func5, Tryd.ntmps5
        go_wp2
        go_ret
        exact ⟨rfl, HB.out⟩
      · have h3' : ¬ (12 : Int) < (lc : Int) := by omega
        have hc' : hvB pl ls = c := by rw [← hc]; simp [hvI, h1, h2, h3]
        have HC : Hid (∀ W, Below w.heap.size w W → Calls Tryd.prog 34 #[.slice po pl pc, .int .i64 12, .int .i64 3] W fun e w' => e = .returned (.bool c) ∧ Below W.heap.size W w') := fun W hb => mheavyPoly_any c po pl pc ls W (hr.later hb) hc'
        clear hc hc' h1 h2 h3 hr
        go_enter Tryd.func5, Tryd.ntmps5
        go_wp2_with (go_at_call 34; refine (HC.out _ HB.out).mono ?_; rintro e w1 ⟨rfl, hb1⟩)
        go_ret
        exact ⟨rfl, bnextM (B := 0) HB.out hb1⟩
/-- an item of the law lies in block b from o on -/
def Item11 (w : World) (b o : Nat) : Prop :=
  ∃ (ao bo co : Option Addr) (la ca lb cb lc cc : Nat) (N P : Int) (po : Option Addr) (pl pc : Nat) (x y z : List Int) (ls : List Nat),
    (∀ j v, (itemV ao bo co la ca lb cb lc cc N P po pl pc)[j]? = some v → w.cell? ⟨b, o + j, none⟩ = some v) ∧
    (RowAt w .u64 ao la ca x ∧ Wd 18446744073709551616 x ∧ la ≤ 9223372036854775807) ∧ (RowAt w .u64 bo lb cb y ∧ Wd 18446744073709551616 y ∧ lb ≤ 9223372036854775807) ∧ (RowAt w .u64 co lc cc z ∧ Wd 18446744073709551616 z ∧ lc ≤ 9223372036854775807) ∧
    (0 ≤ N ∧ N < 18446744073709551616) ∧ (0 ≤ P ∧ P < 18446744073709551616) ∧ PolyL w po pl ls
/-- a list of such -/
def Items11 (w : World) (lo : Option Addr) (n : Nat) : Prop := ∀ i, i < n → ∃ b off, lo = some ⟨b, off, none⟩ ∧ b < w.heap.size ∧ Item11 w b (off + i * 6)
theorem Item11.later {w w' : World} {b o : Nat} (h : Item11 w b o) (hb : Below w.heap.size w w') : Item11 w' b o := by
  obtain ⟨ao, bo, co, la, ca, lb, cb, lc, cc, N, P, po, pl, pc, x, y, z, ls, hc, hx, hy, hz, hN, hP, hl⟩ := h
  exact ⟨ao, bo, co, la, ca, lb, cb, lc, cc, N, P, po, pl, pc, x, y, z, ls, fun j v hj => (hb.cell (p := ⟨b, o + j, none⟩) (cell_lt (hc j v hj))).trans (hc j v hj), ⟨hx.1.later hb, hx.2⟩, ⟨hy.1.later hb, hy.2⟩, ⟨hz.1.later hb, hz.2⟩, hN, hP, hl.later hb⟩
theorem Items11.later {w w' : World} {lo : Option Addr} {n : Nat} (h : Items11 w lo n) (hb : Below w.heap.size w w') : Items11 w' lo n := fun i hi => by
  obtain ⟨b, off, e, hlt, hit⟩ := h i hi
  exact ⟨b, off, e, Nat.lt_of_lt_of_le hlt hb.size, hit.later hb⟩
theorem mcells_two : Tryd.prog.cellsOf 29 = 6 := by kernel_rfl
theorem mcells_u64 : Tryd.prog.cellsOf 25 = 1 := by kernel_rfl
theorem mcells_f : Tryd.prog.cellsOf 24 = 1 := by kernel_rfl
theorem mcells_poly : Tryd.prog.cellsOf 27 = 1 := by kernel_rfl
theorem madd_off {b off j : Nat} : Addr.add ⟨b, off, none⟩ j = ⟨b, off + j, none⟩ := by
  by_cases h0 : j = 0
  · subst h0; simp [Addr.add]
  · simp [Addr.add, h0]
/-- words, off a reading -/
theorem mrow_of_trod {H : Type} {enc : TypeId × Value → H} {W : World} {fuel : Nat} {v : Value} {x : DataW H × List MemPlace} (h : DataW.trod enc Tryd.prog W 0 (fun _ => true) true fuel 24 [v] = some x) :
    ∃ ao len cap zs, v = .slice ao len cap ∧ RowAt W .u64 ao len cap zs ∧ Wd 18446744073709551616 zs ∧ cap ≤ 9223372036854775807 := by
  rcases open_ints Tryd.underlying24 Tryd.underlying25 mcells_u64 h with ⟨hcs, _⟩ | ⟨a, len, cap, zs, hcs, _, hl, hm, hz, _, hcell, hwz⟩
  · simp at hcs; subst hcs
    exact ⟨none, 0, 0, [], rfl, RowAt.nilRow W .u64, Wd.nil _, by decide⟩
  · simp at hcs; subst hcs
    simp only [if_true] at hz
    refine ⟨some a, len, cap, zs.take len, rfl, ⟨by simp; omega, hl, fun e => (by cases e), ?_⟩, ?_, hm⟩
    · by_cases h0 : len = 0
      · exact Or.inl h0
      · right
        obtain ⟨b, off, spot⟩ := a
        have hs : spot = none := by simpa [Addr.add] using World.cell?_spot (hcell 0 (by omega))
        subst hs
        refine ⟨b, off, rfl, ?_, fun t ht => ?_⟩
        · have := hcell 0 (by omega)
          rw [madd_off] at this; exact cell_lt this
        · have := hcell t (by omega)
          rw [madd_off] at this
          rw [dig_take ht]; exact this
    · intro z hz'
      have := bounds_u64 (hwz z (List.mem_of_mem_take hz'))
      omega
theorem mtrod_struct6 {H : Type} {enc : TypeId × Value → H} {P : Program} {w : World} {base : Nat} {spare : Nat → Bool} {held : Bool} {t : TypeId} {f0 f1 f2 f3 f4 f5 : Field} {fuel : Nat} {cs : List Value} {x : DataW H × List MemPlace} (ht : P.underlying t = some (.struct #[f0, f1, f2, f3, f4, f5])) (h : DataW.trod enc P w base spare held fuel t cs = some x) :
    ∃ y0 y1 y2 y3 y4 y5 n, DataW.trod enc P w base spare held n f0.type ((cs.drop f0.offset).take (P.cellsOf f0.type)) = some y0 ∧
      DataW.trod enc P w base spare held n f1.type ((cs.drop f1.offset).take (P.cellsOf f1.type)) = some y1 ∧ DataW.trod enc P w base spare held n f2.type ((cs.drop f2.offset).take (P.cellsOf f2.type)) = some y2 ∧
      DataW.trod enc P w base spare held n f3.type ((cs.drop f3.offset).take (P.cellsOf f3.type)) = some y3 ∧ DataW.trod enc P w base spare held n f4.type ((cs.drop f4.offset).take (P.cellsOf f4.type)) = some y4 ∧ DataW.trod enc P w base spare held n f5.type ((cs.drop f5.offset).take (P.cellsOf f5.type)) = some y5 := by
  obtain ⟨xs, n, _, rfl, hl, hlen, hf⟩ := DataW.trod_struct ht h
  match xs, hlen with
  | [y0, y1, y2, y3, y4, y5], _ => exact ⟨y0, y1, y2, y3, y4, y5, n, by simpa using hf 0 f0 rfl, by simpa using hf 1 f1 rfl, by simpa using hf 2 f2 rfl, by simpa using hf 3 f3 rfl, by simpa using hf 4 f4 rfl, by simpa using hf 5 f5 rfl⟩
end Go.Proofs.YtnniipekcbjloaaDoor
/-
  PB: walks: modp's Check, checkBoth, checkDivisor of whatever lies there; the faces where they refuse.
-/
namespace Go.Proofs.YtnniipekcbjloaaDoor
open Go.RowKit Go.Shelf
set_option linter.unusedVariables false
set_option linter.unusedSimpArgs false
/-- a row of words, whatever they are -/
def RawF (w : World) (ao : Option Addr) (len cap : Nat) (zs : List Int) : Prop := RowAt w .u64 ao len cap zs ∧ Wd 18446744073709551616 zs ∧ len ≤ 9223372036854775807
theorem RawF.later {w w' : World} {ao : Option Addr} {len cap : Nat} {zs : List Int} (h : RawF w ao len cap zs) (hb : Below w.heap.size w w') : RawF w' ao len cap zs := ⟨h.1.later hb, h.2⟩
/-- what modp takes -/
def okF (p : Int) (len : Nat) (zs : List Int) : Prop := (IsPr p ∧ p < 2147483648) ∧ Pm p zs ∧ len ≤ 1025
theorem RawF.good {p : Int} {w : World} {ao : Option Addr} {len cap : Nat} {zs : List Int} (h : RawF w ao len cap zs) (k : okF p len zs) : GoodF p w ao len cap zs := ⟨⟨h.1, k.2.1.wd, by have := k.2.2; omega⟩, k.2.1, k.2.2⟩
set_option maxRecDepth 100000 in
set_option maxHeartbeats 1000000 in
theorem mcheck_no (p : Int) (ao : Option Addr) (len cap : Nat) (zs : List Int) (w : World) (hp : 0 ≤ p ∧ p < 18446744073709551616) (hT : TabAt 0 Lib.deBruijn64tab w) (hf : RawF w ao len cap zs) (h : ¬ okF p len zs) :
    Calls Tryd.prog 18 #[.slice ao len cap, .int .u64 p] w fun e w' => e = .returned (.int .i64 90) ∧ Below w.heap.size w w' := by
  by_cases hl : 1025 < len
  · have hl' : (1025 : Int) < (len : Int) := by omega
    clear hf h hT hp hl
    go_enter Tryd.func18, Tryd.ntmps18
    go_wp2
    go_ret
    exact ⟨rfl, Below.refl _ _⟩
  have hl' : ¬ (1025 : Int) < (len : Int) := by omega
  by_cases hpr : IsPr p ∧ p < 2147483648
  · have HI := isPrime_any p w hpr.1 hpr.2 hT
    have HN : Hid (¬ Pm p zs) := fun h2 => h ⟨hpr, h2, by omega⟩
    have HF : Hid (RawF w ao len cap zs ∧ len = zs.length) := ⟨hf, hf.1.hlen⟩
    have HL : Hid (len ≤ 1025) := by show _ ≤ _; omega
    clear h hT hpr
    by_cases h0 : len = 0
    · exfalso
      refine HN.out ?_
      have : zs = [] := List.eq_nil_of_length_eq_zero (by have := HF.out.2; omega)
      rw [this]; exact Pm.nil p
    obtain ⟨b, off, rfl, hb, hc⟩ := hf.1.get (by omega)
    have hcell := hc (len - 1) (by omega)
    obtain ⟨z, hz⟩ : ∃ z, dig zs (len - 1) = z := ⟨_, rfl⟩
    rw [hz] at hcell
    have HCE : Hid (∀ wr, Below w.heap.size w wr → wr.cell? ⟨b, off + (len - 1), none⟩ = some (.int .u64 z)) := fun wr hb => (hb.cell (p := ⟨b, off + (len - 1), none⟩) (cell_lt hcell)).trans hcell
    have HCA : Hid (∀ wr, Below w.heap.size w wr → ∀ k, k < len → wr.cell? ⟨b, off + k, none⟩ = some (.int .u64 (dig zs k))) := fun wr hb k hk => (hb.cell (p := ⟨b, off + k, none⟩) (cell_lt (hc k hk))).trans (hc k hk)
    have e1 : (len : Int) - 1 = ((len - 1 : Nat) : Int) := by omega
    have e2 : (0 : Int) < (len : Int) := by omega
    have e3 : len - 1 < len := by omega
    clear hf hc hcell h0 hl
    by_cases hz0 : z = 0
    · subst hz0
      clear hz
      go_enter Tryd.func18, Tryd.ntmps18
      go_wp2_with (go_at_call 48; refine HI.mono ?_; rintro e w1 ⟨rfl, hb1⟩; have hcc := HCE.out _ hb1)
      go_ret
      exact ⟨rfl, hb1⟩
    · have hz1 : (z == 0) = false := by simpa using hz0
      have HW : Hid (¬ Wd p zs) := fun hw => HN.out ⟨hw, can_of_dig fun _ => by rw [← HF.out.2, hz]; exact hz0⟩
      clear hz0 hz
      go_enter Tryd.func18, Tryd.ntmps18
      go_wp2_with (go_at_call 48; refine HI.mono ?_; rintro e w1 ⟨rfl, hb1⟩; have hcc := HCE.out _ hb1)
      go_loopw [29, 6] (fun i z wr => ∃ k : Nat, k ≤ len ∧ i = .int .i64 (k : Int) ∧ wr = w1 ∧ Hid (∀ t, t < k → dig zs t < p)) (fun i _ _ => len - (intOf i).toNat)
      case atStart => exact ⟨0, Nat.zero_le _, rfl, rfl, fun t ht => absurd ht (by omega)⟩
      case round =>
        obtain ⟨k, hk, rfl, rfl, HZ⟩ := hrel
        by_cases hlt : k < len
        · have hc' := HCA.out _ hb1 k hlt
          have hzb := HF.out.1.2.1.dig (by decide) k
          obtain ⟨y, hy⟩ : ∃ y, dig zs k = y := ⟨_, rfl⟩
          rw [hy] at hc' hzb
          have z1 : (k : Int) < (len : Int) := by omega
          have z2 : (0 : Int) ≤ (k : Int) := by omega
          have hy0 : 0 ≤ y := hzb.1
          clear hcc hzb
          by_cases hyp : p ≤ y
          · clear hy
            go_wp2
            go_ret
            exact ⟨rfl, hb1⟩
          · have HY : Hid (dig zs k < p) := by show _ < _; omega
            clear hy
            go_wp2
            go_roundw
            case rel => exact ⟨k + 1, by omega, by go_num, by first | trivial | rfl, fun t ht => by
              by_cases e : t = k
              · subst e; exact HY.out
              · exact HZ.out t (by omega)⟩
            case measure => simp [intOf]; omega
        · exfalso
          refine HW.out fun z hz => ?_
          obtain ⟨i, hi, rfl⟩ := List.getElem_of_mem hz
          have e : zs[i] = dig zs i := by simp [dig, hi]
          have h2 := HF.out.1.2.1 _ hz
          have h3 := HF.out.2
          rw [e] at h2 ⊢
          exact ⟨h2.1, HZ.out i (by omega)⟩
  · have HI := isPrime_no p w hp hpr hT
    clear hf h hT hp hl hpr
    go_enter Tryd.func18, Tryd.ntmps18
    go_wp2_with (go_at_call 48; refine HI.mono ?_; rintro e w1 ⟨rfl, hb1⟩)
    go_ret
    exact ⟨rfl, hb1⟩
set_option maxHeartbeats 400000 in
theorem mcheckBoth_no (p : Int) (ao bo : Option Addr) (la ca lb cb : Nat) (f g : List Int) (w : World) (hp : 0 ≤ p ∧ p < 18446744073709551616) (hT : TabAt 0 Lib.deBruijn64tab w) (hf : RawF w ao la ca f) (hg : RawF w bo lb cb g) (h : ¬ (okF p la f ∧ okF p lb g)) :
    Calls Tryd.prog 49 #[.slice ao la ca, .slice bo lb cb, .int .u64 p] w fun e w' => e = .returned (.int .i64 90) ∧ Below w.heap.size w w' := by
  by_cases h1 : okF p la f
  · have h2 : ¬ okF p lb g := fun k => h ⟨h1, k⟩
    have H1 := mcheck_any p ao la ca f w ⟨h1.1.1, h1.1.2, hT⟩ (hf.good h1)
    have H2 : Hid (∀ W, Below w.heap.size w W → Calls Tryd.prog 18 #[.slice bo lb cb, .int .u64 p] W fun e w' => e = .returned (.int .i64 90) ∧ Below W.heap.size W w') := fun W hb => mcheck_no p bo lb cb g W hp (mtab_later hT hb) (hg.later hb) h2
    clear h h1 h2 hf hg hT hp
    go_enter Tryd.func49, Tryd.ntmps49
    go_wp2_with (first
      | (go_at_call 18; have _t := hb1; refine (H2.out _ hb1).mono ?_; rintro e w2 ⟨rfl, hb2⟩)
      | (go_at_call 18; refine H1.mono ?_; rintro e w1 ⟨rfl, hb1⟩))
    go_ret
    exact ⟨rfl, bnextM (B := 0) hb1 hb2⟩
  · have H1 := mcheck_no p ao la ca f w hp hT hf h1
    clear h h1 hf hg hT hp
    go_enter Tryd.func49, Tryd.ntmps49
    go_wp2_with (go_at_call 18; refine H1.mono ?_; rintro e w1 ⟨rfl, hb1⟩)
    go_ret
    exact ⟨rfl, hb1⟩
/-- what a division tells of whether it may be -/
def divC (p : Int) (la lb : Nat) (f g : List Int) (c : Int) : Prop := (okF p la f ∧ okF p lb g → lb = 0 ∧ c = 91) ∧ (¬ (okF p la f ∧ okF p lb g) → c = 90)
theorem divC.or {p c : Int} {la lb : Nat} {f g : List Int} (h : divC p la lb f g c) : c = 90 ∨ c = 91 := by
  by_cases h1 : okF p la f ∧ okF p lb g
  · exact Or.inr (h.1 h1).2
  · exact Or.inl (h.2 h1)
end Go.Proofs.YtnniipekcbjloaaDoor
/-
  PC: in plain: made monic; what is left, step by step, till nothing divides; walks: modp's monic, Gcd.
-/
namespace Go.Proofs.YtnniipekcbjloaaDoor
open Go.RowKit Go.Shelf
set_option linter.unusedVariables false
set_option linter.unusedSimpArgs false
/-- the reciprocal of the last coefficient -/
def leadInv (p : Int) (f : List Int) : Int := dig f (f.length - 1) ^ (p.toNat - 2) % p
/-- divided by the last coefficient -/
def monL (p : Int) (f : List Int) : List Int := f.map fun z => z * leadInv p f % p
theorem mapF_dig (F : Int → Int) (l : List Int) (k : Nat) (h : k < l.length) : dig (l.map F) k = F (dig l k) := by simp [dig, h]
theorem monL_len (p : Int) (f : List Int) : (monL p f).length = f.length := by simp [monL]
theorem monL_dig {p : Int} {f : List Int} {k : Nat} (h : k < f.length) : dig (monL p f) k = dig f k * leadInv p f % p := mapF_dig _ f k h
theorem leadInv_in {p : Int} (hp : 0 < p) (f : List Int) : 0 ≤ leadInv p f ∧ leadInv p f < p := ⟨Int.emod_nonneg _ (by omega), Int.emod_lt_of_pos _ hp⟩
theorem lead_one {p : Int} (hp : IsPr p) {f : List Int} (hf : Pm p f) (h : 0 < f.length) : dig f (f.length - 1) * leadInv p f % p = 1 := by
  have h2 := hp.two
  have hl := hf.lead (by omega) h
  obtain ⟨k, hk⟩ := hp.inv hl.1 hl.2
  unfold leadInv
  rw [Int.mul_emod, Int.emod_emod_of_dvd _ (Int.dvd_refl p), ← Int.mul_emod, hk, Int.add_mul_emod_self_left]
  exact Int.emod_eq_of_lt (by decide) (by omega)
theorem monL_pm {p : Int} (hp : IsPr p) {f : List Int} (hf : Pm p f) : Pm p (monL p f) := by
  have h2 := hp.two
  refine ⟨fun z hz => ?_, can_of_dig fun hl => ?_⟩
  · obtain ⟨y, _, rfl⟩ := List.mem_map.1 hz
    exact ⟨Int.emod_nonneg _ (by omega), Int.emod_lt_of_pos _ (by omega)⟩
  · rw [monL_len] at hl ⊢
    rw [monL_dig (by omega), lead_one hp hf hl]
    decide
/-- what is left of f by g -/
def Rm (p : Int) (f g r : List Int) : Prop := Pm p r ∧ r.length < g.length ∧ ∃ q, EqM p (fun x => ev f x) (fun x => ev q x * ev g x + ev r x)
theorem Rm.uniq {p : Int} {f g r s : List Int} (hp : IsPr p) (hg : Pm p g) (h : Rm p f g r) (k : Rm p f g s) : r = s := by
  obtain ⟨h1, h2, q, h3⟩ := h
  obtain ⟨k1, k2, q', k3⟩ := k
  exact Md.inj hp hg h1 k1 h2 k2 ((Md.ofDiv h3).trans (Md.ofDiv k3).symm)
/-- divided on till nothing is left -/
def GcdTo (p : Int) : Nat → List Int → List Int → List Int → Prop
  | 0, f, g, d => g = [] ∧ f = d
  | n + 1, f, g, d => g ≠ [] ∧ ∃ r, Rm p f g r ∧ GcdTo p n g r d
theorem GcdTo.uniq {p : Int} (hp : IsPr p) : ∀ {n m : Nat} {f g d e : List Int}, Pm p g → GcdTo p n f g d → GcdTo p m f g e → d = e
  | 0, 0, f, g, d, e, _, h, k => h.2.symm.trans k.2
  | 0, m + 1, f, g, d, e, _, h, k => absurd h.1 k.1
  | n + 1, 0, f, g, d, e, _, h, k => absurd k.1 h.1
  | n + 1, m + 1, f, g, d, e, hg, h, k => by
    obtain ⟨_, r, h1, h2⟩ := h
    obtain ⟨_, s, k1, k2⟩ := k
    obtain rfl := h1.uniq hp hg k1
    exact GcdTo.uniq hp h1.1 h2 k2
set_option maxRecDepth 100000 in
set_option maxHeartbeats 2000000 in
theorem mmonic_any (p : Int) (ao : Option Addr) (la ca : Nat) (f : List Int) (w : World) (hpr : IsPr p) (hp : p ≤ 2147483648) (hf : FRow p w ao la ca f) (hc : Can f) :
    Calls Tryd.prog 55 #[.int .u64 p, .slice ao la ca] w fun e w' => NewF w w' e fun zs => zs = monL p f := by
  have hp2 := hpr.two
  by_cases h0 : la = 0
  · subst h0
    have hn : f = [] := List.eq_nil_of_length_eq_zero hf.row.hlen.symm
    have HN : Hid (NewF w w (.returned (.slice none 0 0)) fun zs => zs = monL p f) := ⟨_, _, _, [], rfl, Own.none_, by rw [hn]; rfl, by decide, Below.refl _ _⟩
    clear hn hf hp hpr hp2 hc
    go_enter Tryd.func55, Tryd.ntmps55
    go_wp2
    go_ret
    exact HN.out
  · have hla4 := hf.short
    have hcp := hf.row.hcap
    obtain ⟨b, off, rfl, hb, hcl, hc0, hc1⟩ := hf.cell (p := p) (by omega) (k := la - 1) (by omega)
    obtain ⟨a, ha⟩ : ∃ a, dig f (la - 1) = a := ⟨_, rfl⟩
    rw [ha] at hcl hc0 hc1
    obtain ⟨c, hcc⟩ : ∃ c, a ^ (p.toNat - 2) % p = c := ⟨_, rfl⟩
    have HI : Hid (∀ W, Calls Tryd.prog 73 #[.int .u64 p, .int .u64 a] W fun e w' => e = .returned (.int .u64 c) ∧ Below W.heap.size W w') :=
      fun W => minverse_any p a c W ⟨hp2, hp⟩ ⟨hc0, by omega⟩ hcc
    have HF : Hid (FRow p w (some ⟨b, off, none⟩) la ca f ∧ la = f.length ∧ leadInv p f = c ∧ (0 < p ∧ p < 18446744073709551616) ∧ p ≤ 2147483648) := ⟨hf, hf.row.hlen, by rw [leadInv, ← hf.row.hlen, ha, hcc], ⟨by omega, by omega⟩, hp⟩
    have HC : Hid (0 ≤ c ∧ c < p) := by rw [← HF.out.2.2.1]; exact leadInv_in (by omega) f
    obtain ⟨i0, hi, hz0, hz1, hz2⟩ := info_parts info64
    have b1 : Hid (i0.bytes * la ≤ 281474976710656) := by show _ ≤ _; rw [hz2]; omega
    have b2 : Hid (la ≤ maxLen) := by show _ ≤ _; unfold maxLen; omega
    have e0 : ((la : Int) == 0) = false := by simp; omega
    have e1 : (la : Int) - 1 = ((la - 1 : Nat) : Int) := by omega
    have e2 : la - 1 < la := by omega
    have hla4' : la ≤ 4194304 := by omega
    have HCE : Hid (∀ wr, Below w.heap.size w wr → wr.cell? ⟨b, off + (la - 1), none⟩ = some (.int .u64 a)) := fun wr hb => (hb.cell (p := ⟨b, off + (la - 1), none⟩) (cell_lt hcl)).trans hcl
    clear hf hc hpr hp hp2 ha hcc hcl hc0 hc1 h0
    go_enter Tryd.func55, Tryd.ntmps55
    go_wp2_with (first
      | (at_make; refine wpList_make_full _ rfl (.tmp 13) (.tmp 13) 24 rfl w.heap.size 25 i0 (.int .u64 0) 1 Tryd.underlying24 hi hz0 hz1 .i64 .i64 _ _ la rfl rfl rfl rfl b1.out b2.out (Nat.le_refl _) ?_; intro w1 hown1 hgrow1; have HM : Hid (Blk w1 w.heap.size .u64 25 (List.replicate la 0) ∧ Below w.heap.size w w1) := ⟨made_blk hown1, grown_below hgrow1⟩; clear hown1 hgrow1; have hgx1 := HCE.out _ HM.out.2)
      | (go_at_call 73; refine (HI.out _).mono ?_; rintro e w2 ⟨rfl, hb2⟩; have HM2 : Hid (Blk w2 w.heap.size .u64 25 (List.replicate la 0) ∧ Below w.heap.size w w2) := ⟨HM.out.1.all hb2, bnextM (B := 0) HM.out.2 hb2⟩; clear hb2))
    clear HM hgx1
    obtain ⟨G, hG⟩ : ∃ G, G = w.heap.size := ⟨_, rfl⟩
    rw [← hG] at HM2 ⊢
    have HG : Hid (G = w.heap.size) := hG
    clear hG
    go_loopw [25] (fun i wr => ∃ (j : Nat) (L : List Int), i = .int .i64 (j : Int) ∧ j ≤ la ∧ Hid (Blk wr G .u64 25 L ∧ L.length = la ∧ (∀ t, t < j → dig L t = dig (monL p f) t) ∧ Below w.heap.size w wr)) (fun i _ => la - (intOf i).toNat)
    case atStart => exact ⟨0, _, rfl, Nat.zero_le _, HM2.out.1, by simp, fun t h => absurd h (by omega), by have := HM2.out.2; rwa [HG.out] at this⟩
    case round =>
      obtain ⟨j, L, rfl, hj, HS⟩ := hrel
      by_cases hlt : j < la
      · obtain ⟨b', off', ee, _, hx, hx0, hx1⟩ := (HF.out.1.later HS.out.2.2.2).cell HF.out.2.2.2.1.1 hlt
        simp only [Option.some.injEq, Addr.mk.injEq, and_true] at ee
        obtain ⟨rfl, rfl⟩ := ee
        obtain ⟨x, hxd⟩ : ∃ x, dig f j = x := ⟨_, rfl⟩
        rw [hxd] at hx hx0 hx1
        obtain ⟨r, hr⟩ : ∃ r, x * c % p = r := ⟨_, rfl⟩
        have HT : Hid (∀ W, Calls Tryd.prog 47 #[.int .u64 p, .int .u64 x, .int .u64 c] W fun e w' => e = .returned (.int .u64 r) ∧ Below W.heap.size W w') := fun W =>
          mtimes_any p x c r W HF.out.2.2.2.1 ⟨hx0, by have := HF.out.2.2.2; omega⟩ ⟨HC.out.1, by have := HC.out.2; have := HF.out.2.2.2; omega⟩ hr
        have HR : Hid (dig (monL p f) j = r ∧ j < la ∧ j < L.length) := ⟨by rw [monL_dig (by rw [← HF.out.2.1]; exact hlt), hxd, HF.out.2.2.1, hr], hlt, by rw [HS.out.2.1]; exact hlt⟩
        have z1 : (j : Int) < (la : Int) := by omega
        have z2 : (0 : Int) ≤ (j : Int) := by omega
        clear hr hxd hx0 hx1
        go_wp2_with (go_at_call 47; refine (HT.out _).mono ?_; rintro e w4 ⟨rfl, hb4⟩; have HB : Hid (Blk w4 G .u64 25 L ∧ Below w.heap.size w w4) := ⟨HS.out.1.all hb4, bnextM (B := 0) HS.out.2.2.2 hb4⟩; have r0 := HB.out.1.cell HR.out.2.2; have r1 := HB.out.1.frozen; clear hb4)
        go_roundw
        case rel => exact ⟨j + 1, L.set j r, by go_num, by omega, HB.out.1.set j r, by rw [List.length_set]; exact HS.out.2.1, fun t ht => by
          rw [dig_set _ HR.out.2.2]
          by_cases e : t = j
          · subst e; rw [if_pos rfl]; exact HR.out.1.symm
          · rw [if_neg e]; exact HS.out.2.2.1 t (by omega), HB.out.2.setCell (p := ⟨G, j, none⟩) (by rw [HG.out]; exact Nat.le_refl _) _⟩
        case measure => simp [intOf]; omega
      · have HL : Hid (L = monL p f) := dig_ext (by rw [monL_len, HS.out.2.1]; exact HF.out.2.1) fun t ht => HS.out.2.2.1 t (by rw [HS.out.2.1] at ht; omega)
        go_wp2
        go_ret
        exact ⟨_, _, _, L, rfl, Own.whole HS.out.1 (by rw [HG.out]; exact Nat.le_refl _) HS.out.2.1.symm, HL.out, hla4', HS.out.2.2.2⟩
end Go.Proofs.YtnniipekcbjloaaDoor
