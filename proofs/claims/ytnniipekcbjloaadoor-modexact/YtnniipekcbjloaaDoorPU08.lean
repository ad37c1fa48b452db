/-
  MT: small primes alone; and all together: a number below 2^31, without the primes 2, 3, 5, 7, that passes Miller and Rabin's test to these bases is a prime, if what the kernel reckons comes out true.
-/
import Derived.Test.YtnniipekcbjloaaDoorPU07
namespace Go.Proofs.YtnniipekcbjloaaDoor
open Go.RowKit
set_option linter.unusedVariables false
set_option linter.unusedSimpArgs false
theorem smooth_dvd (P : Nat) : ∀ k m, 0 < m → m < 2 ^ (k + 1) → (∀ r, PrN r → r ∣ m → r ∣ P) → m ∣ P ^ k
  | 0, m, h0, h1, _ => by
    have : m = 1 := by rw [Nat.zero_add, Nat.pow_one] at h1; omega
    rw [this]; exact Nat.one_dvd _
  | k + 1, m, h0, h1, h => by
    by_cases hm : m = 1
    · rw [hm]; exact Nat.one_dvd _
    · obtain ⟨r, hr, c, hc⟩ := prime_of m (by omega)
      have hc0 : c ≠ 0 := by rintro rfl; omega
      have h2 : c < 2 ^ (k + 1) := by
        have : 2 * c ≤ r * c := Nat.mul_le_mul_right c hr.1
        rw [Nat.pow_succ] at h1; omega
      have h3 := smooth_dvd P k c (by omega) h2 fun s hs hd => h s hs (by rw [hc]; exact Nat.dvd_trans hd (Nat.dvd_mul_left c r))
      rw [hc, Nat.pow_succ']
      exact Nat.mul_dvd_mul (h r hr ⟨c, hc⟩) h3
/-- the primes from 11 to 127 -/
def prD : List Nat := [11, 13, 17, 19, 23, 29, 31, 37, 41, 43, 47, 53, 59, 61, 67, 71, 73, 79, 83, 89, 97, 101, 103, 107, 109, 113, 127]
def tstD (n : Nat) : Bool := bif Nat.beq n 121 then (passM 121).not else bif Nat.ble n 127 then true else (passM n).not
/-- only where what its last prime asks holds -/
def tstE (n L : Nat) : Bool := bif Nat.beq (Nat.mod (Nat.sub n 1) L) 0 then tstD n else true
/-- all products; what the last prime asks goes along -/
def ckE (f : Nat) : List (Nat × Nat) → Nat → Nat → Bool := Nat.rec (motive := fun _ => List (Nat × Nat) → Nat → Nat → Bool) (fun _ _ _ => false)
  (fun _ ih l acc L => match l with | [] => tstE acc L | x :: tl => bif Nat.ble 2147483648 (Nat.mul acc x.1) then tstE acc L else (ih l (Nat.mul acc x.1) x.2).and (ih tl acc L)) f
/-- from the least on -/
def Srt : List Nat → Prop
  | [] => True
  | p :: l => (∀ r ∈ l, p ≤ r) ∧ Srt l
theorem ckE_is {n : Nat} (hn : n < 2147483648) : ∀ f l acc L, ckE f l acc L = true → Srt (l.map Prod.fst) → ∀ s, 0 < s → (∀ r, PrN r → r ∣ s → r ∈ l.map Prod.fst) → acc * s = n → 0 < acc → L ∣ n - 1 → (∀ x ∈ l, x.1 ∣ n → x.2 ∣ n - 1) → tstD n = true
  | 0, _, _, _, h => by cases h
  | f + 1, [], acc, L, h => fun _ s h0 hs e _ hL _ => by
    by_cases h1 : s = 1
    · rw [h1, Nat.mul_one] at e
      have h2 : tstE acc L = true := h
      unfold tstE at h2
      rw [e, show Nat.mod (Nat.sub n 1) L = 0 from Nat.mod_eq_zero_of_dvd hL] at h2
      exact h2
    · obtain ⟨r, hr, hd⟩ := prime_of s (by omega)
      exact absurd (hs r hr hd) (by simp)
  | f + 1, (p, lp) :: l, acc, L, h => fun hso s h0 hs e ha hL hall => by
    have h1 : (bif Nat.ble 2147483648 (acc * p) then tstE acc L else (ckE f ((p, lp) :: l) (acc * p) lp && ckE f l acc L)) = true := h
    cases c1 : Nat.ble 2147483648 (acc * p)
    · rw [c1, cond_false, Bool.and_eq_true] at h1
      by_cases hp : p ∣ s
      · obtain ⟨c, hc⟩ := hp
        have hc0 : 0 < c := Nat.pos_of_ne_zero fun e => by rw [e, Nat.mul_zero] at hc; omega
        have hp0 : 0 < p := Nat.pos_of_ne_zero fun e => by rw [e, Nat.zero_mul] at hc; omega
        have e1 : acc * p * c = n := by rw [← e, hc, Nat.mul_assoc]
        exact ckE_is hn f ((p, lp) :: l) (acc * p) lp h1.1 hso c hc0 (fun r hr hd => hs r hr (by rw [hc]; exact Nat.dvd_trans hd (Nat.dvd_mul_left c p))) e1 (Nat.mul_pos ha hp0) (hall (p, lp) List.mem_cons_self ⟨acc * c, by rw [← e1, Nat.mul_comm acc p, Nat.mul_assoc]⟩) hall
      · refine ckE_is hn f l acc L h1.2 hso.2 s h0 (fun r hr hd => ?_) e ha hL fun x hx => hall x (List.mem_cons_of_mem _ hx)
        rcases List.mem_cons.1 (hs r hr hd) with e | e
        · exact absurd (by have e9 : r = p := e; rw [← e9]; exact hd) hp
        · exact e
    · rw [c1, cond_true] at h1
      by_cases hs1 : s = 1
      · rw [hs1, Nat.mul_one] at e
        unfold tstE at h1
        rw [e, show Nat.mod (Nat.sub n 1) L = 0 from Nat.mod_eq_zero_of_dvd hL] at h1
        exact h1
      · exfalso
        obtain ⟨r, hr, hd⟩ := prime_of s (by omega)
        have hpr : p ≤ r := by
          rcases List.mem_cons.1 (hs r hr hd) with e | e
          · exact Nat.le_of_eq e.symm
          · exact hso.1 r e
        have hrs := Nat.le_of_dvd h0 hd
        have h4 : acc * p ≤ acc * s := Nat.mul_le_mul_left acc (by omega)
        have := Nat.le_of_ble_eq_true c1
        omega
/-- with what each asks -/
def prE : List (Nat × Nat) := [(11, 10), (13, 12), (17, 16), (19, 18), (23, 22), (29, 28), (31, 30), (37, 36), (41, 40), (43, 42), (47, 46), (53, 52), (59, 58), (61, 60), (67, 66), (71, 70), (73, 72), (79, 78), (83, 82), (89, 88), (97, 96), (101, 100), (103, 102), (107, 106), (109, 108), (113, 112), (127, 126)]
theorem prE_fst : prE.map Prod.fst = prD := rfl
theorem prE_lm : ∀ x ∈ prE, LM x.1 = x.2 := by
  have h : (prE.all fun x => Nat.beq (LM x.1) x.2) = true := by decide +kernel
  exact fun x hx => beq_iff.1 (List.all_eq_true.1 h x hx)
theorem One.part {n q a x : Nat} (h : One n a x) (hd : q ∣ n) : One q a x := by
  have h1 : a ^ x % n = 1 % n := h
  show a ^ x % q = 1 % q
  rw [← Nat.mod_mod_of_dvd (a ^ x) hd, h1, Nat.mod_mod_of_dvd 1 hd]
theorem prD_srt : Srt prD := by
  unfold prD
  refine ⟨?_, ?_, ?_, ?_, ?_, ?_, ?_, ?_, ?_, ?_, ?_, ?_, ?_, ?_, ?_, ?_, ?_, ?_, ?_, ?_, ?_, ?_, ?_, ?_, ?_, ?_, ?_, trivial⟩ <;> decide
theorem ckE_cons {f acc L : Nat} {x : Nat × Nat} {l : List (Nat × Nat)} (hlt : Nat.ble 2147483648 (Nat.mul acc x.1) = false) (h1 : ckE f (x :: l) (Nat.mul acc x.1) x.2 = true) (h2 : ckE f l acc L = true) : ckE (f + 1) (x :: l) acc L = true := by
  show (bif Nat.ble 2147483648 (Nat.mul acc x.1) then tstE acc L else (ckE f (x :: l) (Nat.mul acc x.1) x.2 && ckE f l acc L)) = true
  rw [hlt, h1, h2]; rfl
theorem small_210 : ∀ q, q < 11 → 2 ≤ q → Nat.gcd q 210 ≠ 1 := by decide +kernel
theorem prD_ck : ∀ r, r < 130 → 11 ≤ r → (prD.contains r || (!(Nat.beq (Nat.gcd r 210) 1) || Nat.beq r 121)) = true := by decide +kernel
theorem prD_all (r : Nat) (h1 : r < 130) (h2 : 11 ≤ r) (h3 : Nat.gcd r 210 = 1) (h4 : r ≠ 121) : r ∈ prD := by
  have h := prD_ck r h1 h2
  have h5 : Nat.beq r 121 = false := by
    cases h : Nat.beq r 121
    · rfl
    · exact absurd (beq_iff.1 h) h4
  have h6 : Nat.beq (Nat.gcd r 210) 1 = true := beq_iff.2 h3
  rw [h5, h6] at h
  simpa using h
theorem prD_pr : ∀ l ∈ prD, PrN l := by
  have h : ∀ l ∈ prD, 2 ≤ l ∧ ∀ d, d < l → 2 ≤ d → l % d ≠ 0 := by decide +kernel
  exact fun l hl => PrN.of_small (h l hl).1 (h l hl).2
theorem prD_big : ∀ l ∈ prD, 11 ≤ l ∧ l ≤ 127 := by decide +kernel
theorem gcd_part {q m : Nat} (h : Nat.gcd (q * m) 210 = 1) : Nat.gcd m 210 = 1 := by
  have h1 : Nat.gcd m 210 ∣ Nat.gcd (q * m) 210 := Nat.dvd_gcd (Nat.dvd_trans (Nat.gcd_dvd_left m 210) (Nat.dvd_mul_left m q)) (Nat.gcd_dvd_right m 210)
  rw [h] at h1
  exact Nat.eq_one_of_dvd_one h1
/-- all up to 2^h multiplied, without the primes 2, 3, 5, 7 -/
def cutK (h K : Nat) : Nat := Nat.div (prodM h 1) (Nat.gcd (prodM h 1) (Nat.pow 210 K))
theorem cutK_dvd {h K r : Nat} (hr : PrN r) (h210 : Nat.gcd r 210 = 1) (hlt : r < 1 + 2 ^ h) : r ∣ cutK h K := by
  have h1 : r ∣ prodM h 1 := prodM_dvd (by have := hr.1; omega) hlt
  have h2 : Nat.gcd (prodM h 1) (210 ^ K) * cutK h K = prodM h 1 := Nat.mul_div_cancel' (Nat.gcd_dvd_left _ _)
  rw [← h2] at h1
  rcases hr.dvd_mul h1 with e | e
  · exfalso
    have h3 : r ∣ 210 ^ K := Nat.dvd_trans e (Nat.gcd_dvd_right _ _)
    have h4 : Nat.Coprime r (210 ^ K) := Nat.Coprime.pow_right _ h210
    have h5 : r ∣ Nat.gcd r (210 ^ K) := Nat.dvd_gcd (Nat.dvd_refl r) h3
    rw [show Nat.gcd r (210 ^ K) = 1 from h4] at h5
    have := Nat.le_of_dvd (by omega) h5
    have := hr.1
    omega
  · exact e
def C10 : Nat := Nat.pow (cutK 10 5000) 24
def C12 : Nat := Nat.pow (cutK 12 5000) 21
theorem C10_is : C10 = cutK 10 5000 ^ 24 := by
  delta C10
  generalize cutK 10 5000 = P
  rfl
theorem C12_is : C12 = cutK 12 5000 ^ 21 := by
  delta C12
  generalize cutK 12 5000 = P
  rfl
def S10 (m : Nat) : Bool := Nat.beq (Nat.mod C10 m) 0
def S12 (m : Nat) : Bool := Nat.beq (Nat.mod C12 m) 0
def SAll (m : Nat) : Bool := Nat.beq (Nat.gcd m 210) 1
theorem S10_ok (m : Nat) (h0 : 0 < m) (h1 : m < 2 ^ (24 + 1)) (h : ∀ r, PrN r → r ∣ m → Nat.gcd r 210 = 1 ∧ r < 1 + 2 ^ 10) : S10 m = true := by
  have hd : m ∣ C10 := by
    rw [C10_is]
    exact smooth_dvd _ 24 m h0 h1 fun r hr hd => cutK_dvd hr (h r hr hd).1 (h r hr hd).2
  exact beq_iff.2 (Nat.mod_eq_zero_of_dvd hd)
theorem S12_ok (m : Nat) (h0 : 0 < m) (h1 : m < 2 ^ (21 + 1)) (h : ∀ r, PrN r → r ∣ m → Nat.gcd r 210 = 1 ∧ r < 1 + 2 ^ 12) : S12 m = true := by
  have hd : m ∣ C12 := by
    rw [C12_is]
    exact smooth_dvd _ 21 m h0 h1 fun r hr hd => cutK_dvd hr (h r hr hd).1 (h r hr hd).2
  exact beq_iff.2 (Nat.mod_eq_zero_of_dvd hd)
theorem mr_sound (hA : ∀ m, m < 65536 → okM m = true) (hB : ∀ q, 130 ≤ q → q < 1024 → okQ S10 q = true) (hC : ∀ q, 1024 ≤ q → q < 4096 → okQ S12 q = true) (hD : ∀ q, 4096 ≤ q → q ≤ 32768 → okQ SAll q = true) (hE : ckE 200 prE 1 1 = true)
    {n : Nat} (h1 : 1 < n) (hlt : n < 2147483648) (h210 : Nat.gcd n 210 = 1) (hp : passM n = true) : PrN n := by
  obtain ⟨q, m, hq, hn, hr⟩ := greatest_of n (by omega)
  have hm0 : m ≠ 0 := by rintro rfl; omega
  by_cases hm1 : m = 1
  · rw [hm1, Nat.mul_one] at hn; rw [hn]; exact hq
  have hq2 := hq.1
  have h210m : Nat.gcd m 210 = 1 := gcd_part (q := q) (by rw [← hn]; exact h210)
  have h210q : Nat.gcd q 210 = 1 := gcd_part (q := m) (by rw [Nat.mul_comm, ← hn]; exact h210)
  have hq11 : 11 ≤ q := Classical.byContradiction fun h => small_210 q (by omega) hq2 h210q
  have hF : F4 (q * m) (q * m - 1) := by rw [← hn]; exact passM_one h1 hlt hp
  have hx := F4.left hq hq11 (by omega) hF
  by_cases c1 : 32768 < q
  · exfalso
    have hm6 : m < 65536 := Classical.byContradiction fun h => by
      have : 32769 * 65536 ≤ q * m := Nat.mul_le_mul (by omega) (by omega)
      omega
    exact okM_is hq c1 (by omega) h210m (by omega) (by rw [← hn]; exact hp) hx.1 hx.2.1 hx.2.2.1 hx.2.2.2 (hA m hm6)
  · by_cases c2 : 4096 ≤ q
    · exact (okQ_is hq (by omega) (by omega) (by omega) (by omega) (by rw [← hn]; exact hp) (show SAll m = true from beq_iff.2 h210m) hx (hD q c2 (by omega))).elim
    · by_cases c3 : 1024 ≤ q
      · have hm9 : m < 2 ^ (21 + 1) := by
          refine Classical.byContradiction fun h => ?_
          have e : (2 : Nat) ^ (21 + 1) = 4194304 := rfl
          have : 1024 * 4194304 ≤ q * m := Nat.mul_le_mul c3 (by omega)
          omega
        have hd := S12_ok m (by omega) hm9 fun r hr1 hd => ⟨by obtain ⟨c, hc⟩ := hd; exact gcd_part (q := c) (by rw [Nat.mul_comm, ← hc]; exact h210m), by
          have := hr r hr1 hd
          have e : (2 : Nat) ^ 12 = 4096 := rfl
          omega⟩
        exact (okQ_is (sm := S12) hq (by omega) (by omega) (by omega) (by omega) (by rw [← hn]; exact hp) hd hx (hC q c3 (by omega))).elim
      · by_cases c4 : 130 ≤ q
        · have hm9 : m < 2 ^ (24 + 1) := by
            refine Classical.byContradiction fun h => ?_
            have e : (2 : Nat) ^ (24 + 1) = 33554432 := rfl
            have : 130 * 33554432 ≤ q * m := Nat.mul_le_mul c4 (by omega)
            omega
          have hd := S10_ok m (by omega) hm9 fun r hr1 hd => ⟨by obtain ⟨c, hc⟩ := hd; exact gcd_part (q := c) (by rw [Nat.mul_comm, ← hc]; exact h210m), by
            have := hr r hr1 hd
            have e : (2 : Nat) ^ 10 = 1024 := rfl
            omega⟩
          exact (okQ_is (sm := S10) hq c4 (by omega) (by omega) (by omega) (by rw [← hn]; exact hp) hd hx (hB q c4 (by omega))).elim
        · have hall : ∀ r, PrN r → r ∣ n → r ∈ prD := fun r hr1 hd => by
            have hle : r ≤ q := by
              rw [hn] at hd
              rcases hr1.dvd_mul hd with e | e
              · have := hq.eq_of_dvd hr1 e; omega
              · exact hr r hr1 e
            have hg : Nat.gcd r 210 = 1 := by
              obtain ⟨c, hc⟩ := hd
              exact gcd_part (q := c) (by rw [Nat.mul_comm, ← hc]; exact h210)
            have h11 : 11 ≤ r := Classical.byContradiction fun h => small_210 r (by omega) hr1.1 hg
            refine prD_all r (by omega) h11 hg fun e => ?_
            have h9 := hr1.2 11 (by rw [e]; exact ⟨11, rfl⟩)
            omega
          have ht := ckE_is (n := n) hlt 200 prE 1 1 hE (by rw [prE_fst]; exact prD_srt) n (by omega) (by rw [prE_fst]; exact hall) (Nat.one_mul n) (by omega) (Nat.one_dvd _) fun x hx hd => by
            have h9 := prE_lm x hx
            have h8 : x.1 ∈ prD := by rw [← prE_fst]; exact List.mem_map_of_mem hx
            have h7 := prD_big x.1 h8
            rw [← h9]
            have h6 : F4 n (n - 1) := passM_one h1 hlt hp
            exact LM_dvd (prD_pr x.1 h8) h7.1 (by omega) ⟨h6.1.part hd, h6.2.1.part hd, h6.2.2.1.part hd, h6.2.2.2.part hd⟩
          unfold tstD at ht
          by_cases e1 : n = 121
          · rw [e1] at ht hp
            rw [hp] at ht
            exact absurd ht (by decide)
          · have e2 : Nat.beq n 121 = false := by
              cases h : Nat.beq n 121
              · rfl
              · exact absurd (beq_iff.1 h) e1
            rw [e2, cond_false, hp] at ht
            cases e3 : Nat.ble n 127
            · rw [e3] at ht; exact absurd ht (by decide)
            · have e4 := Nat.le_of_ble_eq_true e3
              have h11 : 11 ≤ n := Classical.byContradiction fun h => small_210 n (by omega) (by omega) h210
              exact prD_pr n (prD_all n (by omega) h11 h210 e1)
end Go.Proofs.YtnniipekcbjloaaDoor
