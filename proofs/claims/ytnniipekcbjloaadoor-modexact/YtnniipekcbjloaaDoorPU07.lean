/-
  ML: walks: the page's Trim, form; equal rows; what is too heavy; what wakes.
-/
import Derived.Test.YtnniipekcbjloaaDoorPU05
import Derived.Test.YtnniipekcbjloaaDoorPU06
namespace Go.Proofs.YtnniipekcbjloaaDoor
open Go.RowKit Go.Shelf
set_option linter.unusedVariables false
set_option linter.unusedSimpArgs false
set_option maxHeartbeats 400000 in
theorem rtrim_any (ao : Option Addr) (len cap : Nat) (zs : List Int) (w : World) (hr : RowAt w .u64 ao len cap zs) (hl : cap ≤ 9223372036854775807) :
    Calls Tryd.prog 40 #[.slice ao len cap] w fun e w' => MTrim ao len cap zs e ∧ w' = w := by
  have hcl := hr.hcap
  have HR : Hid (RowAt w .u64 ao len cap zs ∧ len = zs.length) := ⟨hr, hr.hlen⟩
  clear hr
  go_enter Tryd.func40, Tryd.ntmps40
  go_wp2
  go_loop [3] (fun i => ∃ k : Nat, k ≤ len ∧ i = .int .i64 k ∧ Hid (∀ t, k ≤ t → dig zs t = 0)) (fun i => (intOf i).toNat)
  case atStart => exact ⟨len, Nat.le_refl _, rfl, fun t h1 => dig_past (by rw [← HR.out.2]; exact h1)⟩
  case round =>
    obtain ⟨k, hk, rfl, HZ⟩ := hrel
    by_cases hk0 : k = 0
    · subst hk0
      go_wp2
      go_ret
      exact ⟨⟨0, Nat.zero_le _, rfl, can_take (Nat.zero_le _) (fun h => absurd h (by omega)), fun t h => HZ.out t h⟩, rfl⟩
    · have hkp : (0 : Int) < (k : Int) := by omega
      obtain ⟨b, off, rfl, hb, hc⟩ := HR.out.1.get (by omega)
      have hcell := hc (k - 1) (by omega)
      have e1 : (k : Int) - 1 = ((k - 1 : Nat) : Int) := by omega
      have e2 : k - 1 < len := by omega
      have e3 : (k : Int) ≤ (cap : Int) := by omega
      have e4 : (0 : Int) ≤ (k : Int) := by omega
      clear hc
      by_cases hd : dig zs (k - 1) = 0
      · rw [hd] at hcell
        have HD : Hid (dig zs (k - 1) = 0) := hd
        clear hd
        go_wp2
        go_round
        case rel => exact ⟨k - 1, by omega, by first | rfl | go_num, fun t h2 => by
          by_cases e : t = k - 1
          · subst e; exact HD.out
          · exact HZ.out t (by omega)⟩
        case measure => simp [intOf]; omega
      · have hd' : (dig zs (k - 1) == 0) = false := by simpa using hd
        obtain ⟨z, hz⟩ : ∃ z, dig zs (k - 1) = z := ⟨_, rfl⟩
        rw [hz] at hcell hd'
        have HD : Hid (dig zs (k - 1) ≠ 0) := hd
        clear hd hz
        go_wp2
        go_ret
        exact ⟨⟨k, hk, rfl, can_take (HR.out.2 ▸ hk) (fun _ => HD.out), fun t h1 => HZ.out t h1⟩, rfl⟩
set_option maxHeartbeats 400000 in
theorem meqF_any (b : Bool) (ao bo : Option Addr) (la ca lb cb : Nat) (x y : List Int) (w : World) (hx : RowAt w .u64 ao la ca x) (hy : RowAt w .u64 bo lb cb y) (hl : la ≤ 4611686018427387904) (hb : decide (x = y) = b) :
    Calls Tryd.prog 26 #[.slice ao la ca, .slice bo lb cb] w fun e w' => e = .returned (.bool b) ∧ Below w.heap.size w w' := by
  have H := eqwords_any ao bo la ca lb cb x y w hx hy hl
  rw [hb] at H
  clear hb hx hy
  go_enter Tryd.func26, Tryd.ntmps26
  go_wp2_with (go_at_call 58; refine H.mono ?_; rintro e w1 ⟨rfl, hb1⟩)
  go_ret
  exact ⟨rfl, hb1⟩
set_option maxHeartbeats 400000 in
theorem mnum_any (n : Int) (w : World) : Calls Tryd.prog 17 #[.int .i64 n] w fun e w' => e = .returned (.int .i64 n) ∧ w' = w := by
  go_enter Tryd.func17, Tryd.ntmps17
  go_wp2
  go_ret
  exact ⟨rfl, rfl⟩
/-- a list of rows of words -/
structure RowsAt (w : World) (b n : Nat) (ro : Nat → Option Addr) (rl rc : Nat → Nat) (rz : Nat → List Int) : Prop where
  cell : ∀ t, t < n → w.cell? ⟨b, t, none⟩ = some (.slice (ro t) (rl t) (rc t))
  row : ∀ t, t < n → RowAt w .u64 (ro t) (rl t) (rc t) (rz t)
  wd : ∀ t, t < n → Wd 18446744073709551616 (rz t)
  short : ∀ t, t < n → rl t ≤ 9223372036854775807
/-- a good prime, and good polynomials -/
def FormOk (p : Int) (n : Nat) (rl : Nat → Nat) (rz : Nat → List Int) : Prop := (IsPr p ∧ p < 2147483648) ∧ ∀ t, t < n → Pm p (rz t) ∧ rl t ≤ 1025
set_option maxRecDepth 100000 in
set_option maxHeartbeats 1000000 in
theorem form_ok (p : Int) (b n : Nat) (ro : Nat → Option Addr) (rl rc : Nat → Nat) (rz : Nat → List Int) (w : World) (hp : 0 ≤ p ∧ p < 18446744073709551616) (hr : RowsAt w b n ro rl rc rz) (hn : n ≤ 100) (h : FormOk p n rl rz) :
    Calls Tryd.prog 7 #[.int .u64 p, .slice (some ⟨b, 0, none⟩) n n] w fun e w' => e = .returned (.int .i64 0) ∧ w' = w := by
  have H1 := rprimeB_any p true w hp ⟨fun _ => h.1, fun _ => rfl⟩
  have HM : Hid (∀ t, t < n → w.cell? ⟨b, t, none⟩ = some (.slice (ro t) (rl t) (rc t)) ∧ Calls Tryd.prog 37 #[.slice (ro t) (rl t) (rc t), .int .u64 p] w fun e w' => e = .returned (.bool true) ∧ w' = w) := fun t ht =>
    ⟨hr.cell t ht, rmay_any p true (ro t) (rl t) (rc t) (rz t) w hp (hr.row t ht) (hr.wd t ht) (hr.short t ht) ⟨fun _ => h.2 t ht, fun _ => rfl⟩⟩
  clear hr h hp
  go_enter Tryd.func7, Tryd.ntmps7
  go_wp2_with (go_at_call 36; refine H1.mono ?_; rintro e w1 ⟨rfl, hw1⟩; replace hw1 := hw1.symm; subst hw1)
  go_loop [5] (fun i => ∃ k : Nat, k ≤ n ∧ i = .int .i64 k) (fun i => n - (intOf i).toNat)
  case atStart => exact ⟨0, Nat.zero_le _, rfl⟩
  case round =>
    obtain ⟨k, hk, rfl⟩ := hrel
    by_cases hlt : k < n
    · obtain ⟨hc, hm⟩ := HM.out k hlt
      obtain ⟨o, ho⟩ : ∃ o, ro k = o := ⟨_, rfl⟩
      obtain ⟨l, hl⟩ : ∃ l, rl k = l := ⟨_, rfl⟩
      obtain ⟨c, hcc⟩ : ∃ c, rc k = c := ⟨_, rfl⟩
      rw [ho, hl, hcc] at hc hm
      have z1 : (k : Int) < (n : Int) := by omega
      have z2 : (0 : Int) ≤ (k : Int) := by omega
      clear ho hl hcc
      go_wp2_with (go_at_call 37; refine hm.mono ?_; rintro e w2 ⟨rfl, hw2⟩; replace hw2 := hw2.symm; subst hw2)
      go_round
      case rel => exact ⟨k + 1, by omega, by go_num⟩
      case measure => simp [intOf]; omega
    · have z1 : ¬ (k : Int) < (n : Int) := by omega
      go_wp2
      go_ret
      exact ⟨rfl, rfl⟩
set_option maxRecDepth 100000 in
set_option maxHeartbeats 1000000 in
theorem form_no (p : Int) (b n : Nat) (ro : Nat → Option Addr) (rl rc : Nat → Nat) (rz : Nat → List Int) (w : World) (hp : 0 ≤ p ∧ p < 18446744073709551616) (hr : RowsAt w b n ro rl rc rz) (hn : n ≤ 100) (h : ¬ FormOk p n rl rz) :
    Calls Tryd.prog 7 #[.int .u64 p, .slice (some ⟨b, 0, none⟩) n n] w fun e w' => e = .returned (.int .i64 90) ∧ w' = w := by
  by_cases hpr : IsPr p ∧ p < 2147483648
  · have H1 := rprimeB_any p true w hp ⟨fun _ => hpr, fun _ => rfl⟩
    have HM : Hid (∀ t, t < n → w.cell? ⟨b, t, none⟩ = some (.slice (ro t) (rl t) (rc t)) ∧ ∀ c : Bool, (c = true ↔ (Pm p (rz t) ∧ rl t ≤ 1025)) → Calls Tryd.prog 37 #[.slice (ro t) (rl t) (rc t), .int .u64 p] w fun e w' => e = .returned (.bool c) ∧ w' = w) := fun t ht =>
      ⟨hr.cell t ht, fun c hc => rmay_any p c (ro t) (rl t) (rc t) (rz t) w hp (hr.row t ht) (hr.wd t ht) (hr.short t ht) hc⟩
    have HN : Hid (¬ ∀ t, t < n → Pm p (rz t) ∧ rl t ≤ 1025) := fun h2 => h ⟨hpr, h2⟩
    clear hr h hp hpr
    go_enter Tryd.func7, Tryd.ntmps7
    go_wp2_with (go_at_call 36; refine H1.mono ?_; rintro e w1 ⟨rfl, hw1⟩; replace hw1 := hw1.symm; subst hw1)
    go_loop [5] (fun i => ∃ k : Nat, k ≤ n ∧ i = .int .i64 k ∧ Hid (∀ t, t < k → Pm p (rz t) ∧ rl t ≤ 1025)) (fun i => n - (intOf i).toNat)
    case atStart => exact ⟨0, Nat.zero_le _, rfl, fun t h => absurd h (by omega)⟩
    case round =>
      obtain ⟨k, hk, rfl, HZ⟩ := hrel
      by_cases hlt : k < n
      · obtain ⟨hc, hm'⟩ := HM.out k hlt
        obtain ⟨c, hcb⟩ := bool_of (Pm p (rz k) ∧ rl k ≤ 1025)
        have hm := hm' c hcb
        have HC : Hid (c = true ↔ (Pm p (rz k) ∧ rl k ≤ 1025)) := hcb
        obtain ⟨o, ho⟩ : ∃ o, ro k = o := ⟨_, rfl⟩
        obtain ⟨l, hl⟩ : ∃ l, rl k = l := ⟨_, rfl⟩
        obtain ⟨c', hcc⟩ : ∃ c', rc k = c' := ⟨_, rfl⟩
        rw [ho, hl, hcc] at hc hm
        have z1 : (k : Int) < (n : Int) := by omega
        have z2 : (0 : Int) ≤ (k : Int) := by omega
        clear ho hl hcc hm' hcb
        cases c
        · clear HC
          go_wp2_with (go_at_call 37; refine hm.mono ?_; rintro e w2 ⟨rfl, hw2⟩; replace hw2 := hw2.symm; subst hw2)
          go_ret
          exact ⟨rfl, rfl⟩
        · have HG : Hid (Pm p (rz k) ∧ rl k ≤ 1025) := HC.out.1 rfl
          clear HC
          go_wp2_with (go_at_call 37; refine hm.mono ?_; rintro e w2 ⟨rfl, hw2⟩; replace hw2 := hw2.symm; subst hw2)
          go_round
          case rel => exact ⟨k + 1, by omega, by go_num, fun t ht => by
            by_cases e : t = k
            · subst e; exact HG.out
            · exact HZ.out t (by omega)⟩
          case measure => simp [intOf]; omega
      · exact absurd (fun t ht => HZ.out t (by omega)) HN.out
  · have H1 := rprimeB_any p false w hp ⟨fun e => (by cases e), fun e => absurd e hpr⟩
    clear hr h hp hpr
    go_enter Tryd.func7, Tryd.ntmps7
    go_wp2_with (go_at_call 36; refine H1.mono ?_; rintro e w1 ⟨rfl, hw1⟩; replace hw1 := hw1.symm; subst hw1)
    go_ret
    exact ⟨rfl, rfl⟩
/-- what is asked of a small row, in Booleans -/
def pmB (p : Int) (l : List Int) : Bool := l.all (fun z => decide (0 ≤ z) && decide (z < p)) && (l.isEmpty || decide (dig l (l.length - 1) ≠ 0))
theorem pm_of {p : Int} {l : List Int} (h : pmB p l = true) : Pm p l := by
  simp only [pmB, Bool.and_eq_true, Bool.or_eq_true, List.all_eq_true, decide_eq_true_eq, List.isEmpty_iff] at h
  refine ⟨fun z hz => h.1 z hz, can_of_dig fun hl => ?_⟩
  rcases h.2 with e | e
  · subst e; simp at hl
  · exact e
set_option maxRecDepth 100000 in
set_option maxHeartbeats 1000000 in
theorem mwakes_any (w : World) (hT : TabAt 0 Lib.deBruijn64tab w) :
    Calls Tryd.prog 27 #[] w fun e w' => e = .returned (.bool true) ∧ Below w.heap.size w w' := by
  obtain ⟨W, hW⟩ : ∃ W, W = (w.alloc (.cells #[.int .u64 4, .int .u64 1] 25)).alloc (.cells #[.int .u64 3, .int .u64 4] 25) := ⟨_, rfl⟩
  have h5 : IsPr 5 := IsPr.of_sq (by decide) fun d h1 h2 => by
    have : d < 3 := by
      by_cases hd : d < 3
      · exact hd
      · have : 3 * 3 ≤ d * d := Int.mul_le_mul (by omega) (by omega) (by decide) (by omega)
        omega
    obtain rfl : d = 2 := by omega
    decide
  have HW : Hid (Below w.heap.size w W ∧ Good2 5 W (some ⟨w.heap.size, 0, none⟩) (some ⟨w.heap.size + 1, 0, none⟩) 2 2 2 2 [4, 1] [3, 4]) := by
    have hb1 : Below w.heap.size w (w.alloc (.cells #[.int .u64 4, .int .u64 1] 25)) := (Below.refl _ _).alloc (Nat.le_refl _) _
    have hb2 : Below w.heap.size w W := by rw [hW]; exact hb1.alloc hb1.size _
    have k1 : Blk W w.heap.size .u64 25 [4, 1] := by rw [hW]; exact (Blk.new w .u64 25 [4, 1]).alloc _
    have k2 : Blk W (w.heap.size + 1) .u64 25 [3, 4] := by
      rw [hW]
      have := Blk.new (w.alloc (.cells #[.int .u64 4, .int .u64 1] 25)) .u64 25 [3, 4]
      simpa using this
    refine ⟨hb2, ⟨h5, by decide, mtab_later hT hb2⟩, ⟨⟨(Own.whole k1 (Nat.zero_le _) rfl).row, (pm_of (by decide)).wd, by decide⟩, pm_of (by decide), by decide⟩, ⟨⟨(Own.whole k2 (Nat.zero_le _) rfl).row, (pm_of (by decide)).wd, by decide⟩, pm_of (by decide), by decide⟩⟩
  have HA : Hid (Calls Tryd.prog 19 #[.slice (some ⟨w.heap.size, 0, none⟩) 2 2, .slice (some ⟨w.heap.size + 1, 0, none⟩) 2 2, .int .u64 5] W fun e w' => ∃ ao len cap, e = .returned (.tuple #[.slice ao len cap, .int .i64 0]) ∧ RowAt w' .u64 ao len cap [2] ∧ cap ≤ 4194304 ∧ Below W.heap.size W w') := by
    refine (mAdd_any 5 _ _ 2 2 2 2 [4, 1] [3, 4] W HW.out.2).mono fun e w' h => ?_
    obtain ⟨ao, len, cap, zs, he, ho, ⟨hpm, heq, _⟩, hc, hb⟩ := h
    obtain rfl : zs = [2] := Pm.inj (by decide) hpm (pm_of (by decide)) (heq.trans ⟨_, IsP.ev [1, 1], fun x => by simp [ev]; omega⟩)
    exact ⟨ao, len, cap, he, ho.row, hc, hb⟩
  clear hT h5
  go_enter Tryd.func27, Tryd.ntmps27
  go_wp2_with (first
    | (go_at_call 19; rw [← hW]; refine HA.out.mono ?_; rintro e w1 ⟨ao, len, cap, rfl, hrow, hcap, hb1⟩; have HR : Hid (RowAt (w1.alloc (.cells #[.int .u64 2] 25)) .u64 ao len cap [2] ∧ RowAt (w1.alloc (.cells #[.int .u64 2] 25)) .u64 (some ⟨w1.heap.size, 0, none⟩) 1 1 [2] ∧ len ≤ 4611686018427387904 ∧ Below w.heap.size w (w1.alloc (.cells #[.int .u64 2] 25))) := ⟨hrow.later ((Below.refl _ _).alloc (Nat.le_refl _) _), (Own.whole (Blk.new w1 .u64 25 [2]) (Nat.zero_le _) rfl).row, by have := hrow.hcap; omega, bnextM (B := 0) (bnextM (B := 0) HW.out.1 hb1) ((Below.refl _ _).alloc (Nat.le_refl _) _)⟩; clear hrow hcap hb1)
    | (go_at_call 17; refine (mnum_any 0 _).mono ?_; rintro e w2 ⟨rfl, hw2⟩; replace hw2 := hw2.symm; subst hw2)
    | (go_at_call 26; refine (meqF_any true _ _ _ _ _ _ [2] [2] _ HR.out.1 HR.out.2.1 HR.out.2.2.1 (by decide)).mono ?_; rintro e w3 ⟨rfl, hb3⟩))
  go_ret
  exact ⟨rfl, bnextM (B := 0) HR.out.2.2.2 hb3⟩
end Go.Proofs.YtnniipekcbjloaaDoor
/-
  MQ: plain mathematics: primes among the natural numbers, the greatest prime of a number, orders modulo a prime: what Fermat's test tells of a number's prime factors.
-/
namespace Go.Proofs.YtnniipekcbjloaaDoor
open Go.RowKit
set_option linter.unusedVariables false
set_option linter.unusedSimpArgs false
/-- q is a prime -/
def PrN (q : Nat) : Prop := 2 ≤ q ∧ ∀ d, d ∣ q → d = 1 ∨ d = q
theorem PrN.int {q : Nat} (h : PrN q) : IsPr (q : Int) := by
  refine ⟨by have := h.1; omega, fun d h2 hlt hd => ?_⟩
  have h1 : d.natAbs ∣ q := by have := Int.natAbs_dvd_natAbs.2 hd; simpa using this
  rcases h.2 _ h1 with e | e <;> omega
theorem IsPr.nat {q : Nat} (h : IsPr (q : Int)) : PrN q := by
  refine ⟨by have := h.two; omega, fun d hd => ?_⟩
  have hq := h.two
  have h0 : d ≠ 0 := by rintro rfl; have := Nat.eq_zero_of_zero_dvd hd; omega
  have hle := Nat.le_of_dvd (by omega) hd
  by_cases h1 : d = 1
  · exact Or.inl h1
  · by_cases h2 : d = q
    · exact Or.inr h2
    · exact absurd (Int.natCast_dvd_natCast.2 hd) (h.no d (by omega) (by omega))
theorem PrN.coprime {q a : Nat} (h : PrN q) (ha : ¬ q ∣ a) : Nat.gcd q a = 1 := by
  rcases h.2 _ (Nat.gcd_dvd_left q a) with e | e
  · exact e
  · exact absurd (by rw [← e]; exact Nat.gcd_dvd_right q a) ha
theorem PrN.dvd_mul {q a b : Nat} (h : PrN q) (hd : q ∣ a * b) : q ∣ a ∨ q ∣ b := by
  by_cases ha : q ∣ a
  · exact Or.inl ha
  · exact Or.inr (Nat.Coprime.dvd_of_dvd_mul_left (h.coprime ha) hd)
theorem PrN.dvd_pow {q a : Nat} (h : PrN q) : ∀ {k : Nat}, q ∣ a ^ k → q ∣ a
  | 0, hd => by rw [Nat.pow_zero] at hd; have := Nat.le_of_dvd (by omega) hd; have := h.1; omega
  | k + 1, hd => by
    rw [Nat.pow_succ] at hd
    rcases h.dvd_mul hd with e | e
    · exact h.dvd_pow e
    · exact e
theorem PrN.eq_of_dvd {q r : Nat} (h : PrN q) (hr : PrN r) (hd : r ∣ q) : r = q := by
  rcases h.2 r hd with e | e
  · have := hr.1; omega
  · exact e
/-- some prime divides it -/
theorem prime_of : ∀ n : Nat, 2 ≤ n → ∃ q, PrN q ∧ q ∣ n := by
  intro n
  induction n using Nat.strongRecOn with
  | ind n ih =>
    intro h2
    by_cases hp : ∀ d, d ∣ n → d = 1 ∨ d = n
    · exact ⟨n, ⟨h2, hp⟩, Nat.dvd_refl n⟩
    · have hex : ∃ d, d ∣ n ∧ d ≠ 1 ∧ d ≠ n := Classical.byContradiction fun hno => hp fun d hd => Classical.byContradiction fun h3 => hno ⟨d, hd, fun e => h3 (Or.inl e), fun e => h3 (Or.inr e)⟩
      obtain ⟨d, hd, h1, hn⟩ := hex
      have h0 : d ≠ 0 := by rintro rfl; have := Nat.eq_zero_of_zero_dvd hd; omega
      have hle := Nat.le_of_dvd (by omega) hd
      obtain ⟨q, hq, hqd⟩ := ih d (by omega) (by omega)
      exact ⟨q, hq, Nat.dvd_trans hqd hd⟩
/-- the greatest prime in it -/
theorem greatest_of : ∀ n : Nat, 2 ≤ n → ∃ q m, PrN q ∧ n = q * m ∧ ∀ r, PrN r → r ∣ m → r ≤ q := by
  intro n
  induction n using Nat.strongRecOn with
  | ind n ih =>
    intro h2
    obtain ⟨p, hp, k, hk⟩ := prime_of n h2
    have hp2 := hp.1
    by_cases hk1 : k = 1
    · subst hk1
      exact ⟨p, 1, hp, hk, fun r hr hd => by have := Nat.le_of_dvd (by omega) hd; have := hr.1; omega⟩
    · have hk0 : k ≠ 0 := by rintro rfl; omega
      have hlt : k < n := by
        rw [hk]
        have : 2 * k ≤ p * k := Nat.mul_le_mul_right k hp2
        omega
      obtain ⟨q, m, hq, hm, hr⟩ := ih k hlt (by omega)
      by_cases hpq : p ≤ q
      · refine ⟨q, p * m, hq, by rw [hk, hm]; exact Nat.mul_left_comm p q m, fun r hr1 hd => ?_⟩
        rcases hr1.dvd_mul hd with e | e
        · have := hp.eq_of_dvd hr1 e; omega
        · exact hr r hr1 e
      · refine ⟨p, k, hp, hk, fun r hr1 hd => ?_⟩
        rw [hm] at hd
        rcases hr1.dvd_mul hd with e | e
        · have := hq.eq_of_dvd hr1 e; omega
        · have := hr r hr1 e; omega
/-- a to the x is one modulo q -/
def One (q a x : Nat) : Prop := a ^ x % q = 1 % q
theorem One.zero (q a : Nat) : One q a 0 := rfl
theorem One.mul {q a x : Nat} (h : One q a x) (k : Nat) : One q a (x * k) := by
  show a ^ (x * k) % q = 1 % q
  rw [Nat.pow_mul, Nat.pow_mod, h, ← Nat.pow_mod, Nat.one_pow]
theorem One.sub {q a x y : Nat} (hx : One q a x) (hy : One q a (x + y)) : One q a y := by
  have h1 : a ^ (x + y) % q = a ^ y % q := by
    rw [Nat.pow_add, Nat.mul_mod, hx, ← Nat.mul_mod, Nat.one_mul]
  exact h1.symm.trans hy
theorem One.add {q a x y : Nat} (hx : One q a x) (hy : One q a y) : One q a (x + y) := by
  show a ^ (x + y) % q = 1 % q
  rw [Nat.pow_add, Nat.mul_mod, hx, hy, ← Nat.mul_mod]
theorem One.mod {q a x y : Nat} (hx : One q a x) (hy : One q a y) : One q a (y % x) := by
  have h := Nat.div_add_mod y x
  exact (hx.mul (y / x)).sub (by rw [h]; exact hy)
theorem One.gcd {q a : Nat} : ∀ {x y : Nat}, One q a x → One q a y → One q a (Nat.gcd x y) := by
  intro x
  induction x using Nat.strongRecOn with
  | ind x ih =>
    intro y hx hy
    by_cases h0 : x = 0
    · subst h0; rw [Nat.gcd_zero_left]; exact hy
    · rw [Nat.gcd_rec]
      exact ih (y % x) (Nat.mod_lt _ (by omega)) (hx.mod hy) hx
theorem One.dvd {q d a x : Nat} (hd : d ∣ q) (h : One q a x) : One d a x := by
  obtain ⟨c, rfl⟩ := hd
  have h1 := congrArg (· % d) h
  simp only [Nat.mod_mul_right_mod] at h1
  exact h1
/-- Fermat -/
theorem PrN.fermat {q a : Nat} (h : PrN q) (ha : ¬ q ∣ a) : One q a (q - 1) := by
  obtain ⟨k, hk⟩ := h.int.fermat a
  rw [Int.toNat_natCast] at hk
  have hq := h.1
  have h1 : (q : Int) ∣ (a : Int) * ((a : Int) ^ (q - 1) - 1) := by
    refine ⟨k, ?_⟩
    have e : (a : Int) ^ q = a * a ^ (q - 1) := by rw [Int.mul_comm, ← Int.pow_succ]; congr 1; omega
    rw [Int.mul_sub, ← e, hk]; omega
  rcases h.int.dvd_mul h1 with e | e
  · exact absurd (Int.natCast_dvd_natCast.1 e) ha
  · have h2 := Int.emod_eq_emod_iff_emod_sub_eq_zero.2 (Int.emod_eq_zero_of_dvd e)
    have h3 : ((a ^ (q - 1) % q : Nat) : Int) = ((1 % q : Nat) : Int) := by
      rw [Int.natCast_emod, Int.natCast_emod, Int.natCast_pow]; exact h2
    exact_mod_cast h3
/-- a number that passes, and a prime of it: the order divides what is left less one -/
theorem PrN.left {q m a : Nat} (h : PrN q) (ha : ¬ q ∣ a) (hm : 0 < m) (ho : One (q * m) a (q * m - 1)) : One q a (m - 1) := by
  have hq := h.1
  have e : q * m - 1 = (q - 1) * m + (m - 1) := by
    have h1 : (q - 1) * m = q * m - m := by rw [Nat.sub_mul, Nat.one_mul]
    have h2 : m ≤ q * m := Nat.le_mul_of_pos_left m (by omega)
    omega
  rw [e] at ho
  exact ((h.fermat ha).mul m).sub (ho.dvd (Nat.dvd_mul_right q m))
/-- a prime l all of whose power in q - 1 is needed -/
theorem full_part {q a x l e c : Nat} (hl : PrN l) (hq : One q a (q - 1)) (hx : One q a x) (he : q - 1 = l ^ (e + 1) * c) (hc : ¬ l ∣ c) (hno : ¬ One q a (l ^ e * c)) : l ^ (e + 1) ∣ x := by
  have hg := hq.gcd hx
  refine Classical.byContradiction fun hn => hno ?_
  have hgl : Nat.gcd (q - 1) x ∣ l ^ (e + 1) * c := by rw [← he]; exact Nat.gcd_dvd_left _ _
  have hgx : ¬ l ^ (e + 1) ∣ Nat.gcd (q - 1) x := fun h => hn (Nat.dvd_trans h (Nat.gcd_dvd_right _ _))
  suffices h : Nat.gcd (q - 1) x ∣ l ^ e * c by
    obtain ⟨k, hk⟩ := h
    rw [hk]
    exact hg.mul k
  generalize Nat.gcd (q - 1) x = g at hgl hgx
  clear he hno hn hg hx hq
  induction e generalizing g with
  | zero =>
    rw [Nat.pow_zero, Nat.one_mul]
    rw [Nat.zero_add, Nat.pow_one] at hgl hgx
    exact Nat.Coprime.dvd_of_dvd_mul_left (by rw [Nat.Coprime, Nat.gcd_comm]; exact hl.coprime hgx) hgl
  | succ e ih =>
    by_cases h1 : l ∣ g
    · obtain ⟨g1, rfl⟩ := h1
      have hl0 : 0 < l := by have := hl.1; omega
      have h2 : g1 ∣ l ^ (e + 1) * c := Nat.dvd_of_mul_dvd_mul_left hl0 (by rw [← Nat.mul_assoc, ← Nat.pow_succ']; exact hgl)
      have h3 : ¬ l ^ (e + 1) ∣ g1 := fun h => hgx (by rw [Nat.pow_succ']; exact Nat.mul_dvd_mul_left l h)
      rw [Nat.pow_succ', Nat.mul_assoc]
      exact Nat.mul_dvd_mul_left l (ih g1 h2 h3)
    · have h4 : Nat.gcd g (l ^ (e + 1 + 1)) = 1 := by
        refine Classical.byContradiction fun hne => ?_
        have h0 : Nat.gcd g (l ^ (e + 1 + 1)) ≠ 0 := by
          intro h; have h5 := Nat.gcd_dvd_right g (l ^ (e + 1 + 1)); rw [h] at h5
          have h6 := Nat.eq_zero_of_zero_dvd h5
          have h7 : 0 < l ^ (e + 1 + 1) := Nat.pow_pos (by have := hl.1; omega)
          omega
        obtain ⟨r, hr, hrd⟩ := prime_of _ (show 2 ≤ Nat.gcd g (l ^ (e + 1 + 1)) by omega)
        have h8 := hr.dvd_pow (Nat.dvd_trans hrd (Nat.gcd_dvd_right _ _))
        have h9 := hl.eq_of_dvd hr h8
        exact h1 (by rw [← h9]; exact Nat.dvd_trans hrd (Nat.gcd_dvd_left _ _))
      exact Nat.dvd_trans (Nat.Coprime.dvd_of_dvd_mul_left h4 hgl) (Nat.dvd_mul_left c _)
end Go.Proofs.YtnniipekcbjloaaDoor
/-
  MR: Miller and Rabin's test as the kernel reckons it; what it tells; numbers with a prime above 2^15.
-/
namespace Go.Proofs.YtnniipekcbjloaaDoor
open Go.RowKit
set_option linter.unusedVariables false
set_option linter.unusedSimpArgs false
/-- a to the e modulo n, eight bits at a time -/
def pwM (a n f : Nat) : Nat → Nat := Nat.rec (motive := fun _ => Nat → Nat) (fun _ => Nat.mod 1 n) (fun _ ih e => Nat.mod (Nat.mul (Nat.pow (ih (Nat.div e 256)) 256) (Nat.pow a (Nat.mod e 256))) n) f
theorem pwM_succ (a n f e : Nat) : pwM a n (f + 1) e = pwM a n f (e / 256) ^ 256 * a ^ (e % 256) % n := rfl
theorem pwM_is (a n : Nat) : ∀ f e, e < 256 ^ f → pwM a n f e = a ^ e % n
  | 0, e, h => by
    have e0 : e = 0 := by rw [Nat.pow_zero] at h; omega
    subst e0; rfl
  | f + 1, e, h => by
    have h1 : e / 256 < 256 ^ f := by rw [Nat.pow_succ] at h; omega
    rw [pwM_succ, pwM_is a n f (e / 256) h1, Nat.mul_mod, ← Nat.pow_mod, ← Nat.mul_mod, ← Nat.pow_mul, ← Nat.pow_add]
    congr 2; omega
/-- without its twos -/
def odM (f : Nat) : Nat → Nat := Nat.rec (motive := fun _ => Nat → Nat) (fun x => x) (fun _ ih x => bif Nat.beq (Nat.mod x 2) 0 then ih (Nat.div x 2) else x) f
theorem odM_is : ∀ f x, ∃ k, x = odM f x * 2 ^ k
  | 0, x => ⟨0, by show x = x * 2 ^ 0; omega⟩
  | f + 1, x => by
    show ∃ k, x = (bif Nat.beq (x % 2) 0 then odM f (x / 2) else x) * 2 ^ k
    by_cases h : x % 2 = 0
    · rw [h]
      obtain ⟨k, hk⟩ := odM_is f (x / 2)
      refine ⟨k + 1, ?_⟩
      show x = odM f (x / 2) * 2 ^ (k + 1)
      rw [Nat.pow_succ, ← Nat.mul_assoc, ← hk]; omega
    · have h3 : Nat.beq (x % 2) 0 = false := by
        have : x % 2 = 1 := by omega
        rw [this]; rfl
      rw [h3]
      exact ⟨0, by show x = x * 2 ^ 0; omega⟩
/-- the squares: is one of them less one? -/
def lpM (n f : Nat) : Nat → Nat → Bool := Nat.rec (motive := fun _ => Nat → Nat → Bool) (fun _ _ => false) (fun _ ih e x => bif Nat.beq e (Nat.sub n 1) then false else bif Nat.beq x (Nat.sub n 1) then true else ih (Nat.mul 2 e) (Nat.mod (Nat.mul x x) n)) f
theorem beq_iff {a b : Nat} : Nat.beq a b = true ↔ a = b := ⟨Nat.eq_of_beq_eq_true, fun h => by rw [h]; exact Nat.beq_refl b⟩
theorem lpM_is (n a : Nat) (hn : 1 < n) : ∀ f e x k, n - 1 = e * 2 ^ k → x = a ^ e % n → lpM n f e x = true → One n a (n - 1)
  | 0, e, x, k, _, _, h => by cases h
  | f + 1, e, x, k, hk, hx, h => by
    change (bif Nat.beq e (n - 1) then false else bif Nat.beq x (n - 1) then true else lpM n f (2 * e) (x * x % n)) = true at h
    cases h1 : Nat.beq e (n - 1)
    · rw [h1] at h
      change (bif Nat.beq x (n - 1) then true else lpM n f (2 * e) (x * x % n)) = true at h
      have hne : e ≠ n - 1 := fun e1 => by rw [beq_iff.2 e1] at h1; cases h1
      have hk0 : k ≠ 0 := by rintro rfl; rw [Nat.pow_zero, Nat.mul_one] at hk; exact hne hk.symm
      obtain ⟨j, rfl⟩ : ∃ j, k = j + 1 := ⟨k - 1, by omega⟩
      have hk2 : n - 1 = (2 * e) * 2 ^ j := by rw [hk, Nat.pow_succ, Nat.mul_comm 2 e, Nat.mul_assoc, Nat.mul_comm 2]
      cases h2 : Nat.beq x (n - 1)
      · rw [h2] at h
        refine lpM_is n a hn f (2 * e) (x * x % n) j hk2 ?_ h
        rw [hx, ← Nat.mul_mod, ← Nat.pow_add]
        congr 2; omega
      · have hx1 := beq_iff.1 h2
        have h3 : One n a (2 * e) := by
          show a ^ (2 * e) % n = 1 % n
          have e2 : 2 * e = e + e := by omega
          rw [e2, Nat.pow_add, Nat.mul_mod, ← hx, hx1]
          obtain ⟨t, rfl⟩ : ∃ t, n = t + 2 := ⟨n - 2, by omega⟩
          show (t + 1) * (t + 1) % (t + 2) = 1 % (t + 2)
          have e3 : (t + 1) * (t + 1) = 1 + (t + 2) * t := by
            rw [Nat.add_mul, Nat.mul_add, Nat.add_mul]; omega
          rw [e3, Nat.add_mul_mod_self_left]
        rw [hk2]
        exact h3.mul (2 ^ j)
    · rw [h1] at h; cases h
/-- Miller and Rabin's test of n, below 2^31, to the base a -/
def sprM (n a : Nat) : Bool := (fun d => (fun x => bif Nat.beq x 1 then true else lpM n 31 d x) (pwM a n 4 d)) (odM 31 (Nat.sub n 1))
theorem sprM_one {n a : Nat} (hn : 1 < n) (hlt : n < 2 ^ 31) (h : sprM n a = true) : One n a (n - 1) := by
  obtain ⟨k, hk⟩ := odM_is 31 (n - 1)
  have h1 : (bif Nat.beq (pwM a n 4 (odM 31 (n - 1))) 1 then true else lpM n 31 (odM 31 (n - 1)) (pwM a n 4 (odM 31 (n - 1)))) = true := h
  have hd : odM 31 (n - 1) < 2 ^ 31 := by
    have h2 : odM 31 (n - 1) * 1 ≤ odM 31 (n - 1) * 2 ^ k := Nat.mul_le_mul_left _ (Nat.pow_pos (by omega))
    omega
  have hp := pwM_is a n 4 (odM 31 (n - 1)) (Nat.lt_trans hd (by decide))
  cases h2 : Nat.beq (pwM a n 4 (odM 31 (n - 1))) 1
  · rw [h2] at h1
    exact lpM_is n a hn 31 _ _ k hk hp h1
  · have h3 := beq_iff.1 h2
    rw [hp] at h3
    have h4 : One n a (odM 31 (n - 1)) := by
      show a ^ _ % n = 1 % n
      rw [h3, Nat.mod_eq_of_lt hn]
    rw [hk]
    exact h4.mul (2 ^ k)
def passM (n : Nat) : Bool := (sprM n 2).and ((sprM n 3).and ((sprM n 5).and (sprM n 7)))
theorem passM_one {n : Nat} (hn : 1 < n) (hlt : n < 2 ^ 31) (h : passM n = true) : One n 2 (n - 1) ∧ One n 3 (n - 1) ∧ One n 5 (n - 1) ∧ One n 7 (n - 1) := by
  have h1 : ((sprM n 2) && ((sprM n 3) && ((sprM n 5) && (sprM n 7)))) = true := h
  simp only [Bool.and_eq_true] at h1
  exact ⟨sprM_one hn hlt h1.1, sprM_one hn hlt h1.2.1, sprM_one hn hlt h1.2.2.1, sprM_one hn hlt h1.2.2.2⟩
/-- p of all x from lo on, 2^h of them -/
def allM (p : Nat → Bool) (h : Nat) : Nat → Bool := Nat.rec (motive := fun _ => Nat → Bool) (fun lo => p lo) (fun h ih lo => (ih lo).and (ih (Nat.add lo (Nat.pow 2 h)))) h
theorem allM_is {p : Nat → Bool} : ∀ {h lo : Nat}, allM p h lo = true → ∀ x, lo ≤ x → x < lo + 2 ^ h → p x = true
  | 0, lo, hp, x, h1, h2 => by
    have : x = lo := by rw [Nat.pow_zero] at h2; omega
    subst this; exact hp
  | h + 1, lo, hp, x, h1, h2 => by
    have h3 : (allM p h lo && allM p h (lo + 2 ^ h)) = true := hp
    rw [Bool.and_eq_true] at h3
    by_cases h4 : x < lo + 2 ^ h
    · exact allM_is h3.1 x h1 h4
    · exact allM_is h3.2 x (by omega) (by rw [Nat.pow_succ] at h2; omega)
/-- the product of all x from lo on, 2^h of them -/
def prodM (h : Nat) : Nat → Nat := Nat.rec (motive := fun _ => Nat → Nat) (fun lo => lo) (fun h ih lo => Nat.mul (ih lo) (ih (Nat.add lo (Nat.pow 2 h)))) h
theorem prodM_dvd : ∀ {h lo x : Nat}, lo ≤ x → x < lo + 2 ^ h → x ∣ prodM h lo
  | 0, lo, x, h1, h2 => by
    have : x = lo := by rw [Nat.pow_zero] at h2; omega
    subst this; exact Nat.dvd_refl x
  | h + 1, lo, x, h1, h2 => by
    show x ∣ prodM h lo * prodM h (lo + 2 ^ h)
    by_cases h4 : x < lo + 2 ^ h
    · exact Nat.dvd_trans (prodM_dvd h1 h4) (Nat.dvd_mul_right _ _)
    · exact Nat.dvd_trans (prodM_dvd (h := h) (lo := lo + 2 ^ h) (x := x) (by omega) (by rw [Nat.pow_succ] at h2; omega)) (Nat.dvd_mul_left _ _)
def P15 : Nat := prodM 15 1
theorem P15_dvd {x : Nat} (h1 : 1 ≤ x) (h2 : x ≤ 32768) : x ∣ P15 := prodM_dvd h1 (by omega)
/-- what q divides, where the rest is m -/
def g4M (m : Nat) : Nat := Nat.gcd (Nat.gcd (Nat.gcd (Nat.sub (Nat.pow 2 (Nat.sub m 1)) 1) (Nat.sub (Nat.pow 3 (Nat.sub m 1)) 1)) (Nat.sub (Nat.pow 5 (Nat.sub m 1)) 1)) (Nat.sub (Nat.pow 7 (Nat.sub m 1)) 1)
theorem One.dvd_sub {q a x : Nat} (h : One q a x) : q ∣ a ^ x - 1 := Nat.dvd_of_mod_eq_zero (Nat.sub_mod_eq_zero_of_mod_eq h)
theorem g4M_dvd {q m : Nat} (h2 : One q 2 (m - 1)) (h3 : One q 3 (m - 1)) (h5 : One q 5 (m - 1)) (h7 : One q 7 (m - 1)) : q ∣ g4M m :=
  Nat.dvd_gcd (Nat.dvd_gcd (Nat.dvd_gcd h2.dvd_sub h3.dvd_sub) h5.dvd_sub) h7.dvd_sub
def noqM (f m : Nat) : Bool := allM (fun d => bif Nat.beq (Nat.mod f d) 0 then (passM (Nat.mul d m)).not else true) (Nat.succ (Nat.log2 (Nat.sub (Nat.div 2147483648 m) 32767))) 32768
def okfM (f m : Nat) : Bool := (Nat.beq (Nat.gcd f P15) 1).and (bif Nat.ble f 32768 then true else bif Nat.ble f 1073741823 then (bif Nat.ble 2147483648 (Nat.mul f m) then true else (passM (Nat.mul f m)).not) else noqM f m)
def okM (m : Nat) : Bool := bif Nat.beq (Nat.gcd m 210) 1 then (bif Nat.ble m 1 then true else (fun g => okfM (Nat.div g (Nat.gcd g P15)) m) (g4M m)) else true
theorem okM_is {q m : Nat} (hq : PrN q) (hb : 32768 < q) (hm : 1 < m) (h210 : Nat.gcd m 210 = 1) (hlt : q * m < 2147483648) (hp : passM (q * m) = true)
    (h2 : One q 2 (m - 1)) (h3 : One q 3 (m - 1)) (h5 : One q 5 (m - 1)) (h7 : One q 7 (m - 1)) (hok : okM m = true) : False := by
  have hg := g4M_dvd h2 h3 h5 h7
  have e1 : okfM (g4M m / Nat.gcd (g4M m) P15) m = true := by
    have h0 : (bif Nat.beq (Nat.gcd m 210) 1 then (bif Nat.ble m 1 then true else okfM (g4M m / Nat.gcd (g4M m) P15) m) else true) = true := hok
    rw [h210] at h0
    have h8 : Nat.ble m 1 = false := by
      cases h : Nat.ble m 1
      · rfl
      · have := Nat.le_of_ble_eq_true h; omega
    rw [h8] at h0
    exact h0
  have hqP : Nat.gcd q P15 = 1 := by
    refine hq.coprime fun hd => ?_
    -- q, a prime, divides one of the factors
    have key : ∀ h lo, q ∣ prodM h lo → ∃ x, lo ≤ x ∧ x < lo + 2 ^ h ∧ q ∣ x := by
      intro h
      induction h with
      | zero => intro lo hd; exact ⟨lo, Nat.le_refl _, by rw [Nat.pow_zero]; omega, hd⟩
      | succ h ih =>
        intro lo hd
        rcases hq.dvd_mul (show q ∣ prodM h lo * prodM h (lo + 2 ^ h) from hd) with e | e
        · obtain ⟨x, a1, a2, a3⟩ := ih lo e
          exact ⟨x, a1, by rw [Nat.pow_succ]; omega, a3⟩
        · obtain ⟨x, a1, a2, a3⟩ := ih (lo + 2 ^ h) e
          exact ⟨x, by omega, by rw [Nat.pow_succ]; omega, a3⟩
    obtain ⟨x, a1, a2, a3⟩ := key 15 1 hd
    have := Nat.le_of_dvd (by omega) a3
    have e15 : (2 : Nat) ^ 15 = 32768 := rfl
    omega
  have hqf : q ∣ g4M m / Nat.gcd (g4M m) P15 := by
    have h8 := Nat.div_mul_cancel (Nat.gcd_dvd_left (g4M m) P15)
    rw [← h8] at hg
    rcases hq.dvd_mul hg with e | e
    · exact e
    · have h9 : q ∣ Nat.gcd q P15 := Nat.dvd_gcd (Nat.dvd_refl q) (Nat.dvd_trans e (Nat.gcd_dvd_right _ _))
      rw [hqP] at h9
      have := Nat.le_of_dvd (by omega) h9
      omega
  generalize g4M m / Nat.gcd (g4M m) P15 = f at e1 hqf
  clear hg hok h2 h3 h5 h7
  have e2 : (Nat.beq (Nat.gcd f P15) 1 && (bif Nat.ble f 32768 then true else bif Nat.ble f 1073741823 then (bif Nat.ble 2147483648 (f * m) then true else (passM (f * m)).not) else noqM f m)) = true := e1
  rw [Bool.and_eq_true] at e2
  obtain ⟨e3, e4⟩ := e2
  have hfP := beq_iff.1 e3
  have hf0 : f ≠ 0 := by rintro rfl; rw [Nat.gcd_zero_left] at hfP; rw [hfP] at hqP; have := P15_dvd (x := 2) (by omega) (by omega); rw [hfP] at this; have := Nat.le_of_dvd (by omega) this; omega
  have hqle := Nat.le_of_dvd (by omega) hqf
  have c1 : Nat.ble f 32768 = false := by
    cases h : Nat.ble f 32768
    · rfl
    · have := Nat.le_of_ble_eq_true h; omega
  rw [c1, cond_false] at e4
  cases c2 : Nat.ble f 1073741823
  · rw [c2, cond_false] at e4
    have e5 : noqM f m = true := e4
    have hdl : 32768 ≤ 2147483648 / m := by
      rw [Nat.le_div_iff_mul_le (by omega)]
      have : 32768 * m ≤ q * m := Nat.mul_le_mul_right m (by omega)
      omega
    have hqd : q ≤ 2147483648 / m := by rw [Nat.le_div_iff_mul_le (by omega)]; omega
    have hl := @Nat.lt_log2_self (2147483648 / m - 32767)
    have h6 := allM_is e5 q (by omega) (by
      show q < 32768 + 2 ^ (Nat.log2 (2147483648 / m - 32767) + 1)
      omega)
    have h7 : (bif Nat.beq (f % q) 0 then (passM (q * m)).not else true) = true := h6
    rw [Nat.mod_eq_zero_of_dvd hqf, hp] at h7
    exact absurd h7 (by decide)
  · rw [c2, cond_true] at e4
    have h6 := Nat.le_of_ble_eq_true c2
    -- f is q
    obtain ⟨c, hc⟩ := hqf
    have hc1 : c = 1 := by
      refine Classical.byContradiction fun hne => ?_
      have hc0 : c ≠ 0 := by rintro rfl; omega
      obtain ⟨r, hr, hrc⟩ := prime_of c (by omega)
      have hrle := Nat.le_of_dvd (by omega) hrc
      by_cases hrs : r ≤ 32768
      · have h8 : r ∣ Nat.gcd f P15 := Nat.dvd_gcd (by rw [hc]; exact Nat.dvd_trans hrc (Nat.dvd_mul_left c q)) (P15_dvd (by have := hr.1; omega) hrs)
        rw [hfP] at h8
        have := Nat.le_of_dvd (by omega) h8
        have := hr.1
        omega
      · have h9 : 32769 * 32769 ≤ q * c := Nat.mul_le_mul (by omega) (by omega)
        omega
    rw [hc1, Nat.mul_one] at hc
    subst hc
    have c3 : Nat.ble 2147483648 (f * m) = false := by
      cases h : Nat.ble 2147483648 (f * m)
      · rfl
      · have := Nat.le_of_ble_eq_true h; omega
    have e5 : (bif Nat.ble 2147483648 (f * m) then true else (passM (f * m)).not) = true := e4
    rw [c3, hp] at e5
    exact absurd e5 (by decide)
end Go.Proofs.YtnniipekcbjloaaDoor
/-
  MS: numbers whose greatest prime lies from 130 to 2^15: the parts of q - 1 that an order must have; what is left of the number goes by steps of their product.
-/
namespace Go.Proofs.YtnniipekcbjloaaDoor
open Go.RowKit
set_option linter.unusedVariables false
set_option linter.unusedSimpArgs false
/-- to the x all four bases are one -/
def F4 (q x : Nat) : Prop := One q 2 x ∧ One q 3 x ∧ One q 5 x ∧ One q 7 x
theorem PrN.ndvd {q a : Nat} (h : PrN q) (hb : 11 ≤ q) (ha : a = 2 ∨ a = 3 ∨ a = 5 ∨ a = 7) : ¬ q ∣ a := fun hd => by
  have := Nat.le_of_dvd (by omega) hd
  omega
theorem F4.left {q m : Nat} (h : PrN q) (hb : 11 ≤ q) (hm : 0 < m) (ho : F4 (q * m) (q * m - 1)) : F4 q (m - 1) :=
  ⟨h.left (h.ndvd hb (by omega)) hm ho.1, h.left (h.ndvd hb (by omega)) hm ho.2.1, h.left (h.ndvd hb (by omega)) hm ho.2.2.1, h.left (h.ndvd hb (by omega)) hm ho.2.2.2⟩
theorem PrN.prodM {q : Nat} (hq : PrN q) {h lo : Nat} (hlo : 1 ≤ lo) (hb : lo + 2 ^ h ≤ q) : Nat.gcd q (prodM h lo) = 1 := by
  refine hq.coprime fun hd => ?_
  have key : ∀ h lo, q ∣ Go.Proofs.YtnniipekcbjloaaDoor.prodM h lo → ∃ x, lo ≤ x ∧ x < lo + 2 ^ h ∧ q ∣ x := by
    intro h
    induction h with
    | zero => intro lo hd; exact ⟨lo, Nat.le_refl _, by rw [Nat.pow_zero]; omega, hd⟩
    | succ h ih =>
      intro lo hd
      rcases hq.dvd_mul (show q ∣ Go.Proofs.YtnniipekcbjloaaDoor.prodM h lo * Go.Proofs.YtnniipekcbjloaaDoor.prodM h (lo + 2 ^ h) from hd) with e | e
      · obtain ⟨x, a1, a2, a3⟩ := ih lo e
        exact ⟨x, a1, by rw [Nat.pow_succ]; omega, a3⟩
      · obtain ⟨x, a1, a2, a3⟩ := ih (lo + 2 ^ h) e
        exact ⟨x, by omega, by rw [Nat.pow_succ]; omega, a3⟩
  obtain ⟨x, a1, a2, a3⟩ := key h lo hd
  have := Nat.le_of_dvd (by omega) a3
  omega
/-- without its l's -/
def stM (l f : Nat) : Nat → Nat := Nat.rec (motive := fun _ => Nat → Nat) (fun x => x) (fun _ ih x => bif Nat.beq (Nat.mod x l) 0 then ih (Nat.div x l) else x) f
theorem stM_is {l : Nat} (hl : 2 ≤ l) : ∀ f x, x ≠ 0 → x < 2 ^ f → ∃ e, x = l ^ e * stM l f x ∧ ¬ l ∣ stM l f x
  | 0, x, h0, h1 => by rw [Nat.pow_zero] at h1; omega
  | f + 1, x, h0, h1 => by
    show ∃ e, x = l ^ e * (bif Nat.beq (x % l) 0 then stM l f (x / l) else x) ∧ ¬ l ∣ (bif Nat.beq (x % l) 0 then stM l f (x / l) else x)
    by_cases h : x % l = 0
    · rw [h]
      have hx : l * (x / l) = x := Nat.mul_div_cancel' (Nat.dvd_of_mod_eq_zero h)
      have h2 : x / l ≠ 0 := fun e => by rw [e] at hx; omega
      have h3 : x / l < 2 ^ f := by
        have : 2 * (x / l) ≤ l * (x / l) := Nat.mul_le_mul_right _ hl
        rw [Nat.pow_succ] at h1; omega
      obtain ⟨e, e1, e2⟩ := stM_is hl f (x / l) h2 h3
      refine ⟨e + 1, ?_, e2⟩
      show x = l ^ (e + 1) * stM l f (x / l)
      rw [Nat.pow_succ', Nat.mul_assoc, ← e1, hx]
    · have h3 : Nat.beq (x % l) 0 = false := by
        cases hb : Nat.beq (x % l) 0
        · rfl
        · exact absurd (beq_iff.1 hb) h
      rw [h3]
      exact ⟨0, by rw [Nat.pow_zero, Nat.one_mul]; rfl, fun hd => h (Nat.mod_eq_zero_of_dvd hd)⟩
/-- some base is not one to the e -/
def cerM (q e : Nat) : Bool := bif Nat.beq (pwM 2 q 2 e) 1 then (bif Nat.beq (pwM 3 q 2 e) 1 then (bif Nat.beq (pwM 5 q 2 e) 1 then (Nat.beq (pwM 7 q 2 e) 1).not else true) else true) else true
theorem cerM_is {q e : Nat} (hq : 1 < q) (he : e < 2 ^ 15) (h : cerM q e = true) : ¬ F4 q e := by
  rintro ⟨h2, h3, h5, h7⟩
  have k : ∀ a, One q a e → Nat.beq (pwM a q 2 e) 1 = true := fun a ha => by
    rw [pwM_is a q 2 e (Nat.lt_trans he (by decide))]
    exact beq_iff.2 (ha.trans (Nat.mod_eq_of_lt hq))
  unfold cerM at h
  rw [k 2 h2, k 3 h3, k 5 h5, k 7 h7] at h
  exact absurd h (by decide)
def partM (q l : Nat) : Nat := bif Nat.beq (Nat.mod (Nat.sub q 1) l) 0 then (bif cerM q (Nat.div (Nat.sub q 1) l) then Nat.div (Nat.sub q 1) (stM l 15 (Nat.sub q 1)) else 1) else 1
theorem partM_dvd {q l x : Nat} (hq : PrN q) (hb : 11 ≤ q) (hlt : q ≤ 32768) (hl : PrN l) (hx : F4 q x) : partM q l ∣ x := by
  show (bif Nat.beq ((q - 1) % l) 0 then (bif cerM q ((q - 1) / l) then (q - 1) / (stM l 15 (q - 1)) else 1) else 1) ∣ x
  have hl2 := hl.1
  cases h1 : Nat.beq ((q - 1) % l) 0
  · exact Nat.one_dvd x
  · cases h2 : cerM q ((q - 1) / l)
    · exact Nat.one_dvd x
    · show (q - 1) / (stM l 15 (q - 1)) ∣ x
      have h3 := Nat.dvd_of_mod_eq_zero (beq_iff.1 h1)
      obtain ⟨e, e1, e2⟩ := stM_is hl2 15 (q - 1) (by omega) (by
        have : (2 : Nat) ^ 15 = 32768 := rfl
        omega)
      generalize stM l 15 (q - 1) = c at e1 e2
      have hc0 : 0 < c := Nat.pos_of_ne_zero fun e9 => by rw [e9, Nat.mul_zero] at e1; omega
      have he0 : e ≠ 0 := by rintro rfl; rw [Nat.pow_zero, Nat.one_mul] at e1; rw [e1] at h3; exact e2 h3
      obtain ⟨j, rfl⟩ : ∃ j, e = j + 1 := ⟨e - 1, by omega⟩
      have h4 : (q - 1) / l = l ^ j * c := by
        rw [e1, Nat.pow_succ', Nat.mul_assoc, Nat.mul_div_cancel_left _ (by omega)]
      have h5 : (q - 1) / c = l ^ (j + 1) := by rw [e1, Nat.mul_div_cancel _ hc0]
      rw [h5]
      rw [h4] at h2
      have h6 : l ^ j * c < 2 ^ 15 := by
        rw [← h4]
        have h7 := Nat.div_le_self (q - 1) l
        have : (2 : Nat) ^ 15 = 32768 := rfl
        omega
      have h8 := cerM_is (by omega) h6 h2
      refine Classical.byContradiction fun hn => h8 ⟨?_, ?_, ?_, ?_⟩
      · exact Classical.byContradiction fun h9 => hn (full_part hl (hq.fermat (hq.ndvd hb (by omega))) hx.1 e1 e2 h9)
      · exact Classical.byContradiction fun h9 => hn (full_part hl (hq.fermat (hq.ndvd hb (by omega))) hx.2.1 e1 e2 h9)
      · exact Classical.byContradiction fun h9 => hn (full_part hl (hq.fermat (hq.ndvd hb (by omega))) hx.2.2.1 e1 e2 h9)
      · exact Classical.byContradiction fun h9 => hn (full_part hl (hq.fermat (hq.ndvd hb (by omega))) hx.2.2.2 e1 e2 h9)
/-- the primes below 182 -/
def prL : List Nat := [2, 3, 5, 7, 11, 13, 17, 19, 23, 29, 31, 37, 41, 43, 47, 53, 59, 61, 67, 71, 73, 79, 83, 89, 97, 101, 103, 107, 109, 113, 127, 131, 137, 139, 149, 151, 157, 163, 167, 173, 179, 181]
theorem PrN.of_small {l : Nat} (h2 : 2 ≤ l) (h : ∀ d, d < l → 2 ≤ d → l % d ≠ 0) : PrN l := by
  refine ⟨h2, fun d hd => ?_⟩
  have h0 : d ≠ 0 := by rintro rfl; have := Nat.eq_zero_of_zero_dvd hd; omega
  have hle := Nat.le_of_dvd (by omega) hd
  by_cases h1 : d = 1
  · exact Or.inl h1
  · by_cases h3 : d = l
    · exact Or.inr h3
    · exact absurd (Nat.mod_eq_zero_of_dvd hd) (h d (by omega) (by omega))
theorem prL_pr : ∀ l ∈ prL, PrN l := by
  have h : ∀ l ∈ prL, 2 ≤ l ∧ ∀ d, d < l → 2 ≤ d → l % d ≠ 0 := by decide +kernel
  exact fun l hl => PrN.of_small (h l hl).1 (h l hl).2
def foldM (q : Nat) : List Nat → Nat
  | [] => 1
  | l :: ls => Nat.lcm (partM q l) (foldM q ls)
theorem foldM_dvd {q x : Nat} (hq : PrN q) (hb : 11 ≤ q) (hlt : q ≤ 32768) (hx : F4 q x) : ∀ ls : List Nat, (∀ l ∈ ls, PrN l) → foldM q ls ∣ x
  | [], _ => Nat.one_dvd x
  | l :: ls, h => Nat.lcm_dvd (partM_dvd hq hb hlt (h l List.mem_cons_self) hx) (foldM_dvd hq hb hlt hx ls fun l hl => h l (List.mem_cons_of_mem _ hl))
def stripM : List Nat → Nat → Nat
  | [], x => x
  | l :: ls, x => stripM ls (stM l 15 x)
theorem prL_ck : ∀ r, r < 182 → 2 ≤ r → (prL.contains r || prL.any fun d => Nat.blt d r && Nat.beq (r % d) 0) = true := by decide +kernel
theorem prL_all {r : Nat} (hr : PrN r) (h : r < 182) : r ∈ prL := by
  have h1 := prL_ck r h hr.1
  rw [Bool.or_eq_true] at h1
  rcases h1 with e | e
  · simpa using e
  · exfalso
    obtain ⟨d, hd, h2⟩ := List.any_eq_true.1 e
    rw [Bool.and_eq_true] at h2
    have h3 := hr.2 d (Nat.dvd_of_mod_eq_zero (beq_iff.1 h2.2))
    have h4 := (prL_pr d hd).1
    have h5 : d < r := by simpa using h2.1
    omega
def mulA : List Nat → Nat
  | [] => 1
  | l :: ls => Nat.mul l (mulA ls)
theorem mulA_dvd {r : Nat} : ∀ {ls : List Nat}, r ∈ ls → r ∣ mulA ls
  | [], h => by cases h
  | l :: ls, h => by
    show r ∣ l * mulA ls
    rcases List.mem_cons.1 h with e | e
    · rw [e]; exact Nat.dvd_mul_right _ _
    · exact Nat.dvd_trans (mulA_dvd e) (Nat.dvd_mul_left _ _)
def prP : Nat := mulA prL
/-- the part of the prime that is left, if one is left -/
def lastM (q c : Nat) : Nat := bif Nat.ble c 1 then 1 else bif Nat.ble 33124 c then 1 else bif Nat.beq (Nat.gcd c prP) 1 then partM q c else 1
theorem lastM_dvd {q x : Nat} (hq : PrN q) (hb : 11 ≤ q) (hlt : q ≤ 32768) (hx : F4 q x) (c : Nat) : lastM q c ∣ x := by
  unfold lastM
  cases h1 : Nat.ble c 1
  · cases h2 : Nat.ble 33124 c
    · cases h3 : Nat.beq (Nat.gcd c prP) 1
      · exact Nat.one_dvd x
      · have h4 := beq_iff.1 h3
        have h5 : ¬ c ≤ 1 := fun h => by rw [Nat.ble_eq_true_of_le h] at h1; cases h1
        have h6 : ¬ 33124 ≤ c := fun h => by rw [Nat.ble_eq_true_of_le h] at h2; cases h2
        refine partM_dvd hq hb hlt ?_ hx
        have hno : ∀ r, PrN r → r ∣ c → 182 ≤ r := fun r hr hd => by
          refine Classical.byContradiction fun hn => ?_
          have h7 : r ∣ Nat.gcd c prP := Nat.dvd_gcd hd (mulA_dvd (prL_all hr (by omega)))
          rw [h4] at h7
          have := Nat.le_of_dvd (by omega) h7
          have := hr.1
          omega
        obtain ⟨r, hr, k, hk⟩ := prime_of c (by omega)
        have hr9 := hno r hr ⟨k, hk⟩
        by_cases hk1 : k = 1
        · rw [hk1, Nat.mul_one] at hk; rw [hk]; exact hr
        · have hk0 : k ≠ 0 := by rintro rfl; omega
          obtain ⟨s, hs, hsd⟩ := prime_of k (by omega)
          have hs9 := hno s hs (by rw [hk]; exact Nat.dvd_trans hsd (Nat.dvd_mul_left k r))
          have hk9 := Nat.le_of_dvd (by omega) hsd
          have : 182 * 182 ≤ r * k := Nat.mul_le_mul hr9 (by omega)
          omega
    · exact Nat.one_dvd x
  · exact Nat.one_dvd x
def LM (q : Nat) : Nat := Nat.lcm (foldM q prL) (lastM q (stripM prL (Nat.sub q 1)))
theorem LM_dvd {q x : Nat} (hq : PrN q) (hb : 11 ≤ q) (hlt : q ≤ 32768) (hx : F4 q x) : LM q ∣ x :=
  Nat.lcm_dvd (foldM_dvd hq hb hlt hx prL prL_pr) (lastM_dvd hq hb hlt hx _)
def tstM (sm : Nat → Bool) (q m : Nat) : Bool := bif sm m then (bif Nat.ble 2147483648 (Nat.mul q m) then true else (passM (Nat.mul q m)).not) else true
def okQ (sm : Nat → Bool) (q : Nat) : Bool := bif Nat.beq (Nat.gcd q (prodM 7 2)) 1 then (fun L => allM (fun t => tstM sm q (Nat.succ (Nat.mul t L))) (Nat.succ (Nat.log2 (Nat.div (Nat.div 2147483648 q) L))) 1) (LM q) else true
theorem okQ_is {sm : Nat → Bool} {q m : Nat} (hq : PrN q) (hb : 130 ≤ q) (hlt : q ≤ 32768) (hm : 1 < m) (hn : q * m < 2147483648) (hp : passM (q * m) = true) (hsm : sm m = true) (hx : F4 q (m - 1)) (hok : okQ sm q = true) : False := by
  have h0 : (bif Nat.beq (Nat.gcd q (prodM 7 2)) 1 then allM (fun t => tstM sm q (Nat.succ (Nat.mul t (LM q)))) (Nat.succ (Nat.log2 (2147483648 / q / LM q))) 1 else true) = true := hok
  rw [hq.prodM (h := 7) (lo := 2) (by omega) (by
    have : (2 : Nat) ^ 7 = 128 := rfl
    omega)] at h0
  have h1 : allM (fun t => tstM sm q (Nat.succ (Nat.mul t (LM q)))) (Nat.succ (Nat.log2 (2147483648 / q / LM q))) 1 = true := h0
  obtain ⟨t, ht⟩ := LM_dvd hq (by omega) hlt hx
  generalize LM q = L at h1 ht
  have hL : 0 < L := Nat.pos_of_ne_zero fun e => by rw [e, Nat.zero_mul] at ht; omega
  have ht0 : t ≠ 0 := by rintro rfl; omega
  have hmq : m ≤ 2147483648 / q := by rw [Nat.le_div_iff_mul_le (by omega), Nat.mul_comm]; omega
  have htK : t ≤ 2147483648 / q / L := by rw [Nat.le_div_iff_mul_le hL, Nat.mul_comm]; omega
  have hl := @Nat.lt_log2_self (2147483648 / q / L)
  have h2 := allM_is h1 t (by omega) (by
    show t < 1 + 2 ^ (Nat.log2 (2147483648 / q / L) + 1)
    omega)
  have hm1 : Nat.succ (Nat.mul t L) = m := by
    show t * L + 1 = m
    rw [Nat.mul_comm]; omega
  have h3 : tstM sm q m = true := by rw [← hm1]; exact h2
  have h4 : (bif sm m then (bif Nat.ble 2147483648 (q * m) then true else (passM (q * m)).not) else true) = true := h3
  have c1 : Nat.ble 2147483648 (q * m) = false := by
    cases h : Nat.ble 2147483648 (q * m)
    · rfl
    · have := Nat.le_of_ble_eq_true h; omega
  rw [hsm, c1, hp] at h4
  exact absurd h4 (by decide)
end Go.Proofs.YtnniipekcbjloaaDoor
