/-
  MJ: walks: modp's faces at what is good: Check, Add, Mul, DivMod, Pow.
-/
import Derived.Test.YtpannkjjggelhaaDoorPN06
import Derived.ProofKit
import Derived.OpenShut
import Derived.Deep.Slices
import Derived.Deep.Strs
namespace Go.Proofs.YtpannkjjggelhaaDoor
open Go.RowKit Go.Shelf
set_option linter.unusedVariables false
set_option linter.unusedSimpArgs false
/-- a prime and the table that its test wants -/
def PrimeT (p : Int) (w : World) : Prop := IsPr p ∧ p < 2147483648 ∧ TabAt 0 Lib.deBruijn64tab w
theorem PrimeT.later {p : Int} {w w' : World} (h : PrimeT p w) (hb : Below w.heap.size w w') : PrimeT p w' := ⟨h.1, h.2.1, mtab_later h.2.2 hb⟩
/-- a polynomial modulo p in memory -/
def GoodF (p : Int) (w : World) (ao : Option Addr) (len cap : Nat) (zs : List Int) : Prop := FRow p w ao len cap zs ∧ Pm p zs ∧ len ≤ 1025
theorem GoodF.later {p : Int} {w w' : World} {ao : Option Addr} {len cap : Nat} {zs : List Int} (h : GoodF p w ao len cap zs) (hb : Below w.heap.size w w') : GoodF p w' ao len cap zs := ⟨h.1.later hb, h.2⟩
set_option maxRecDepth 100000 in
set_option maxHeartbeats 1000000 in
theorem mcheck_any (p : Int) (ao : Option Addr) (len cap : Nat) (zs : List Int) (w : World) (hp : PrimeT p w) (hf : GoodF p w ao len cap zs) :
    Calls Tryd.prog 29 #[.slice ao len cap, .int .u64 p] w fun e w' => e = .returned (.int .i64 0) ∧ Below w.heap.size w w' := by
  have hp0 : 0 < p := by have := hp.1.two; omega
  have HI := isPrime_any p w hp.1 hp.2.1 hp.2.2
  have HF : Hid (GoodF p w ao len cap zs) := hf
  have hl : len ≤ 1025 := hf.2.2
  have hl' : ¬ (1025 : Int) < (len : Int) := by omega
  have hlen : Hid (len = zs.length) := hf.1.row.hlen
  have hloop : ∀ (wr : World) (k : Nat), Below w.heap.size w wr → k < len → ∃ b off z, ao = some ⟨b, off, none⟩ ∧ wr.cell? ⟨b, off + k, none⟩ = some (.int .u64 z) ∧ ¬ p ≤ z ∧ 0 ≤ z := by
    intro wr k hb hk
    obtain ⟨b, off, e, _, hc, h0, h1⟩ := (HF.out.1.later hb).cell hp0 hk
    exact ⟨b, off, _, e, hc, by omega, h0⟩
  have HL : Hid (∀ (wr : World) (k : Nat), Below w.heap.size w wr → k < len → ∃ b off z, ao = some ⟨b, off, none⟩ ∧ wr.cell? ⟨b, off + k, none⟩ = some (.int .u64 z) ∧ ¬ p ≤ z ∧ 0 ≤ z) := hloop
  clear hloop hp
  by_cases h0 : len = 0
  · subst h0
    clear hf
    go_enter Tryd.func29, Tryd.ntmps29
    go_wp2_with (go_at_call 36; refine HI.mono ?_; rintro e w1 ⟨rfl, hb1⟩)
    go_loopw [29] (fun i wr => i = .int .i64 0 ∧ wr = w1) (fun i wr => 0)
    case atStart => exact ⟨rfl, rfl⟩
    case round =>
      obtain ⟨rfl, rfl⟩ := hrel
      go_wp2
      go_ret
      exact ⟨rfl, hb1⟩
  · obtain ⟨b, off, eo, _, hc, c0, c1⟩ := hf.1.cell hp0 (k := len - 1) (by omega)
    subst eo
    have hcan := can_dig hf.2.1.can (by have := hlen.out; omega)
    rw [← hlen.out] at hcan
    obtain ⟨z, hz⟩ : ∃ z, dig zs (len - 1) = z := ⟨_, rfl⟩
    rw [hz] at hc c0 c1 hcan
    have hz0 : (z == 0) = false := by simpa using hcan
    have HCE : Hid (∀ wr, Below w.heap.size w wr → wr.cell? ⟨b, off + (len - 1), none⟩ = some (.int .u64 z)) := fun wr hb => (hb.cell (p := ⟨b, off + (len - 1), none⟩) (cell_lt hc)).trans hc
    have e1 : (len : Int) - 1 = ((len - 1 : Nat) : Int) := by omega
    have e2 : (0 : Int) < (len : Int) := by omega
    have e3 : len - 1 < len := by omega
    clear hf hc hcan hz h0
    go_enter Tryd.func29, Tryd.ntmps29
    go_wp2_with (go_at_call 36; refine HI.mono ?_; rintro e w1 ⟨rfl, hb1⟩; have hcc := HCE.out _ hb1)
    go_loopw [29, 6] (fun i z wr => ∃ k : Nat, k ≤ len ∧ i = .int .i64 (k : Int) ∧ wr = w1) (fun i _ _ => len - (intOf i).toNat)
    case atStart => exact ⟨0, Nat.zero_le _, rfl, rfl⟩
    case round =>
      obtain ⟨k, hk, rfl, rfl⟩ := hrel
      by_cases hlt : k < len
      · obtain ⟨b', off', z', ee, hc', hz1, hz2⟩ := HL.out _ k hb1 hlt
        simp only [Option.some.injEq, Addr.mk.injEq, and_true] at ee
        obtain ⟨rfl, rfl⟩ := ee
        have z1 : (k : Int) < (len : Int) := by omega
        have z2 : (0 : Int) ≤ (k : Int) := by omega
        clear hcc
        go_wp2
        go_roundw
        case rel => exact ⟨k + 1, by omega, by go_num, by first | trivial | rfl⟩
        case measure => simp [intOf]; omega
      · have z1 : ¬ (k : Int) < (len : Int) := by omega
        clear hcc
        go_wp2
        go_ret
        exact ⟨rfl, hb1⟩
/-- two good polynomials and their prime -/
def Good2 (p : Int) (w : World) (ao bo : Option Addr) (la ca lb cb : Nat) (f g : List Int) : Prop := PrimeT p w ∧ GoodF p w ao la ca f ∧ GoodF p w bo lb cb g
theorem Good2.later {p : Int} {w w' : World} {ao bo : Option Addr} {la ca lb cb : Nat} {f g : List Int} (h : Good2 p w ao bo la ca lb cb f g) (hb : Below w.heap.size w w') : Good2 p w' ao bo la ca lb cb f g := ⟨h.1.later hb, h.2.1.later hb, h.2.2.later hb⟩
set_option maxHeartbeats 400000 in
theorem mcheckBoth_any (p : Int) (ao bo : Option Addr) (la ca lb cb : Nat) (f g : List Int) (w : World) (h : Good2 p w ao bo la ca lb cb f g) :
    Calls Tryd.prog 20 #[.slice ao la ca, .slice bo lb cb, .int .u64 p] w fun e w' => e = .returned (.int .i64 0) ∧ Below w.heap.size w w' := by
  have H1 := mcheck_any p ao la ca f w h.1 h.2.1
  have H2 : Hid (∀ W, Below w.heap.size w W → Calls Tryd.prog 29 #[.slice bo lb cb, .int .u64 p] W fun e w' => e = .returned (.int .i64 0) ∧ Below W.heap.size W w') := fun W hb => mcheck_any p bo lb cb g W (h.1.later hb) (h.2.2.later hb)
  clear h
  go_enter Tryd.func20, Tryd.ntmps20
  go_wp2_with (first
    | (go_at_call 29; have _t := hb1; refine (H2.out _ hb1).mono ?_; rintro e w2 ⟨rfl, hb2⟩)
    | (go_at_call 29; refine H1.mono ?_; rintro e w1 ⟨rfl, hb1⟩))
  go_ret
  exact ⟨rfl, bnextM (B := 0) hb1 hb2⟩
set_option maxHeartbeats 400000 in
theorem mcheckDivisor_any (p : Int) (ao bo : Option Addr) (la ca lb cb : Nat) (f g : List Int) (w : World) (h : Good2 p w ao bo la ca lb cb f g) (hlb : 0 < lb) :
    Calls Tryd.prog 25 #[.slice ao la ca, .slice bo lb cb, .int .u64 p] w fun e w' => e = .returned (.int .i64 0) ∧ Below w.heap.size w w' := by
  have H1 := mcheckBoth_any p ao bo la ca lb cb f g w h
  have q1 : ((lb : Int) == 0) = false := by simp; omega
  clear h
  go_enter Tryd.func25, Tryd.ntmps25
  go_wp2_with (go_at_call 20; refine H1.mono ?_; rintro e w1 ⟨rfl, hb1⟩)
  go_ret
  exact ⟨rfl, hb1⟩
/-- what a face hands back: a row of the call's own, and no error -/
def FaceF (w w' : World) (e : Ending) (P : List Int → Prop) : Prop :=
  ∃ ao len cap zs, e = .returned (.tuple #[.slice ao len cap, .int .i64 0]) ∧ Own w.heap.size w' .u64 25 ao len cap zs ∧ P zs ∧ cap ≤ 4194304 ∧ Below w.heap.size w w'
theorem NewF.back {w1 w w' : World} {e : Ending} {P : List Int → Prop} (h : NewF w1 w' e P) (hb : Below w.heap.size w w1) : NewF w w' e P := by
  obtain ⟨ao, len, cap, zs, he, ho, hp, hc, h1⟩ := h
  exact ⟨ao, len, cap, zs, he, ho.mono hb.size, hp, hc, bnextM (B := 0) hb h1⟩
set_option maxHeartbeats 400000 in
theorem mAdd_any (p : Int) (ao bo : Option Addr) (la ca lb cb : Nat) (f g : List Int) (w : World) (h : Good2 p w ao bo la ca lb cb f g) :
    Calls Tryd.prog 8 #[.slice ao la ca, .slice bo lb cb, .int .u64 p] w fun e w' => FaceF w w' e fun zs => Pm p zs ∧ EqM p (fun x => ev zs x) (fun x => ev f x + ev g x) ∧ zs.length ≤ max la lb := by
  have H1 := mcheckBoth_any p ao bo la ca lb cb f g w h
  have H2 : Hid (∀ W, Below w.heap.size w W → Calls Tryd.prog 21 #[.slice ao la ca, .slice bo lb cb, .func (.func 22) #[.int .u64 p] #[]] W fun e w' => NewF W w' e fun zs => Pm p zs ∧ EqM p (fun x => ev zs x) (fun x => ev f x + ev g x) ∧ zs.length ≤ max la lb) := fun W hb =>
    merged_any p ao bo la ca lb cb f g W (by have := h.1.1.two; have := h.1.2.1; omega) (h.2.1.later hb).1 (h.2.2.later hb).1
  have hmf : ∀ (fn : Fn) (first cap : Array Value) (w : World), (Instr.makeFunc fn first cap).run Tryd.prog w = .ok (.func fn first cap) w := fun _ _ _ _ => rfl
  clear h
  go_enter Tryd.func8, Tryd.ntmps8
  go_wp2_with (first
    | (go_at_call 20; refine H1.mono ?_; rintro e w1 ⟨rfl, hb1⟩)
    | (go_at_call 21; refine (H2.out _ hb1).mono ?_; rintro e w2 hn; obtain ⟨zo, zl, zc, zs, rfl, hrest⟩ := hn.back hb1))
  go_ret2
  exact ⟨zo, zl, zc, zs, rfl, hrest⟩
set_option maxHeartbeats 1000000 in
theorem mMul_any (p : Int) (ao bo : Option Addr) (la ca lb cb : Nat) (f g : List Int) (w : World) (h : Good2 p w ao bo la ca lb cb f g) (hl : la + lb ≤ 1026) :
    Calls Tryd.prog 9 #[.slice ao la ca, .slice bo lb cb, .int .u64 p] w fun e w' => FaceF w w' e fun zs => zs = prodL p f g := by
  have H1 := mcheckBoth_any p ao bo la ca lb cb f g w h
  have H2 : Hid (∀ W, Below w.heap.size w W → Calls Tryd.prog 23 #[.int .u64 p, .slice ao la ca, .slice bo lb cb] W fun e w' => NewF W w' e fun zs => zs = prodL p f g) := fun W hb =>
    product_any p ao bo la ca lb cb f g W (by have := h.1.1.two; have := h.1.2.1; omega) (h.2.1.later hb).1 (h.2.2.later hb).1 (by omega)
  clear h
  by_cases ha : la = 0
  · subst ha
    go_enter Tryd.func9, Tryd.ntmps9
    go_wp2_with (first
      | (go_at_call 20; refine H1.mono ?_; rintro e w1 ⟨rfl, hb1⟩)
      | (go_at_call 23; refine (H2.out _ hb1).mono ?_; rintro e w2 hn; obtain ⟨zo, zl, zc, zs, rfl, hrest⟩ := hn.back hb1))
    go_ret2
    exact ⟨zo, zl, zc, zs, rfl, hrest⟩
  · have q1 : (0 : Int) < (la : Int) := by omega
    by_cases hb : lb = 0
    · subst hb
      clear ha
      go_enter Tryd.func9, Tryd.ntmps9
      go_wp2_with (first
        | (go_at_call 20; refine H1.mono ?_; rintro e w1 ⟨rfl, hb1⟩)
        | (go_at_call 23; refine (H2.out _ hb1).mono ?_; rintro e w2 hn; obtain ⟨zo, zl, zc, zs, rfl, hrest⟩ := hn.back hb1))
      go_ret2
      exact ⟨zo, zl, zc, zs, rfl, hrest⟩
    · have q2 : (0 : Int) < (lb : Int) := by omega
      have q3 : ¬ (1024 : Int) < (la : Int) + (lb : Int) - 2 := by omega
      clear ha hb
      go_enter Tryd.func9, Tryd.ntmps9
      go_wp2_with (first
        | (go_at_call 20; refine H1.mono ?_; rintro e w1 ⟨rfl, hb1⟩)
        | (go_at_call 23; refine (H2.out _ hb1).mono ?_; rintro e w2 hn; obtain ⟨zo, zl, zc, zs, rfl, hrest⟩ := hn.back hb1))
      go_ret2
      exact ⟨zo, zl, zc, zs, rfl, hrest⟩
set_option maxHeartbeats 400000 in
theorem mPow_any (p : Int) (n : Nat) (ao bo : Option Addr) (la ca lb cb : Nat) (f g : List Int) (w : World) (h : Good2 p w ao bo la ca lb cb f g) (hlb : 0 < lb) (hn : n < 18446744073709551616) :
    Calls Tryd.prog 13 #[.slice ao la ca, .int .u64 (n : Int), .slice bo lb cb, .int .u64 p] w fun e w' => FaceF w w' e fun r => Pm p r ∧ r.length < g.length ∧ Md p g (fun x => ev r x) (fun x => ev f x ^ n) := by
  have H1 := mcheckDivisor_any p ao bo la ca lb cb f g w h hlb
  have H2 : Hid (∀ W, Below w.heap.size w W → Calls Tryd.prog 27 #[.int .u64 p, .slice ao la ca, .int .u64 (n : Int), .slice bo lb cb] W fun e w' => NewF W w' e fun r => Pm p r ∧ r.length < g.length ∧ Md p g (fun x => ev r x) (fun x => ev f x ^ n)) := fun W hb =>
    power_any p n ao bo la ca lb cb f g W h.1.1 (by have := h.1.2.1; omega) (h.2.1.later hb).1 (h.2.2.later hb).1 hlb (by have := h.2.2.2.2; omega) h.2.2.2.1.can hn
  clear h
  go_enter Tryd.func13, Tryd.ntmps13
  go_wp2_with (first
    | (go_at_call 25; refine H1.mono ?_; rintro e w1 ⟨rfl, hb1⟩)
    | (go_at_call 27; refine (H2.out _ hb1).mono ?_; rintro e w2 hn; obtain ⟨zo, zl, zc, zs, rfl, hrest⟩ := hn.back hb1))
  go_ret2
  exact ⟨zo, zl, zc, zs, rfl, hrest⟩
end Go.Proofs.YtpannkjjggelhaaDoor
/-
  ML: walks: the page's Trim, form; equal rows; what is too heavy; what wakes.
-/
namespace Go.Proofs.YtpannkjjggelhaaDoor
open Go.RowKit Go.Shelf
set_option linter.unusedVariables false
set_option linter.unusedSimpArgs false
set_option maxHeartbeats 400000 in
theorem rtrim_any (ao : Option Addr) (len cap : Nat) (zs : List Int) (w : World) (hr : RowAt w .u64 ao len cap zs) (hl : cap ≤ 9223372036854775807) :
    Calls Tryd.prog 14 #[.slice ao len cap] w fun e w' => MTrim ao len cap zs e ∧ w' = w := by
  have hcl := hr.hcap
  have HR : Hid (RowAt w .u64 ao len cap zs ∧ len = zs.length) := ⟨hr, hr.hlen⟩
  clear hr
  go_enter Tryd.func14, Tryd.ntmps14
  go_wp2
  go_loop [3] (fun i => ∃ k : Nat, k ≤ len ∧ i = .int .i64 k ∧ Hid (∀ t, k ≤ t → dig zs t = 0)) (fun i => (intOf i).toNat)
  case atStart => exact ⟨len, Nat.le_refl _, rfl, fun t h1 => dig_past (by rw [← HR.out.2]; exact h1)⟩
  case round =>
    obtain ⟨k, hk, rfl, HZ⟩ := hrel
    by_cases hk0 : k = 0
    · subst hk0
      go_wp2
      go_ret
      exact ⟨⟨0, Nat.zero_le _, rfl, can_take (Nat.zero_le _) (fun h => absurd h (by omega)), fun t h => HZ.out t h⟩, rfl⟩
    · have hkp : (0 : Int) < (k : Int) := by omega
      obtain ⟨b, off, rfl, hb, hc⟩ := HR.out.1.get (by omega)
      have hcell := hc (k - 1) (by omega)
      have e1 : (k : Int) - 1 = ((k - 1 : Nat) : Int) := by omega
      have e2 : k - 1 < len := by omega
      have e3 : (k : Int) ≤ (cap : Int) := by omega
      have e4 : (0 : Int) ≤ (k : Int) := by omega
      clear hc
      by_cases hd : dig zs (k - 1) = 0
      · rw [hd] at hcell
        have HD : Hid (dig zs (k - 1) = 0) := hd
        clear hd
        go_wp2
        go_round
        case rel => exact ⟨k - 1, by omega, by first | rfl | go_num, fun t h2 => by
          by_cases e : t = k - 1
          · subst e; exact HD.out
          · exact HZ.out t (by omega)⟩
        case measure => simp [intOf]; omega
      · have hd' : (dig zs (k - 1) == 0) = false := by simpa using hd
        obtain ⟨z, hz⟩ : ∃ z, dig zs (k - 1) = z := ⟨_, rfl⟩
        rw [hz] at hcell hd'
        have HD : Hid (dig zs (k - 1) ≠ 0) := hd
        clear hd hz
        go_wp2
        go_ret
        exact ⟨⟨k, hk, rfl, can_take (HR.out.2 ▸ hk) (fun _ => HD.out), fun t h1 => HZ.out t h1⟩, rfl⟩
set_option maxHeartbeats 400000 in
theorem meqF_any (b : Bool) (ao bo : Option Addr) (la ca lb cb : Nat) (x y : List Int) (w : World) (hx : RowAt w .u64 ao la ca x) (hy : RowAt w .u64 bo lb cb y) (hl : la ≤ 4611686018427387904) (hb : decide (x = y) = b) :
    Calls Tryd.prog 11 #[.slice ao la ca, .slice bo lb cb] w fun e w' => e = .returned (.bool b) ∧ Below w.heap.size w w' := by
  have H := eqwords_any ao bo la ca lb cb x y w hx hy hl
  rw [hb] at H
  clear hb hx hy
  go_enter Tryd.func11, Tryd.ntmps11
  go_wp2_with (go_at_call 24; refine H.mono ?_; rintro e w1 ⟨rfl, hb1⟩)
  go_ret
  exact ⟨rfl, hb1⟩
set_option maxHeartbeats 400000 in
theorem mnum_any (n : Int) (w : World) : Calls Tryd.prog 10 #[.int .i64 n] w fun e w' => e = .returned (.int .i64 n) ∧ w' = w := by
  go_enter Tryd.func10, Tryd.ntmps10
  go_wp2
  go_ret
  exact ⟨rfl, rfl⟩
/-- what is asked of a small row, in Booleans -/
def pmB (p : Int) (l : List Int) : Bool := l.all (fun z => decide (0 ≤ z) && decide (z < p)) && (l.isEmpty || decide (dig l (l.length - 1) ≠ 0))
theorem pm_of {p : Int} {l : List Int} (h : pmB p l = true) : Pm p l := by
  simp only [pmB, Bool.and_eq_true, Bool.or_eq_true, List.all_eq_true, decide_eq_true_eq, List.isEmpty_iff] at h
  refine ⟨fun z hz => h.1 z hz, can_of_dig fun hl => ?_⟩
  rcases h.2 with e | e
  · subst e; simp at hl
  · exact e
set_option maxRecDepth 100000 in
set_option maxHeartbeats 1000000 in
theorem mwakes_any (w : World) (hT : TabAt 0 Lib.deBruijn64tab w) :
    Calls Tryd.prog 15 #[] w fun e w' => e = .returned (.bool true) ∧ Below w.heap.size w w' := by
  obtain ⟨W, hW⟩ : ∃ W, W = (w.alloc (.cells #[.int .u64 4, .int .u64 1] 25)).alloc (.cells #[.int .u64 3, .int .u64 4] 25) := ⟨_, rfl⟩
  have h5 : IsPr 5 := IsPr.of_sq (by decide) fun d h1 h2 => by
    have : d < 3 := by
      by_cases hd : d < 3
      · exact hd
      · have : 3 * 3 ≤ d * d := Int.mul_le_mul (by omega) (by omega) (by decide) (by omega)
        omega
    obtain rfl : d = 2 := by omega
    decide
  have HW : Hid (Below w.heap.size w W ∧ Good2 5 W (some ⟨w.heap.size, 0, none⟩) (some ⟨w.heap.size + 1, 0, none⟩) 2 2 2 2 [4, 1] [3, 4]) := by
    have hb1 : Below w.heap.size w (w.alloc (.cells #[.int .u64 4, .int .u64 1] 25)) := (Below.refl _ _).alloc (Nat.le_refl _) _
    have hb2 : Below w.heap.size w W := by rw [hW]; exact hb1.alloc hb1.size _
    have k1 : Blk W w.heap.size .u64 25 [4, 1] := by rw [hW]; exact (Blk.new w .u64 25 [4, 1]).alloc _
    have k2 : Blk W (w.heap.size + 1) .u64 25 [3, 4] := by
      rw [hW]
      have := Blk.new (w.alloc (.cells #[.int .u64 4, .int .u64 1] 25)) .u64 25 [3, 4]
      simpa using this
    refine ⟨hb2, ⟨h5, by decide, mtab_later hT hb2⟩, ⟨⟨(Own.whole k1 (Nat.zero_le _) rfl).row, (pm_of (by decide)).wd, by decide⟩, pm_of (by decide), by decide⟩, ⟨⟨(Own.whole k2 (Nat.zero_le _) rfl).row, (pm_of (by decide)).wd, by decide⟩, pm_of (by decide), by decide⟩⟩
  have HA : Hid (Calls Tryd.prog 8 #[.slice (some ⟨w.heap.size, 0, none⟩) 2 2, .slice (some ⟨w.heap.size + 1, 0, none⟩) 2 2, .int .u64 5] W fun e w' => ∃ ao len cap, e = .returned (.tuple #[.slice ao len cap, .int .i64 0]) ∧ RowAt w' .u64 ao len cap [2] ∧ cap ≤ 4194304 ∧ Below W.heap.size W w') := by
    refine (mAdd_any 5 _ _ 2 2 2 2 [4, 1] [3, 4] W HW.out.2).mono fun e w' h => ?_
    obtain ⟨ao, len, cap, zs, he, ho, ⟨hpm, heq, _⟩, hc, hb⟩ := h
    obtain rfl : zs = [2] := Pm.inj (by decide) hpm (pm_of (by decide)) (heq.trans ⟨_, IsP.ev [1, 1], fun x => by simp [ev]; omega⟩)
    exact ⟨ao, len, cap, he, ho.row, hc, hb⟩
  clear hT h5
  go_enter Tryd.func15, Tryd.ntmps15
  go_wp2_with (first
    | (go_at_call 8; rw [← hW]; refine HA.out.mono ?_; rintro e w1 ⟨ao, len, cap, rfl, hrow, hcap, hb1⟩; have HR : Hid (RowAt (w1.alloc (.cells #[.int .u64 2] 25)) .u64 ao len cap [2] ∧ RowAt (w1.alloc (.cells #[.int .u64 2] 25)) .u64 (some ⟨w1.heap.size, 0, none⟩) 1 1 [2] ∧ len ≤ 4611686018427387904 ∧ Below w.heap.size w (w1.alloc (.cells #[.int .u64 2] 25))) := ⟨hrow.later ((Below.refl _ _).alloc (Nat.le_refl _) _), (Own.whole (Blk.new w1 .u64 25 [2]) (Nat.zero_le _) rfl).row, by have := hrow.hcap; omega, bnextM (B := 0) (bnextM (B := 0) HW.out.1 hb1) ((Below.refl _ _).alloc (Nat.le_refl _) _)⟩; clear hrow hcap hb1)
    | (go_at_call 10; refine (mnum_any 0 _).mono ?_; rintro e w2 ⟨rfl, hw2⟩; replace hw2 := hw2.symm; subst hw2)
    | (go_at_call 11; refine (meqF_any true _ _ _ _ _ _ [2] [2] _ HR.out.1 HR.out.2.1 HR.out.2.2.1 (by decide)).mono ?_; rintro e w3 ⟨rfl, hb3⟩))
  go_ret
  exact ⟨rfl, bnextM (B := 0) HR.out.2.2.2 hb3⟩
end Go.Proofs.YtpannkjjggelhaaDoor
/-
  MM: walks: what is too heavy; the law's items in memory, and off a reading.
-/
namespace Go.Proofs.YtpannkjjggelhaaDoor
open Go.RowKit Go.Shelf Go.ChangeShapes Go.WideShapes Go.ChangeAt
set_option linter.unusedVariables false
set_option linter.unusedSimpArgs false
/-- a list of numbers: how long each is -/
def PolyL (w : World) (po : Option Addr) (pl : Nat) (ls : List Nat) : Prop :=
  pl = ls.length ∧ ∀ t, (ht : t < ls.length) → ∃ b off n o c, po = some ⟨b, off, none⟩ ∧ w.cell? ⟨b, off + t * 2, none⟩ = some (.bool n) ∧ w.cell? ⟨b, off + t * 2 + 1, none⟩ = some (.slice o ls[t] c)
theorem PolyL.later {w w' : World} {po : Option Addr} {pl : Nat} {ls : List Nat} (h : PolyL w po pl ls) (hb : Below w.heap.size w w') : PolyL w' po pl ls :=
  ⟨h.1, fun t ht => by
    obtain ⟨b, off, n, o, c, e, h1, h2⟩ := h.2 t ht
    exact ⟨b, off, n, o, c, e, (hb.cell (p := ⟨b, off + t * 2, none⟩) (cell_lt h1)).trans h1, (hb.cell (p := ⟨b, off + t * 2 + 1, none⟩) (cell_lt h2)).trans h2⟩⟩
/-- an item's cells -/
def itemV (ao bo co : Option Addr) (la ca lb cb lc cc : Nat) (N P : Int) (po : Option Addr) (pl pc : Nat) : List Value :=
  [.slice ao la ca, .slice bo lb cb, .slice co lc cc, .int .u64 N, .int .u64 P, .slice po pl pc]
/-- an item of the law lies in block b from o on -/
def Item11 (w : World) (b o : Nat) : Prop :=
  ∃ (ao bo co : Option Addr) (la ca lb cb lc cc : Nat) (N P : Int) (po : Option Addr) (pl pc : Nat) (x y z : List Int) (ls : List Nat),
    (∀ j v, (itemV ao bo co la ca lb cb lc cc N P po pl pc)[j]? = some v → w.cell? ⟨b, o + j, none⟩ = some v) ∧
    (RowAt w .u64 ao la ca x ∧ Wd 18446744073709551616 x ∧ la ≤ 9223372036854775807) ∧ (RowAt w .u64 bo lb cb y ∧ Wd 18446744073709551616 y ∧ lb ≤ 9223372036854775807) ∧ (RowAt w .u64 co lc cc z ∧ Wd 18446744073709551616 z ∧ lc ≤ 9223372036854775807) ∧
    (0 ≤ N ∧ N < 18446744073709551616) ∧ (0 ≤ P ∧ P < 18446744073709551616) ∧ PolyL w po pl ls
/-- a list of such -/
def Items11 (w : World) (lo : Option Addr) (n : Nat) : Prop := ∀ i, i < n → ∃ b off, lo = some ⟨b, off, none⟩ ∧ b < w.heap.size ∧ Item11 w b (off + i * 6)
theorem Item11.later {w w' : World} {b o : Nat} (h : Item11 w b o) (hb : Below w.heap.size w w') : Item11 w' b o := by
  obtain ⟨ao, bo, co, la, ca, lb, cb, lc, cc, N, P, po, pl, pc, x, y, z, ls, hc, hx, hy, hz, hN, hP, hl⟩ := h
  exact ⟨ao, bo, co, la, ca, lb, cb, lc, cc, N, P, po, pl, pc, x, y, z, ls, fun j v hj => (hb.cell (p := ⟨b, o + j, none⟩) (cell_lt (hc j v hj))).trans (hc j v hj), ⟨hx.1.later hb, hx.2⟩, ⟨hy.1.later hb, hy.2⟩, ⟨hz.1.later hb, hz.2⟩, hN, hP, hl.later hb⟩
theorem Items11.later {w w' : World} {lo : Option Addr} {n : Nat} (h : Items11 w lo n) (hb : Below w.heap.size w w') : Items11 w' lo n := fun i hi => by
  obtain ⟨b, off, e, hlt, hit⟩ := h i hi
  exact ⟨b, off, e, Nat.lt_of_lt_of_le hlt hb.size, hit.later hb⟩
theorem madd_off {b off j : Nat} : Addr.add ⟨b, off, none⟩ j = ⟨b, off + j, none⟩ := by
  by_cases h0 : j = 0
  · subst h0; simp [Addr.add]
  · simp [Addr.add, h0]
end Go.Proofs.YtpannkjjggelhaaDoor
/-
  MN: ModPowers' walk.
-/
namespace Go.Proofs.YtpannkjjggelhaaDoor
open Go.RowKit Go.Shelf
set_option linter.unusedVariables false
set_option linter.unusedSimpArgs false
/-- what is left of a power, as the law holds it -/
def PowA (p : Int) (g : List Int) (w : World) (o : Option Addr) (l c : Nat) (r : List Int) (A : Int → Int) : Prop := GoodF p w o l c r ∧ r.length < g.length ∧ Md p g (fun x => ev r x) A
theorem PowA.later {p : Int} {g : List Int} {w w' : World} {o : Option Addr} {l c : Nat} {r : List Int} {A : Int → Int} (h : PowA p g w o l c r A) (hb : Below w.heap.size w w') : PowA p g w' o l c r A := ⟨h.1.later hb, h.2⟩
theorem goodF_own {p : Int} {B : Nat} {w : World} {o : Option Addr} {l c : Nat} {r : List Int} (h : Own B w .u64 25 o l c r) (hp : Pm p r) (hc : c ≤ 4194304) (hl : r.length ≤ 1025) : GoodF p w o l c r :=
  ⟨⟨h.row, hp.wd, Nat.le_trans h.row.hcap hc⟩, hp, by rw [h.row.hlen]; exact hl⟩
theorem mPowA (p : Int) (n : Nat) (ao bo : Option Addr) (la ca lb cb : Nat) (f g : List Int) (w : World) (h : Good2 p w ao bo la ca lb cb f g) (hlb : 0 < lb) (hn : n < 18446744073709551616) :
    Calls Tryd.prog 13 #[.slice ao la ca, .int .u64 (n : Int), .slice bo lb cb, .int .u64 p] w fun e w' => (∃ o l c r, e = .returned (.tuple #[.slice o l c, .int .i64 0]) ∧ PowA p g w' o l c r (fun x => ev f x ^ n)) ∧ Below w.heap.size w w' :=
  (mPow_any p n ao bo la ca lb cb f g w h hlb hn).mono fun e w' hf => by
    obtain ⟨o, l, c, r, he, ho, ⟨hpm, hlt, hmd⟩, hc, hb⟩ := hf
    have h1 := h.2.2.2.2
    have h2 := h.2.2.1.row.hlen
    exact ⟨⟨o, l, c, r, he, goodF_own ho hpm hc (by omega), hlt, hmd⟩, hb⟩
end Go.Proofs.YtpannkjjggelhaaDoor
/-
  MO: ModLaws' walk. (gen/mo.py)
-/
namespace Go.Proofs.YtpannkjjggelhaaDoor
open Go.RowKit Go.Shelf
set_option linter.unusedVariables false
set_option linter.unusedSimpArgs false
/-- a polynomial modulo p that is A, as the law holds it -/
def EqA (p : Int) (w : World) (o : Option Addr) (l c : Nat) (r : List Int) (A : Int → Int) (L : Nat) : Prop := GoodF p w o l c r ∧ EqM p (fun x => ev r x) A ∧ r.length ≤ L
theorem EqA.later {p : Int} {w w' : World} {o : Option Addr} {l c : Nat} {r : List Int} {A : Int → Int} {L : Nat} (h : EqA p w o l c r A L) (hb : Below w.heap.size w w') : EqA p w' o l c r A L := ⟨h.1.later hb, h.2⟩
theorem EqA.same {p : Int} {w w' : World} {o o' : Option Addr} {l c l' c' : Nat} {r r' : List Int} {A C : Int → Int} {L L' : Nat} (h : EqA p w o l c r A L) (g : EqA p w' o' l' c' r' C L') (hp : 0 < p) (hAC : EqM p A C) : r = r' :=
  Pm.inj hp h.1.2.1 g.1.2.1 (h.2.1.trans (hAC.trans g.2.1.symm))
theorem mPowP (p : Int) (ao bo : Option Addr) (la ca lb cb : Nat) (f g : List Int) (w : World) (h : Good2 p w ao bo la ca lb cb f g) (hlb : 0 < lb) :
    Calls Tryd.prog 13 #[.slice ao la ca, .int .u64 p, .slice bo lb cb, .int .u64 p] w fun e w' => (∃ o l c r, e = .returned (.tuple #[.slice o l c, .int .i64 0]) ∧ PowA p g w' o l c r (fun x => ev f x ^ p.toNat)) ∧ Below w.heap.size w w' := by
  have h0 := h.1.1.two
  have h1 := h.1.2.1
  have := mPowA p p.toNat ao bo la ca lb cb f g w h hlb (by omega)
  rwa [show ((p.toNat : Nat) : Int) = p by omega] at this
/-- a row with one place, cut if it is 0 -/
theorem oneRow {p z : Int} {w : World} {g : Nat} {n : Nat} (hz : 0 ≤ z ∧ z < p) (hb : Blk w g .u64 25 [z]) (hn : n ≤ 1) (hc : Can ([z].take n)) (h0 : ∀ t, n ≤ t → dig [z] t = 0) : EqA p w (some ⟨g, 0, none⟩) n 1 ([z].take n) (fun _ => z) 1 := by
  have hr : RowAt w .u64 (some ⟨g, 0, none⟩) n 1 ([z].take n) := (Own.whole (B := 0) hb (Nat.zero_le _) rfl).row.take hn
  have hw : Wd p ([z].take n) := fun y hy => by
    have := List.mem_of_mem_take hy
    rw [List.mem_singleton.1 this]; exact hz
  refine ⟨⟨⟨hr, hw, by omega⟩, ⟨hw, hc⟩, by omega⟩, (take_eqm p h0).trans (EqM.of_eq fun t => by simp [ev]), by simp; omega⟩
end Go.Proofs.YtpannkjjggelhaaDoor
/-
  MP: ModFermat's walk.
-/
namespace Go.Proofs.YtpannkjjggelhaaDoor
open Go.RowKit Go.Shelf
set_option linter.unusedVariables false
set_option linter.unusedSimpArgs false
/-- x - j modulo P -/
def linF (P j : Nat) : List Int := [((P : Int) - (j : Int)) % (P : Int), 1]
/-- the product of the first j of them -/
def pf (P : Nat) : Nat → List Int
  | 0 => [1]
  | j + 1 => prodL (P : Int) (pf P j) (linF P j)
/-- x^P - x -/
def wantF (P : Nat) : List Int := ((List.replicate (P + 1) 0).set 1 ((P : Int) - 1)).set P 1
def sixP : List Int := [2, 3, 5, 7, 11, 13]
theorem small_pr {p : Int} (h2 : 2 ≤ p) (h13 : p ≤ 13) (ha : p = 2 ∨ p % 2 ≠ 0) (hb : p = 3 ∨ p % 3 ≠ 0) : IsPr p := by
  refine IsPr.of_sq h2 fun d h1 h3 => ?_
  have hd : d < 4 := by
    by_cases hd : d < 4
    · exact hd
    · have : 4 * 4 ≤ d * d := Int.mul_le_mul (by omega) (by omega) (by decide) (by omega)
      omega
  by_cases e : d = 2
  · subst e
    rcases ha with rfl | ha
    · omega
    · exact ha
  · obtain rfl : d = 3 := by omega
    rcases hb with rfl | hb
    · omega
    · exact hb
theorem six_facts (r : Nat) (hr : r < 6) : ∃ P : Nat, dig sixP r = (P : Int) ∧ IsPr (P : Int) ∧ 2 ≤ P ∧ P ≤ 13 ∧ pf P P = wantF P := by
  have hc : r = 0 ∨ r = 1 ∨ r = 2 ∨ r = 3 ∨ r = 4 ∨ r = 5 := by omega
  rcases hc with rfl | rfl | rfl | rfl | rfl | rfl
  · exact ⟨2, rfl, small_pr (by decide) (by decide) (by decide) (by decide), by decide, by decide, by decide +kernel⟩
  · exact ⟨3, rfl, small_pr (by decide) (by decide) (by decide) (by decide), by decide, by decide, by decide +kernel⟩
  · exact ⟨5, rfl, small_pr (by decide) (by decide) (by decide) (by decide), by decide, by decide, by decide +kernel⟩
  · exact ⟨7, rfl, small_pr (by decide) (by decide) (by decide) (by decide), by decide, by decide, by decide +kernel⟩
  · exact ⟨11, rfl, small_pr (by decide) (by decide) (by decide) (by decide), by decide, by decide, by decide +kernel⟩
  · exact ⟨13, rfl, small_pr (by decide) (by decide) (by decide) (by decide), by decide, by decide, by decide +kernel⟩
theorem linF_pm {P : Nat} (hP : 2 ≤ P) (j : Nat) : Pm (P : Int) (linF P j) := by
  refine ⟨fun z hz => ?_, can_of_dig fun _ => by simp [linF, dig]⟩
  simp only [linF, List.mem_cons, List.not_mem_nil, or_false] at hz
  rcases hz with rfl | rfl
  · exact ⟨Int.emod_nonneg _ (by omega), Int.emod_lt_of_pos _ (by omega)⟩
  · omega
theorem pf_pm {P : Nat} (hP : IsPr (P : Int)) : ∀ j, Pm (P : Int) (pf P j)
  | 0 => by
    have h2 := hP.two
    exact ⟨fun z hz => by simp [pf] at hz; omega, can_of_dig fun _ => by simp [pf, dig]⟩
  | j + 1 => prodL_pm hP (pf_pm hP j) (linF_pm (by have := hP.two; omega) j)
theorem pf_len (P : Nat) : ∀ j, (pf P j).length ≤ 1 + 2 * j
  | 0 => by simp [pf]
  | j + 1 => by
    have h1 := pf_len P j
    have h2 := prodL_len (P : Int) (pf P j) (linF P j)
    have h3 : (linF P j).length = 2 := rfl
    show (prodL (P : Int) (pf P j) (linF P j)).length ≤ _
    omega
theorem trim_two {L : List Int} {n : Nat} (hc : Can L) (hl : L.length = 2) (hn : n ≤ 2) (h0 : ∀ t, n ≤ t → dig L t = 0) : n = 2 := by
  by_cases h : n = 2
  · exact h
  · exact absurd (h0 1 (by omega)) (by have := can_dig hc (by omega); rw [hl] at this; exact this)
set_option maxHeartbeats 400000 in
theorem mwithin_any (z : Int) (w : World) (hz : -9223372036854775808 ≤ z ∧ z ≤ 9223372036854775807) :
    Calls Tryd.prog 16 #[.int .i64 z, .int .i64 6] w fun e w' => (∃ r : Nat, r < 6 ∧ e = .returned (.int .i64 (r : Int))) ∧ w' = w := by
  obtain ⟨u, hu⟩ : ∃ u, IntKind.u64.wrap z = u := ⟨_, rfl⟩
  have hu0 : 0 ≤ u ∧ u < 18446744073709551616 := by rw [← hu, IntKind.wrap_u64]; omega
  obtain ⟨h0, h1⟩ := hu0
  go_enter Tryd.func16, Tryd.ntmps16
  go_wp2
  go_ret
  exact ⟨⟨(u % 6).toNat, by omega, ret_int (by omega)⟩, rfl⟩
/-- a number's power is it, whatever one reckons modulo -/
theorem fermP {p z : Int} (hp : IsPr p) (hz : 0 ≤ z) {f g : List Int} (hf : EqM p (fun x => ev f x) (fun _ => z)) : Md p g (fun x => ev f x ^ p.toNat) (fun x => ev f x) := by
  obtain ⟨k, hk⟩ := hp.fermat' hz
  have h1 : Md p g (fun x => ev f x ^ p.toNat) (fun _ => z ^ p.toNat) := (Md.ofEqM g hf).pow (IsP.ev f) (IsP.const z) p.toNat
  exact (h1.trans (Md.ofEqM g ⟨_, IsP.const k, fun _ => hk⟩)).trans (Md.ofEqM g hf.symm)
set_option maxRecDepth 100000 in
set_option maxHeartbeats 8000000 in
theorem modFermat_any (lo : Option Addr) (len cap : Nat) (zs : List Int) (w : World) (hE : RowAt w .i64 lo len cap zs) (hz : ∀ t, t < len → -9223372036854775808 ≤ dig zs t ∧ dig zs t ≤ 9223372036854775807) (hl : len ≤ 9223372036854775807) (hT : TabAt 0 Lib.deBruijn64tab w) :
    Calls Tryd.prog 4 #[.slice lo len cap] w fun e w' => e = .returned (.bool true) ∧ Below w.heap.size w w' := by
  have HE : Hid (RowAt w .i64 lo len cap zs ∧ (∀ t, t < len → -9223372036854775808 ≤ dig zs t ∧ dig zs t ≤ 9223372036854775807) ∧ TabAt 0 Lib.deBruijn64tab w) := ⟨hE, hz, hT⟩
  clear hE hz hT
  obtain ⟨W, hW⟩ : ∃ W, W = w.alloc (.cells #[.int .u64 2, .int .u64 3, .int .u64 5, .int .u64 7, .int .u64 11, .int .u64 13] 25) := ⟨_, rfl⟩
  have HW : Hid (Below w.heap.size w W ∧ Blk W w.heap.size .u64 25 sixP) := by
    rw [hW]; exact ⟨(Below.refl _ _).alloc (Nat.le_refl _) _, Blk.new w .u64 25 sixP⟩
  go_enter Tryd.func4, Tryd.ntmps4
  go_wp2
  rw [← hW]
  obtain ⟨G, hG⟩ : ∃ G, G = w.heap.size := ⟨_, rfl⟩
  rw [← hG]
  have HG : Hid (G = w.heap.size ∧ Blk W G .u64 25 sixP ∧ Below w.heap.size w W) := by rw [hG]; exact ⟨rfl, HW.out.2, HW.out.1⟩
  clear hG hW HW
  go_loopw [4] (fun i wr => ∃ k : Nat, k ≤ len ∧ i = .int .i64 (k : Int) ∧ Below W.heap.size W wr) (fun i _ => len - (intOf i).toNat)
  case atStart => exact ⟨0, Nat.zero_le _, rfl, Below.refl _ _⟩
  case round =>
    obtain ⟨k, hk, rfl, hbe⟩ := hrel
    have HB : Hid (Below W.heap.size W wr ∧ Below w.heap.size w wr) := ⟨hbe, bnextM (B := 0) HG.out.2.2 hbe⟩
    clear hbe
    have hwk : ∀ V, Below w.heap.size w V → Calls Tryd.prog 15 #[] V fun e w' => e = .returned (.bool true) ∧ Below V.heap.size V w' := fun V hb => mwakes_any V (mtab_later HE.out.2.2 hb)
    by_cases hlt : k < len ∧ k < 4
    · obtain ⟨hk1, hk2⟩ := hlt
      obtain ⟨b, off, rfl, hb, hc⟩ := (HE.out.1.later HB.out.2).get (by omega)
      have hck := hc k hk1
      obtain ⟨z, hze⟩ : ∃ z, dig zs k = z := ⟨_, rfl⟩
      have hz := HE.out.2.1 k hk1
      rw [hze] at hck hz
      have hwi := mwithin_any z wr hz
      have z1 : (k : Int) < (len : Int) := by omega
      have z2 : (k : Int) < 4 := by omega
      have z3 : (0 : Int) ≤ (k : Int) := by omega
      clear hc hze hz
      have HBL : Hid (Blk wr G .u64 25 sixP) := HG.out.2.1.all HB.out.1
      go_wp2_with (go_at_call 16; refine hwi.mono ?_; rintro e w1 ⟨⟨r, hr, rfl⟩, hw1⟩; replace hw1 := hw1.symm; subst hw1; have hrc := HBL.out.cell (j := r) (by simpa [sixP] using hr); obtain ⟨P, hP, hpr, hP2, hP13, hpf⟩ := six_facts r hr; rw [hP] at hrc; have HP : Hid (IsPr (P : Int) ∧ pf P P = wantF P ∧ PrimeT (P : Int) wr) := ⟨hpr, hpf, hpr, by omega, mtab_later HE.out.2.2 HB.out.2⟩; clear hP hpr hpf; have y1 : (r : Int) < 6 := (by omega); have y2 : (0 : Int) ≤ (r : Int) := (by omega))
      obtain ⟨wo, hwo⟩ : ∃ wo, wo = wr := ⟨_, rfl⟩
      subst hwo
      have H1 : Hid (Below wo.heap.size wo (wo.alloc (.cells #[.int .u64 1] 25)) ∧ GoodF (P : Int) (wo.alloc (.cells #[.int .u64 1] 25)) (some ⟨wo.heap.size, 0, none⟩) 1 1 (pf P 0)) :=
        ⟨(Below.refl _ _).alloc (Nat.le_refl _) _, ⟨⟨(Own.whole (B := 0) (Blk.new wo .u64 25 [1]) (Nat.zero_le _) rfl).row, (pf_pm HP.out.1 0).wd, by decide⟩, pf_pm HP.out.1 0, by decide⟩⟩
      go_loopw [6, 7] (fun z i w2 => ∃ (j : Nat) (o : Option Addr) (l c : Nat), i = .int .u64 (j : Int) ∧ j ≤ P ∧ z = .slice o l c ∧ Hid (GoodF (P : Int) w2 o l c (pf P j) ∧ Below wo.heap.size wo w2)) (fun _ i _ => P - (intOf i).toNat)
      case atStart => exact ⟨0, _, _, _, rfl, Nat.zero_le _, rfl, H1.out.2, H1.out.1⟩
      case round =>
        obtain ⟨j, o, l, c, rfl, hj, rfl, HS⟩ := hrel
        clear H1
        by_cases hjP : j < P
        · obtain ⟨u, hu⟩ : ∃ u, ((P : Int) - (j : Int)) % (P : Int) = u := ⟨_, rfl⟩
          have hut : ((P : Int) - (j : Int)).tmod (P : Int) = u := by rw [Int.tmod_eq_emod_of_nonneg (by omega)]; exact hu
          have z1 : (j : Int) < (P : Int) := by omega
          have z2 : (0 : Int) ≤ (j : Int) := by omega
          have z4 : ¬ (P : Int) = 0 := by omega
          have z5 : ((P : Int) == 0) = false := by simp; omega
          have HU : Hid (linF P j = [u, 1]) := by show _ = _; rw [linF, hu]
          have HA : Hid (Below wr.heap.size wr (wr.alloc (.cells #[.int .u64 u, .int .u64 1] 25)) ∧ Blk (wr.alloc (.cells #[.int .u64 u, .int .u64 1] 25)) wr.heap.size .u64 25 (linF P j)) := by
            rw [HU.out]; exact ⟨(Below.refl _ _).alloc (Nat.le_refl _) _, Blk.new wr .u64 25 [u, 1]⟩
          have HL2 : Hid (Pm (P : Int) (linF P j)) := linF_pm hP2 j
          go_wp2_with (first
            | (go_at_call 10; refine (mnum_any 0 _).mono ?_; rintro e wn ⟨rfl, hwn⟩; replace hwn := hwn.symm; subst hwn)
            | (go_at_call 9; have _t := HT; refine (mMul_any (P : Int) o (some ⟨wr.heap.size, 0, none⟩) l c 2 2 (pf P j) (linF P j) _ ⟨HP.out.2.2.later (bnextM (B := 0) HS.out.2 HA.out.1), HS.out.1.later HA.out.1, HT.out⟩ (by have h1 := HS.out.1.1.row.hlen; have h2 := pf_len P j; omega)).mono ?_; rintro e w3 ⟨o3, l3, c3, zs3, rfl, ho3, rfl, hc3, hb3⟩; have HM : Hid (GoodF (P : Int) w3 o3 l3 c3 (pf P (j + 1)) ∧ Below wo.heap.size wo w3) := ⟨goodF_own ho3 (pf_pm HP.out.1 (j + 1)) hc3 (by have := pf_len P (j + 1); show (pf P (j + 1)).length ≤ _; omega), bnextM (B := 0) HS.out.2 (bnextM (B := 0) HA.out.1 hb3)⟩; clear ho3 hc3 hb3)
            | (go_at_call 14; refine (rtrim_any (some ⟨wr.heap.size, 0, none⟩) 2 2 (linF P j) _ (Own.whole (B := 0) HA.out.2 (Nat.zero_le _) rfl).row (by decide)).mono ?_; rintro e wt ⟨⟨n, hn, rfl, hcan, hn0⟩, rfl⟩; obtain rfl : n = 2 := trim_two HL2.out.can rfl hn hn0; have HT : Hid (GoodF (P : Int) (wr.alloc (.cells #[.int .u64 u, .int .u64 1] 25)) (some ⟨wr.heap.size, 0, none⟩) 2 2 (linF P j)) := ⟨⟨(Own.whole (B := 0) HA.out.2 (Nat.zero_le _) rfl).row, HL2.out.wd, by decide⟩, HL2.out, by decide⟩; clear hn hcan hn0))
          go_roundw
          case rel => exact ⟨j + 1, o3, l3, c3, by go_num, by omega, rfl, HM.out⟩
          case measure => simp [intOf]; omega
        · obtain rfl : P = j := by omega
          have z1 : ¬ (P : Int) < (P : Int) := by omega
          obtain ⟨i0, hi, hz0, hz1, hz2⟩ := info_parts info64
          have b1 : Hid (i0.bytes * (P + 1) ≤ 281474976710656) := by show _ ≤ _; rw [hz2]; omega
          have b2 : Hid (P + 1 ≤ maxLen) := by show _ ≤ _; unfold maxLen; omega
          have hne : ¬ P = 1 := by omega
          have hne' : ¬ 1 = P := by omega
          have y5 : (P : Int) < (P : Int) + 1 := by omega
          have y6 : (0 : Int) ≤ (P : Int) := by omega
          have y7 : (1 : Int) < (P : Int) + 1 := by omega
          have y8 : (1 : Int) ≤ (P : Int) := by omega
          go_wp2_with (first
            | (at_make; refine wpList_make_full _ rfl (.tmp 59) (.tmp 59) 24 rfl wr.heap.size 25 i0 (.int .u64 0) 1 Tryd.underlying24 hi hz0 hz1 .u64 .u64 _ _ (P + 1) rfl rfl rfl rfl b1.out b2.out (Nat.le_refl _) ?_; intro w1 hown1 hgrow1; have HK : Hid (Blk w1 wr.heap.size .u64 25 (List.replicate (P + 1) 0) ∧ Below wr.heap.size wr w1) := ⟨made_blk hown1, grown_below hgrow1⟩; clear hown1 hgrow1; have k1 := HK.out.1.cell (j := 1) (by simp; omega); have kP := HK.out.1.cell (j := P) (by simp); have kf := HK.out.1.frozen)
            | (go_at_call 11; have hbZ : Below wr.heap.size wr ((w1.setCell ⟨wr.heap.size, 1, none⟩ (.int .u64 ((P : Int) - 1))).setCell ⟨wr.heap.size, P, none⟩ (.int .u64 1)) := (HK.out.2.setCell (p := ⟨wr.heap.size, 1, none⟩) (Nat.le_refl _) _).setCell (p := ⟨wr.heap.size, P, none⟩) (Nat.le_refl _) _; have hbk : Blk ((w1.setCell ⟨wr.heap.size, 1, none⟩ (.int .u64 ((P : Int) - 1))).setCell ⟨wr.heap.size, P, none⟩ (.int .u64 1)) wr.heap.size .u64 25 (wantF P) := (HK.out.1.set 1 ((P : Int) - 1)).set P 1; refine (meqF_any true o (some ⟨wr.heap.size, 0, none⟩) l c (P + 1) (P + 1) (pf P P) (wantF P) _ (HS.out.1.later hbZ).1.row (Own.whole (B := 0) hbk (Nat.zero_le _) (by simp [wantF])).row (by have := HS.out.1.2.2; omega) (decide_eq_true HP.out.2.1)).mono ?_; rintro e w8 ⟨rfl, hb8⟩; have HZ : Hid (Below wo.heap.size wo w8) := bnextM (B := 0) HS.out.2 (bnextM (B := 0) hbZ hb8); clear hbZ hbk hb8))
          clear k1 kP kf HK hne hne' y5 y7 hi hz0 hz1 hz2 b1 b2
          go_loopw [11] (fun i w2 => ∃ j : Nat, i = .int .u64 (j : Int) ∧ j ≤ P ∧ Below wo.heap.size wo w2) (fun i _ => P - (intOf i).toNat)
          case atStart => exact ⟨0, rfl, Nat.zero_le _, HZ.out⟩
          case round =>
            obtain ⟨j, rfl, hj, hbe⟩ := hrel
            have HBE : Hid (Below wo.heap.size wo wr) := hbe
            clear hbe
            by_cases hjP : j < P
            · have z2 : (j : Int) < (P : Int) := by omega
              have z4 : (0 : Int) ≤ (j : Int) := by omega
              have HJ : Hid (0 ≤ (j : Int) ∧ (j : Int) < (P : Int)) := ⟨by omega, by omega⟩
              have HA : Hid (Below wr.heap.size wr (wr.alloc (.cells #[.int .u64 (j : Int)] 25)) ∧ Blk (wr.alloc (.cells #[.int .u64 (j : Int)] 25)) wr.heap.size .u64 25 [(j : Int)]) :=
                ⟨(Below.refl _ _).alloc (Nat.le_refl _) _, Blk.new wr .u64 25 [(j : Int)]⟩
              have HA2 : Hid (Below wr.heap.size wr ((wr.alloc (.cells #[.int .u64 (j : Int)] 25)).alloc (.cells #[.int .u64 0, .int .u64 0, .int .u64 1] 25)) ∧ Below (wr.alloc (.cells #[.int .u64 (j : Int)] 25)).heap.size (wr.alloc (.cells #[.int .u64 (j : Int)] 25)) ((wr.alloc (.cells #[.int .u64 (j : Int)] 25)).alloc (.cells #[.int .u64 0, .int .u64 0, .int .u64 1] 25)) ∧ GoodF (P : Int) ((wr.alloc (.cells #[.int .u64 (j : Int)] 25)).alloc (.cells #[.int .u64 0, .int .u64 0, .int .u64 1] 25)) (some ⟨wr.heap.size + 1, 0, none⟩) 3 3 [0, 0, 1]) := by
                have h1 := HA.out.1
                have hpm : Pm (P : Int) [0, 0, 1] := ⟨fun z hz => by simp at hz; omega, can_of_dig fun _ => by decide⟩
                have hbk := Blk.new (wr.alloc (.cells #[.int .u64 (j : Int)] 25)) .u64 25 [0, 0, 1]
                have hsz : (wr.alloc (.cells #[.int .u64 (j : Int)] 25)).heap.size = wr.heap.size + 1 := by simp
                rw [hsz] at hbk
                exact ⟨h1.alloc h1.size _, (Below.refl _ _).alloc (Nat.le_refl _) _, ⟨⟨(Own.whole (B := 0) hbk (Nat.zero_le _) rfl).row, hpm.wd, by decide⟩, hpm, by decide⟩⟩
              go_wp2_with (first
                | (go_at_call 11; have _t := HT2; refine (meqF_any true o3 (some ⟨w3.heap.size, 0, none⟩) l3 c3 n2 1 r3 ([(j : Int)].take n2) _ HT2.out.1.1.row HT2.out.2.1.1.1.row (by have := HT2.out.1.2.2; omega) (decide_eq_true HT2.out.2.2.1)).mono ?_; rintro e w5 ⟨rfl, hb5⟩; have HZ5 : Hid (Below wo.heap.size wo w5) := bnextM (B := 0) HT2.out.2.2.2 hb5; clear hb5)
                | (go_at_call 14; have _t := HR; have hbY : Below w3.heap.size w3 (w3.alloc (.cells #[.int .u64 (j : Int)] 25)) := (Below.refl _ _).alloc (Nat.le_refl _) _; have hbk := Blk.new w3 .u64 25 [(j : Int)]; refine (rtrim_any (some ⟨w3.heap.size, 0, none⟩) 1 1 [(j : Int)] _ (Own.whole (B := 0) hbk (Nat.zero_le _) rfl).row (by decide)).mono ?_; rintro e wt ⟨⟨n2, hn, rfl, hcan, hn0⟩, rfl⟩; have hrow := oneRow HJ.out hbk hn hcan hn0; have HT2 : Hid (GoodF (P : Int) (w3.alloc (.cells #[.int .u64 (j : Int)] 25)) o3 l3 c3 r3 ∧ EqA (P : Int) (w3.alloc (.cells #[.int .u64 (j : Int)] 25)) (some ⟨w3.heap.size, 0, none⟩) n2 1 ([(j : Int)].take n2) (fun _ => (j : Int)) 1 ∧ r3 = [(j : Int)].take n2 ∧ Below wo.heap.size wo (w3.alloc (.cells #[.int .u64 (j : Int)] 25))) := ⟨HR.out.1.later hbY, hrow, HR.out.2.1.trans (HT.out.same hrow (by omega) (EqM.of_eq fun _ => rfl)), bnextM (B := 0) HR.out.2.2 hbY⟩; clear hbY hbk hn hcan hn0 hrow)
                | (go_at_call 10; refine (mnum_any 0 _).mono ?_; rintro e wn ⟨rfl, hwn⟩; replace hwn := hwn.symm; subst hwn)
                | (go_at_call 13; have _t := HT; refine (mPowP (P : Int) (some ⟨wr.heap.size, 0, none⟩) (some ⟨wr.heap.size + 1, 0, none⟩) n 1 3 3 ([(j : Int)].take n) [0, 0, 1] _ ⟨HP.out.2.2.later (bnextM (B := 0) HBE.out HA2.out.1), HT.out.1.later HA2.out.2.1, HA2.out.2.2⟩ (by decide)).mono ?_; rintro e w3 ⟨⟨o3, l3, c3, r3, rfl, hp3⟩, hb3⟩; have HR : Hid (GoodF (P : Int) w3 o3 l3 c3 r3 ∧ r3 = [(j : Int)].take n ∧ Below wo.heap.size wo w3) := ⟨hp3.1, Md.inj HP.out.1 HA2.out.2.2.2.1 hp3.1.2.1 HT.out.1.2.1 hp3.2.1 (by simp; omega) (hp3.2.2.trans (fermP HP.out.1 HJ.out.1 HT.out.2.1)), bnextM (B := 0) HBE.out (bnextM (B := 0) HA2.out.1 hb3)⟩; clear hp3 hb3)
                | (go_at_call 14; refine (rtrim_any (some ⟨wr.heap.size, 0, none⟩) 1 1 [(j : Int)] _ (Own.whole (B := 0) HA.out.2 (Nat.zero_le _) rfl).row (by decide)).mono ?_; rintro e wt ⟨⟨n, hn, rfl, hcan, hn0⟩, rfl⟩; have HT : Hid (EqA (P : Int) (wr.alloc (.cells #[.int .u64 (j : Int)] 25)) (some ⟨wr.heap.size, 0, none⟩) n 1 ([(j : Int)].take n) (fun _ => (j : Int)) 1) := oneRow HJ.out HA.out.2 hn hcan hn0; clear hn hcan hn0))
              go_roundw
              case rel => exact ⟨j + 1, by go_num, by omega, HZ5.out⟩
              case measure => simp [intOf]; omega
            · have z2 : ¬ (j : Int) < (P : Int) := by omega
              go_wp2
              go_roundw
              case rel => exact ⟨k + 1, by omega, by go_num, bnextM (B := 0) HB.out.1 HBE.out⟩
              case measure => simp [intOf]; omega
    · by_cases hk1 : k < len
      · have z1 : (k : Int) < (len : Int) := by omega
        have z2 : ¬ (k : Int) < 4 := by omega
        clear hlt
        go_wp2_with (go_at_call 15; refine (hwk _ HB.out.2).mono ?_; rintro e w1 ⟨rfl, hb1⟩)
        go_ret
        exact ⟨rfl, bnextM (B := 0) HB.out.2 hb1⟩
      · have z1 : ¬ (k : Int) < (len : Int) := by omega
        clear hlt
        go_wp2_with (go_at_call 15; refine (hwk _ HB.out.2).mono ?_; rintro e w1 ⟨rfl, hb1⟩)
        go_ret
        exact ⟨rfl, bnextM (B := 0) HB.out.2 hb1⟩
end Go.Proofs.YtpannkjjggelhaaDoor
