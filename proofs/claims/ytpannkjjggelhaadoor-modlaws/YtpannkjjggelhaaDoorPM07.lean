/-
  MJ: walks: modp's faces at what is good: Check, Add, Mul, DivMod, Pow.
-/
import Derived.Test.YtpannkjjggelhaaDoorPM06
namespace Go.Proofs.YtpannkjjggelhaaDoor
open Go.RowKit Go.Shelf
set_option linter.unusedVariables false
set_option linter.unusedSimpArgs false
/-- a prime and the table that its test wants -/
def PrimeT (p : Int) (w : World) : Prop := IsPr p ∧ p < 2147483648 ∧ TabAt 0 Lib.deBruijn64tab w
theorem PrimeT.later {p : Int} {w w' : World} (h : PrimeT p w) (hb : Below w.heap.size w w') : PrimeT p w' := ⟨h.1, h.2.1, mtab_later h.2.2 hb⟩
/-- a polynomial modulo p in memory -/
def GoodF (p : Int) (w : World) (ao : Option Addr) (len cap : Nat) (zs : List Int) : Prop := FRow p w ao len cap zs ∧ Pm p zs ∧ len ≤ 1025
theorem GoodF.later {p : Int} {w w' : World} {ao : Option Addr} {len cap : Nat} {zs : List Int} (h : GoodF p w ao len cap zs) (hb : Below w.heap.size w w') : GoodF p w' ao len cap zs := ⟨h.1.later hb, h.2⟩
set_option maxRecDepth 100000 in
set_option maxHeartbeats 1000000 in
theorem mcheck_any (p : Int) (ao : Option Addr) (len cap : Nat) (zs : List Int) (w : World) (hp : PrimeT p w) (hf : GoodF p w ao len cap zs) :
    Calls Tryd.prog 29 #[.slice ao len cap, .int .u64 p] w fun e w' => e = .returned (.int .i64 0) ∧ Below w.heap.size w w' := by
  have hp0 : 0 < p := by have := hp.1.two; omega
  have HI := isPrime_any p w hp.1 hp.2.1 hp.2.2
  have HF : Hid (GoodF p w ao len cap zs) := hf
  have hl : len ≤ 1025 := hf.2.2
  have hl' : ¬ (1025 : Int) < (len : Int) := by omega
  have hlen : Hid (len = zs.length) := hf.1.row.hlen
  have hloop : ∀ (wr : World) (k : Nat), Below w.heap.size w wr → k < len → ∃ b off z, ao = some ⟨b, off, none⟩ ∧ wr.cell? ⟨b, off + k, none⟩ = some (.int .u64 z) ∧ ¬ p ≤ z ∧ 0 ≤ z := by
    intro wr k hb hk
    obtain ⟨b, off, e, _, hc, h0, h1⟩ := (HF.out.1.later hb).cell hp0 hk
    exact ⟨b, off, _, e, hc, by omega, h0⟩
  have HL : Hid (∀ (wr : World) (k : Nat), Below w.heap.size w wr → k < len → ∃ b off z, ao = some ⟨b, off, none⟩ ∧ wr.cell? ⟨b, off + k, none⟩ = some (.int .u64 z) ∧ ¬ p ≤ z ∧ 0 ≤ z) := hloop
  clear hloop hp
  by_cases h0 : len = 0
  · subst h0
    clear hf
    go_enter Tryd.func29, Tryd.ntmps29
    go_wp2_with (go_at_call 36; refine HI.mono ?_; rintro e w1 ⟨rfl, hb1⟩)
    go_loopw [29] (fun i wr => i = .int .i64 0 ∧ wr = w1) (fun i wr => 0)
    case atStart => exact ⟨rfl, rfl⟩
    case round =>
      obtain ⟨rfl, rfl⟩ := hrel
      go_wp2
      go_ret
      exact ⟨rfl, hb1⟩
  · obtain ⟨b, off, eo, _, hc, c0, c1⟩ := hf.1.cell hp0 (k := len - 1) (by omega)
    subst eo
    have hcan := can_dig hf.2.1.can (by have := hlen.out; omega)
    rw [← hlen.out] at hcan
    obtain ⟨z, hz⟩ : ∃ z, dig zs (len - 1) = z := ⟨_, rfl⟩
    rw [hz] at hc c0 c1 hcan
    have hz0 : (z == 0) = false := by simpa using hcan
    have HCE : Hid (∀ wr, Below w.heap.size w wr → wr.cell? ⟨b, off + (len - 1), none⟩ = some (.int .u64 z)) := fun wr hb => (hb.cell (p := ⟨b, off + (len - 1), none⟩) (cell_lt hc)).trans hc
    have e1 : (len : Int) - 1 = ((len - 1 : Nat) : Int) := by omega
    have e2 : (0 : Int) < (len : Int) := by omega
    have e3 : len - 1 < len := by omega
    clear hf hc hcan hz h0
    go_enter Tryd.func29, Tryd.ntmps29
    go_wp2_with (go_at_call 36; refine HI.mono ?_; rintro e w1 ⟨rfl, hb1⟩; have hcc := HCE.out _ hb1)
    go_loopw [29, 6] (fun i z wr => ∃ k : Nat, k ≤ len ∧ i = .int .i64 (k : Int) ∧ wr = w1) (fun i _ _ => len - (intOf i).toNat)
    case atStart => exact ⟨0, Nat.zero_le _, rfl, rfl⟩
    case round =>
      obtain ⟨k, hk, rfl, rfl⟩ := hrel
      by_cases hlt : k < len
      · obtain ⟨b', off', z', ee, hc', hz1, hz2⟩ := HL.out _ k hb1 hlt
        simp only [Option.some.injEq, Addr.mk.injEq, and_true] at ee
        obtain ⟨rfl, rfl⟩ := ee
        have z1 : (k : Int) < (len : Int) := by omega
        have z2 : (0 : Int) ≤ (k : Int) := by omega
        clear hcc
        go_wp2
        go_roundw
        case rel => exact ⟨k + 1, by omega, by go_num, by first | trivial | rfl⟩
        case measure => simp [intOf]; omega
      · have z1 : ¬ (k : Int) < (len : Int) := by omega
        clear hcc
        go_wp2
        go_ret
        exact ⟨rfl, hb1⟩
/-- two good polynomials and their prime -/
def Good2 (p : Int) (w : World) (ao bo : Option Addr) (la ca lb cb : Nat) (f g : List Int) : Prop := PrimeT p w ∧ GoodF p w ao la ca f ∧ GoodF p w bo lb cb g
theorem Good2.later {p : Int} {w w' : World} {ao bo : Option Addr} {la ca lb cb : Nat} {f g : List Int} (h : Good2 p w ao bo la ca lb cb f g) (hb : Below w.heap.size w w') : Good2 p w' ao bo la ca lb cb f g := ⟨h.1.later hb, h.2.1.later hb, h.2.2.later hb⟩
set_option maxHeartbeats 400000 in
theorem mcheckBoth_any (p : Int) (ao bo : Option Addr) (la ca lb cb : Nat) (f g : List Int) (w : World) (h : Good2 p w ao bo la ca lb cb f g) :
    Calls Tryd.prog 20 #[.slice ao la ca, .slice bo lb cb, .int .u64 p] w fun e w' => e = .returned (.int .i64 0) ∧ Below w.heap.size w w' := by
  have H1 := mcheck_any p ao la ca f w h.1 h.2.1
  have H2 : Hid (∀ W, Below w.heap.size w W → Calls Tryd.prog 29 #[.slice bo lb cb, .int .u64 p] W fun e w' => e = .returned (.int .i64 0) ∧ Below W.heap.size W w') := fun W hb => mcheck_any p bo lb cb g W (h.1.later hb) (h.2.2.later hb)
  clear h
  go_enter Tryd.func20, Tryd.ntmps20
  go_wp2_with (first
    | (go_at_call 29; have _t := hb1; refine (H2.out _ hb1).mono ?_; rintro e w2 ⟨rfl, hb2⟩)
    | (go_at_call 29; refine H1.mono ?_; rintro e w1 ⟨rfl, hb1⟩))
  go_ret
  exact ⟨rfl, bnextM (B := 0) hb1 hb2⟩
set_option maxHeartbeats 400000 in
theorem mcheckDivisor_any (p : Int) (ao bo : Option Addr) (la ca lb cb : Nat) (f g : List Int) (w : World) (h : Good2 p w ao bo la ca lb cb f g) (hlb : 0 < lb) :
    Calls Tryd.prog 25 #[.slice ao la ca, .slice bo lb cb, .int .u64 p] w fun e w' => e = .returned (.int .i64 0) ∧ Below w.heap.size w w' := by
  have H1 := mcheckBoth_any p ao bo la ca lb cb f g w h
  have q1 : ((lb : Int) == 0) = false := by simp; omega
  clear h
  go_enter Tryd.func25, Tryd.ntmps25
  go_wp2_with (go_at_call 20; refine H1.mono ?_; rintro e w1 ⟨rfl, hb1⟩)
  go_ret
  exact ⟨rfl, hb1⟩
/-- what a face hands back: a row of the call's own, and no error -/
def FaceF (w w' : World) (e : Ending) (P : List Int → Prop) : Prop :=
  ∃ ao len cap zs, e = .returned (.tuple #[.slice ao len cap, .int .i64 0]) ∧ Own w.heap.size w' .u64 25 ao len cap zs ∧ P zs ∧ cap ≤ 4194304 ∧ Below w.heap.size w w'
theorem NewF.back {w1 w w' : World} {e : Ending} {P : List Int → Prop} (h : NewF w1 w' e P) (hb : Below w.heap.size w w1) : NewF w w' e P := by
  obtain ⟨ao, len, cap, zs, he, ho, hp, hc, h1⟩ := h
  exact ⟨ao, len, cap, zs, he, ho.mono hb.size, hp, hc, bnextM (B := 0) hb h1⟩
set_option maxHeartbeats 400000 in
theorem mAdd_any (p : Int) (ao bo : Option Addr) (la ca lb cb : Nat) (f g : List Int) (w : World) (h : Good2 p w ao bo la ca lb cb f g) :
    Calls Tryd.prog 8 #[.slice ao la ca, .slice bo lb cb, .int .u64 p] w fun e w' => FaceF w w' e fun zs => Pm p zs ∧ EqM p (fun x => ev zs x) (fun x => ev f x + ev g x) ∧ zs.length ≤ max la lb := by
  have H1 := mcheckBoth_any p ao bo la ca lb cb f g w h
  have H2 : Hid (∀ W, Below w.heap.size w W → Calls Tryd.prog 21 #[.slice ao la ca, .slice bo lb cb, .func (.func 22) #[.int .u64 p] #[]] W fun e w' => NewF W w' e fun zs => Pm p zs ∧ EqM p (fun x => ev zs x) (fun x => ev f x + ev g x) ∧ zs.length ≤ max la lb) := fun W hb =>
    merged_any p ao bo la ca lb cb f g W (by have := h.1.1.two; have := h.1.2.1; omega) (h.2.1.later hb).1 (h.2.2.later hb).1
  have hmf : ∀ (fn : Fn) (first cap : Array Value) (w : World), (Instr.makeFunc fn first cap).run Tryd.prog w = .ok (.func fn first cap) w := fun _ _ _ _ => rfl
  clear h
  go_enter Tryd.func8, Tryd.ntmps8
  go_wp2_with (first
    | (go_at_call 20; refine H1.mono ?_; rintro e w1 ⟨rfl, hb1⟩)
    | (go_at_call 21; refine (H2.out _ hb1).mono ?_; rintro e w2 hn; obtain ⟨zo, zl, zc, zs, rfl, hrest⟩ := hn.back hb1))
  go_ret2
  exact ⟨zo, zl, zc, zs, rfl, hrest⟩
set_option maxHeartbeats 1000000 in
theorem mMul_any (p : Int) (ao bo : Option Addr) (la ca lb cb : Nat) (f g : List Int) (w : World) (h : Good2 p w ao bo la ca lb cb f g) (hl : la + lb ≤ 1026) :
    Calls Tryd.prog 9 #[.slice ao la ca, .slice bo lb cb, .int .u64 p] w fun e w' => FaceF w w' e fun zs => zs = prodL p f g := by
  have H1 := mcheckBoth_any p ao bo la ca lb cb f g w h
  have H2 : Hid (∀ W, Below w.heap.size w W → Calls Tryd.prog 23 #[.int .u64 p, .slice ao la ca, .slice bo lb cb] W fun e w' => NewF W w' e fun zs => zs = prodL p f g) := fun W hb =>
    product_any p ao bo la ca lb cb f g W (by have := h.1.1.two; have := h.1.2.1; omega) (h.2.1.later hb).1 (h.2.2.later hb).1 (by omega)
  clear h
  by_cases ha : la = 0
  · subst ha
    go_enter Tryd.func9, Tryd.ntmps9
    go_wp2_with (first
      | (go_at_call 20; refine H1.mono ?_; rintro e w1 ⟨rfl, hb1⟩)
      | (go_at_call 23; refine (H2.out _ hb1).mono ?_; rintro e w2 hn; obtain ⟨zo, zl, zc, zs, rfl, hrest⟩ := hn.back hb1))
    go_ret2
    exact ⟨zo, zl, zc, zs, rfl, hrest⟩
  · have q1 : (0 : Int) < (la : Int) := by omega
    by_cases hb : lb = 0
    · subst hb
      clear ha
      go_enter Tryd.func9, Tryd.ntmps9
      go_wp2_with (first
        | (go_at_call 20; refine H1.mono ?_; rintro e w1 ⟨rfl, hb1⟩)
        | (go_at_call 23; refine (H2.out _ hb1).mono ?_; rintro e w2 hn; obtain ⟨zo, zl, zc, zs, rfl, hrest⟩ := hn.back hb1))
      go_ret2
      exact ⟨zo, zl, zc, zs, rfl, hrest⟩
    · have q2 : (0 : Int) < (lb : Int) := by omega
      have q3 : ¬ (1024 : Int) < (la : Int) + (lb : Int) - 2 := by omega
      clear ha hb
      go_enter Tryd.func9, Tryd.ntmps9
      go_wp2_with (first
        | (go_at_call 20; refine H1.mono ?_; rintro e w1 ⟨rfl, hb1⟩)
        | (go_at_call 23; refine (H2.out _ hb1).mono ?_; rintro e w2 hn; obtain ⟨zo, zl, zc, zs, rfl, hrest⟩ := hn.back hb1))
      go_ret2
      exact ⟨zo, zl, zc, zs, rfl, hrest⟩
/-- what DivMod hands back -/
def FaceD (w w' : World) (e : Ending) (p : Int) (f g : List Int) : Prop :=
  ∃ qo ql qc ro rl rc q r, e = .returned (.tuple #[.slice qo ql qc, .slice ro rl rc, .int .i64 0]) ∧ Own w.heap.size w' .u64 25 qo ql qc q ∧ Own w.heap.size w' .u64 25 ro rl rc r ∧
    Pm p q ∧ q.length ≤ f.length ∧ Pm p r ∧ r.length < g.length ∧ EqM p (fun x => ev f x) (fun x => ev q x * ev g x + ev r x) ∧ qc ≤ 4194304 ∧ rc ≤ 4194304 ∧ Below w.heap.size w w'
set_option maxHeartbeats 400000 in
theorem mDivMod_any (p : Int) (ao bo : Option Addr) (la ca lb cb : Nat) (f g : List Int) (w : World) (h : Good2 p w ao bo la ca lb cb f g) (hlb : 0 < lb) :
    Calls Tryd.prog 12 #[.slice ao la ca, .slice bo lb cb, .int .u64 p] w fun e w' => FaceD w w' e p f g := by
  have H1 := mcheckDivisor_any p ao bo la ca lb cb f g w h hlb
  have H2 : Hid (∀ W, Below w.heap.size w W → Calls Tryd.prog 26 #[.int .u64 p, .slice ao la ca, .slice bo lb cb] W fun e w' => ∃ qo ql qc ro rl rc q r, e = .returned (.tuple #[.slice qo ql qc, .slice ro rl rc]) ∧ Own w.heap.size w' .u64 25 qo ql qc q ∧ Own w.heap.size w' .u64 25 ro rl rc r ∧
    Pm p q ∧ q.length ≤ f.length ∧ Pm p r ∧ r.length < g.length ∧ EqM p (fun x => ev f x) (fun x => ev q x * ev g x + ev r x) ∧ qc ≤ 4194304 ∧ rc ≤ 4194304 ∧ Below w.heap.size w w') := fun W hb => by
      refine (divide_any p ao bo la ca lb cb f g W h.1.1 (by have := h.1.2.1; omega) (h.2.1.later hb).1 (h.2.2.later hb).1 hlb h.2.2.2.1.can).mono fun e w' hd => ?_
      obtain ⟨qo, ql, qc, ro, rl, rc, q, r, he, hq, hr, hcan, hwq, hql, hpm, hlt, heq, hqc, hrc, hbw⟩ := hd
      exact ⟨qo, ql, qc, ro, rl, rc, q, r, he, hq.mono hb.size, hr.mono hb.size, ⟨hwq, hcan h.2.1.2.1⟩, hql, hpm, hlt, heq, hqc, hrc, bnextM (B := 0) hb hbw⟩
  clear h
  go_enter Tryd.func12, Tryd.ntmps12
  go_wp2_with (first
    | (go_at_call 25; refine H1.mono ?_; rintro e w1 ⟨rfl, hb1⟩)
    | (go_at_call 26; refine (H2.out _ hb1).mono ?_; rintro e w2 ⟨qo, ql, qc, ro, rl, rc, q, r, rfl, hrest⟩))
  exact bodyPost_ret (v := .tuple #[.slice qo ql qc, .slice ro rl rc, .int .i64 0]) (by simp [results, Tryd.results12, go_sem]) rfl ⟨qo, ql, qc, ro, rl, rc, q, r, rfl, hrest⟩
set_option maxHeartbeats 400000 in
theorem mPow_any (p : Int) (n : Nat) (ao bo : Option Addr) (la ca lb cb : Nat) (f g : List Int) (w : World) (h : Good2 p w ao bo la ca lb cb f g) (hlb : 0 < lb) (hn : n < 18446744073709551616) :
    Calls Tryd.prog 13 #[.slice ao la ca, .int .u64 (n : Int), .slice bo lb cb, .int .u64 p] w fun e w' => FaceF w w' e fun r => Pm p r ∧ r.length < g.length ∧ Md p g (fun x => ev r x) (fun x => ev f x ^ n) := by
  have H1 := mcheckDivisor_any p ao bo la ca lb cb f g w h hlb
  have H2 : Hid (∀ W, Below w.heap.size w W → Calls Tryd.prog 27 #[.int .u64 p, .slice ao la ca, .int .u64 (n : Int), .slice bo lb cb] W fun e w' => NewF W w' e fun r => Pm p r ∧ r.length < g.length ∧ Md p g (fun x => ev r x) (fun x => ev f x ^ n)) := fun W hb =>
    power_any p n ao bo la ca lb cb f g W h.1.1 (by have := h.1.2.1; omega) (h.2.1.later hb).1 (h.2.2.later hb).1 hlb (by have := h.2.2.2.2; omega) h.2.2.2.1.can hn
  clear h
  go_enter Tryd.func13, Tryd.ntmps13
  go_wp2_with (first
    | (go_at_call 25; refine H1.mono ?_; rintro e w1 ⟨rfl, hb1⟩)
    | (go_at_call 27; refine (H2.out _ hb1).mono ?_; rintro e w2 hn; obtain ⟨zo, zl, zc, zs, rfl, hrest⟩ := hn.back hb1))
  go_ret2
  exact ⟨zo, zl, zc, zs, rfl, hrest⟩
end Go.Proofs.YtpannkjjggelhaaDoor
/-
  MK: walks: the page's own answers on what is good: Prime, May, Trim, form; equal rows; what wakes.
-/
namespace Go.Proofs.YtpannkjjggelhaaDoor
open Go.RowKit Go.Shelf
set_option linter.unusedVariables false
set_option linter.unusedSimpArgs false
theorem bool_of (P : Prop) : ∃ b : Bool, (b = true ↔ P) := by
  by_cases h : P
  · exact ⟨true, ⟨fun _ => h, fun _ => rfl⟩⟩
  · exact ⟨false, ⟨fun e => (by cases e), fun e => absurd e h⟩⟩
theorem bool_no {P : Prop} {b : Bool} (h : b = true ↔ P) (n : ¬ P) : b = false := by
  cases b
  · rfl
  · exact absurd (h.1 rfl) n
set_option maxRecDepth 100000 in
set_option maxHeartbeats 1000000 in
theorem rprimeB_any (p : Int) (b : Bool) (w : World) (hp : 0 ≤ p ∧ p < 18446744073709551616) (hb : b = true ↔ (IsPr p ∧ p < 2147483648)) :
    Calls Tryd.prog 18 #[.int .u64 p] w fun e w' => e = .returned (.bool b) ∧ w' = w := by
  obtain ⟨hp0, hp1⟩ := hp
  by_cases h2 : p < 2
  · obtain rfl : b = false := bool_no hb fun h => by have := h.1.two; omega
    clear hb
    go_enter Tryd.func18, Tryd.ntmps18
    go_wp2
    go_ret
    exact ⟨rfl, rfl⟩
  · by_cases h3 : 2147483648 ≤ p
    · obtain rfl : b = false := bool_no hb fun h => by have := h.2; omega
      clear hb
      go_enter Tryd.func18, Tryd.ntmps18
      go_wp2
      go_ret
      exact ⟨rfl, rfl⟩
    · have HB : Hid (b = true ↔ (IsPr p ∧ p < 2147483648)) := hb
      clear hb
      go_enter Tryd.func18, Tryd.ntmps18
      go_wp2
      go_loop [3] (fun z => ∃ d : Int, z = .int .u64 d ∧ 2 ≤ d ∧ d ≤ 50000 ∧ Hid (∀ c, 2 ≤ c → c < d → c * c ≤ p → p % c ≠ 0)) (fun z => (50001 - intOf z).toNat)
      case atStart => exact ⟨2, rfl, by decide, by decide, fun c h1 h2 => by omega⟩
      case round =>
        obtain ⟨d, rfl, hd2, hd5, HD⟩ := hrel
        obtain ⟨s, hs⟩ : ∃ s, d * d = s := ⟨_, rfl⟩
        have hs1 : 0 ≤ s := by rw [← hs]; exact Int.mul_nonneg (by omega) (by omega)
        have hs2 : s ≤ 50000 * 50000 := by rw [← hs]; exact Int.mul_le_mul (by omega) (by omega) (by omega) (by decide)
        have hs3 : s ≤ 2500000000 := by omega
        have HS : Hid (d * d = s) := hs
        by_cases hle : s ≤ p
        · have hd4 : Hid (d < 50000) := by
            show _ < _
            by_cases hx : d < 50000
            · exact hx
            · have : d = 50000 := by omega
              subst this; omega
          obtain ⟨r, hr⟩ : ∃ r, p % d = r := ⟨_, rfl⟩
          have hr' : p.tmod d = r := by rw [Int.tmod_eq_emod_of_nonneg hp0]; exact hr
          have hd0 : (d == 0) = false := by simp; omega
          have hd1 : ¬ d = 0 := by omega
          by_cases h0 : r = 0
          · subst h0
            obtain rfl : b = false := bool_no HB.out fun h => by
              have h1 : d * 2 ≤ d * d := Int.mul_le_mul_of_nonneg_left hd2 (by omega)
              exact h.1.no d hd2 (by omega) (Int.dvd_of_emod_eq_zero hr)
            clear hs2 HB
            go_wp2
            go_ret
            exact ⟨rfl, rfl⟩
          · have h0' : (r == 0) = false := by simpa using h0
            have HN : Hid (p % d ≠ 0) := by show _ ≠ _; rw [hr]; exact h0
            clear hs2 h0
            go_wp2
            go_round
            case rel => exact ⟨d + 1, by go_num, by omega, by have := hd4.out; omega, fun c h1 h2 h3 => by
              by_cases e : c = d
              · subst e; exact HN.out
              · exact HD.out c h1 (by omega) h3⟩
            case measure => simp [intOf]; omega
        · have hbt : b = true := by
            refine HB.out.2 ⟨IsPr.of_sq (by omega) fun c h1 hc => HD.out c h1 ?_ hc, by omega⟩
            by_cases hx : c < d
            · exact hx
            · exfalso
              have : d * d ≤ c * c := Int.mul_le_mul (by omega) (by omega) (by omega) (by omega)
              have := HS.out; omega
          subst hbt
          clear hs2 HB
          go_wp2
          go_ret
          exact ⟨rfl, rfl⟩
set_option maxRecDepth 100000 in
set_option maxHeartbeats 1000000 in
theorem rmay_any (p : Int) (b : Bool) (ao : Option Addr) (len cap : Nat) (zs : List Int) (w : World) (hp : 0 ≤ p ∧ p < 18446744073709551616) (hr : RowAt w .u64 ao len cap zs) (hw : Wd 18446744073709551616 zs) (hl : len ≤ 9223372036854775807) (hb : b = true ↔ (Pm p zs ∧ len ≤ 1025)) :
    Calls Tryd.prog 19 #[.slice ao len cap, .int .u64 p] w fun e w' => e = .returned (.bool b) ∧ w' = w := by
  obtain ⟨hp0, hp1⟩ := hp
  have HB : Hid ((b = true ↔ (Pm p zs ∧ len ≤ 1025)) ∧ RowAt w .u64 ao len cap zs ∧ Wd 18446744073709551616 zs ∧ len = zs.length) := ⟨hb, hr, hw, hr.hlen⟩
  clear hr hw hb
  by_cases h1 : 1025 < len
  · obtain rfl : b = false := bool_no HB.out.1 fun h => by have := h.2; omega
    have h1' : (1025 : Int) < (len : Int) := by omega
    clear h1 HB
    go_enter Tryd.func19, Tryd.ntmps19
    go_wp2
    go_ret
    exact ⟨rfl, rfl⟩
  · have h1' : ¬ (1025 : Int) < (len : Int) := by omega
    have HLE : Hid (len ≤ 1025) := by show _ ≤ _; omega
    clear h1
    go_enter Tryd.func19, Tryd.ntmps19
    go_wp2
    go_loop [5] (fun i => ∃ k : Nat, k ≤ len ∧ i = .int .i64 k ∧ Hid (∀ t, t < k → dig zs t < p)) (fun i => len - (intOf i).toNat)
    case atStart => exact ⟨0, Nat.zero_le _, rfl, fun t h => absurd h (by omega)⟩
    case round =>
      obtain ⟨k, hk, rfl, HZ⟩ := hrel
      by_cases hlt : k < len
      · obtain ⟨b', off, rfl, _, hc⟩ := HB.out.2.1.get (by omega)
        have hcell := hc k hlt
        obtain ⟨z, hz⟩ : ∃ z, dig zs k = z := ⟨_, rfl⟩
        have hz0 := (HB.out.2.2.1.dig (by decide) k).1
        rw [hz] at hcell hz0
        have z1 : (k : Int) < (len : Int) := by omega
        have z2 : (0 : Int) ≤ (k : Int) := by omega
        clear hc
        by_cases hpz : p ≤ z
        · obtain rfl : b = false := bool_no HB.out.1 fun h => by
            by_cases hp' : 0 < p
            · have := (h.1.wd.dig hp' k).2; omega
            · have hm : dig zs k ∈ zs := by
                have hk' : k < zs.length := by have := HB.out.2.2.2; omega
                have : dig zs k = zs[k] := by simp [dig, hk']
                rw [this]; exact List.getElem_mem hk'
              have := h.1.wd _ hm; omega
          clear HB HZ hz
          go_wp2
          go_ret
          exact ⟨rfl, rfl⟩
        · have HN : Hid (dig zs k < p) := by show _ < _; omega
          clear hz
          go_wp2
          go_round
          case rel => exact ⟨k + 1, by omega, by go_num, fun t ht => by
            by_cases e : t = k
            · subst e; exact HN.out
            · exact HZ.out t (by omega)⟩
          case measure => simp [intOf]; omega
      · have hkl : k = len := by omega
        have HW : Hid (Wd p zs) := fun z hz => by
          obtain ⟨i, hi, rfl⟩ := List.getElem_of_mem hz
          have e : zs[i] = dig zs i := by simp [dig, hi]
          have h2 := HB.out.2.2.1 _ hz
          rw [e] at h2 ⊢
          exact ⟨h2.1, HZ.out i (by have := HB.out.2.2.2; omega)⟩
        by_cases h0 : len = 0
        · subst h0
          have hzn : zs = [] := List.eq_nil_of_length_eq_zero HB.out.2.2.2.symm
          obtain rfl : b = true := HB.out.1.2 ⟨⟨HW.out, by rw [hzn]; exact Can.nil⟩, HLE.out⟩
          clear hzn HB HZ HW HLE
          obtain rfl : k = 0 := by omega
          go_wp2
          go_ret
          exact ⟨rfl, rfl⟩
        · obtain ⟨b', off, rfl, _, hc⟩ := HB.out.2.1.get (by omega)
          have hcell := hc (len - 1) (by omega)
          obtain ⟨z, hz⟩ : ∃ z, dig zs (len - 1) = z := ⟨_, rfl⟩
          rw [hz] at hcell
          have e1 : (len : Int) - 1 = ((len - 1 : Nat) : Int) := by omega
          have e2 : ((len : Int) == 0) = false := by simp; omega
          have e3 : len - 1 < len := by omega
          have z1 : ¬ (k : Int) < (len : Int) := by omega
          clear hc
          have hbz : b = (z != 0) := by
            by_cases hz0 : z = 0
            · subst hz0
              refine (bool_no HB.out.1 fun h => ?_).trans (by decide)
              exact can_dig h.1.can (by have := HB.out.2.2.2; omega) (by rw [← HB.out.2.2.2]; exact hz)
            · have : (z != 0) = true := by simpa using hz0
              rw [this]
              exact HB.out.1.2 ⟨⟨HW.out, can_of_dig fun _ => by rw [← HB.out.2.2.2, hz]; exact hz0⟩, HLE.out⟩
          have HBZ : Hid (b = (z != 0)) := hbz
          clear hbz HB HZ HW HLE hz
          go_wp2
          go_ret
          exact ⟨by rw [HBZ.out]; rfl, rfl⟩
end Go.Proofs.YtpannkjjggelhaaDoor
/-
  ML: walks: the page's Trim, form; equal rows; what is too heavy; what wakes.
-/
namespace Go.Proofs.YtpannkjjggelhaaDoor
open Go.RowKit Go.Shelf
set_option linter.unusedVariables false
set_option linter.unusedSimpArgs false
set_option maxHeartbeats 400000 in
theorem rtrim_any (ao : Option Addr) (len cap : Nat) (zs : List Int) (w : World) (hr : RowAt w .u64 ao len cap zs) (hl : cap ≤ 9223372036854775807) :
    Calls Tryd.prog 14 #[.slice ao len cap] w fun e w' => MTrim ao len cap zs e ∧ w' = w := by
  have hcl := hr.hcap
  have HR : Hid (RowAt w .u64 ao len cap zs ∧ len = zs.length) := ⟨hr, hr.hlen⟩
  clear hr
  go_enter Tryd.func14, Tryd.ntmps14
  go_wp2
  go_loop [3] (fun i => ∃ k : Nat, k ≤ len ∧ i = .int .i64 k ∧ Hid (∀ t, k ≤ t → dig zs t = 0)) (fun i => (intOf i).toNat)
  case atStart => exact ⟨len, Nat.le_refl _, rfl, fun t h1 => dig_past (by rw [← HR.out.2]; exact h1)⟩
  case round =>
    obtain ⟨k, hk, rfl, HZ⟩ := hrel
    by_cases hk0 : k = 0
    · subst hk0
      go_wp2
      go_ret
      exact ⟨⟨0, Nat.zero_le _, rfl, can_take (Nat.zero_le _) (fun h => absurd h (by omega)), fun t h => HZ.out t h⟩, rfl⟩
    · have hkp : (0 : Int) < (k : Int) := by omega
      obtain ⟨b, off, rfl, hb, hc⟩ := HR.out.1.get (by omega)
      have hcell := hc (k - 1) (by omega)
      have e1 : (k : Int) - 1 = ((k - 1 : Nat) : Int) := by omega
      have e2 : k - 1 < len := by omega
      have e3 : (k : Int) ≤ (cap : Int) := by omega
      have e4 : (0 : Int) ≤ (k : Int) := by omega
      clear hc
      by_cases hd : dig zs (k - 1) = 0
      · rw [hd] at hcell
        have HD : Hid (dig zs (k - 1) = 0) := hd
        clear hd
        go_wp2
        go_round
        case rel => exact ⟨k - 1, by omega, by first | rfl | go_num, fun t h2 => by
          by_cases e : t = k - 1
          · subst e; exact HD.out
          · exact HZ.out t (by omega)⟩
        case measure => simp [intOf]; omega
      · have hd' : (dig zs (k - 1) == 0) = false := by simpa using hd
        obtain ⟨z, hz⟩ : ∃ z, dig zs (k - 1) = z := ⟨_, rfl⟩
        rw [hz] at hcell hd'
        have HD : Hid (dig zs (k - 1) ≠ 0) := hd
        clear hd hz
        go_wp2
        go_ret
        exact ⟨⟨k, hk, rfl, can_take (HR.out.2 ▸ hk) (fun _ => HD.out), fun t h1 => HZ.out t h1⟩, rfl⟩
set_option maxHeartbeats 400000 in
theorem meqF_any (b : Bool) (ao bo : Option Addr) (la ca lb cb : Nat) (x y : List Int) (w : World) (hx : RowAt w .u64 ao la ca x) (hy : RowAt w .u64 bo lb cb y) (hl : la ≤ 4611686018427387904) (hb : decide (x = y) = b) :
    Calls Tryd.prog 11 #[.slice ao la ca, .slice bo lb cb] w fun e w' => e = .returned (.bool b) ∧ Below w.heap.size w w' := by
  have H := eqwords_any ao bo la ca lb cb x y w hx hy hl
  rw [hb] at H
  clear hb hx hy
  go_enter Tryd.func11, Tryd.ntmps11
  go_wp2_with (go_at_call 24; refine H.mono ?_; rintro e w1 ⟨rfl, hb1⟩)
  go_ret
  exact ⟨rfl, hb1⟩
set_option maxHeartbeats 400000 in
theorem mnum_any (n : Int) (w : World) : Calls Tryd.prog 10 #[.int .i64 n] w fun e w' => e = .returned (.int .i64 n) ∧ w' = w := by
  go_enter Tryd.func10, Tryd.ntmps10
  go_wp2
  go_ret
  exact ⟨rfl, rfl⟩
/-- a list of rows of words -/
structure RowsAt (w : World) (b n : Nat) (ro : Nat → Option Addr) (rl rc : Nat → Nat) (rz : Nat → List Int) : Prop where
  cell : ∀ t, t < n → w.cell? ⟨b, t, none⟩ = some (.slice (ro t) (rl t) (rc t))
  row : ∀ t, t < n → RowAt w .u64 (ro t) (rl t) (rc t) (rz t)
  wd : ∀ t, t < n → Wd 18446744073709551616 (rz t)
  short : ∀ t, t < n → rl t ≤ 9223372036854775807
/-- a good prime, and good polynomials -/
def FormOk (p : Int) (n : Nat) (rl : Nat → Nat) (rz : Nat → List Int) : Prop := (IsPr p ∧ p < 2147483648) ∧ ∀ t, t < n → Pm p (rz t) ∧ rl t ≤ 1025
set_option maxRecDepth 100000 in
set_option maxHeartbeats 1000000 in
theorem form_ok (p : Int) (b n : Nat) (ro : Nat → Option Addr) (rl rc : Nat → Nat) (rz : Nat → List Int) (w : World) (hp : 0 ≤ p ∧ p < 18446744073709551616) (hr : RowsAt w b n ro rl rc rz) (hn : n ≤ 100) (h : FormOk p n rl rz) :
    Calls Tryd.prog 7 #[.int .u64 p, .slice (some ⟨b, 0, none⟩) n n] w fun e w' => e = .returned (.int .i64 0) ∧ w' = w := by
  have H1 := rprimeB_any p true w hp ⟨fun _ => h.1, fun _ => rfl⟩
  have HM : Hid (∀ t, t < n → w.cell? ⟨b, t, none⟩ = some (.slice (ro t) (rl t) (rc t)) ∧ Calls Tryd.prog 19 #[.slice (ro t) (rl t) (rc t), .int .u64 p] w fun e w' => e = .returned (.bool true) ∧ w' = w) := fun t ht =>
    ⟨hr.cell t ht, rmay_any p true (ro t) (rl t) (rc t) (rz t) w hp (hr.row t ht) (hr.wd t ht) (hr.short t ht) ⟨fun _ => h.2 t ht, fun _ => rfl⟩⟩
  clear hr h hp
  go_enter Tryd.func7, Tryd.ntmps7
  go_wp2_with (go_at_call 18; refine H1.mono ?_; rintro e w1 ⟨rfl, hw1⟩; replace hw1 := hw1.symm; subst hw1)
  go_loop [5] (fun i => ∃ k : Nat, k ≤ n ∧ i = .int .i64 k) (fun i => n - (intOf i).toNat)
  case atStart => exact ⟨0, Nat.zero_le _, rfl⟩
  case round =>
    obtain ⟨k, hk, rfl⟩ := hrel
    by_cases hlt : k < n
    · obtain ⟨hc, hm⟩ := HM.out k hlt
      obtain ⟨o, ho⟩ : ∃ o, ro k = o := ⟨_, rfl⟩
      obtain ⟨l, hl⟩ : ∃ l, rl k = l := ⟨_, rfl⟩
      obtain ⟨c, hcc⟩ : ∃ c, rc k = c := ⟨_, rfl⟩
      rw [ho, hl, hcc] at hc hm
      have z1 : (k : Int) < (n : Int) := by omega
      have z2 : (0 : Int) ≤ (k : Int) := by omega
      clear ho hl hcc
      go_wp2_with (go_at_call 19; refine hm.mono ?_; rintro e w2 ⟨rfl, hw2⟩; replace hw2 := hw2.symm; subst hw2)
      go_round
      case rel => exact ⟨k + 1, by omega, by go_num⟩
      case measure => simp [intOf]; omega
    · have z1 : ¬ (k : Int) < (n : Int) := by omega
      go_wp2
      go_ret
      exact ⟨rfl, rfl⟩
set_option maxRecDepth 100000 in
set_option maxHeartbeats 1000000 in
theorem form_no (p : Int) (b n : Nat) (ro : Nat → Option Addr) (rl rc : Nat → Nat) (rz : Nat → List Int) (w : World) (hp : 0 ≤ p ∧ p < 18446744073709551616) (hr : RowsAt w b n ro rl rc rz) (hn : n ≤ 100) (h : ¬ FormOk p n rl rz) :
    Calls Tryd.prog 7 #[.int .u64 p, .slice (some ⟨b, 0, none⟩) n n] w fun e w' => e = .returned (.int .i64 90) ∧ w' = w := by
  by_cases hpr : IsPr p ∧ p < 2147483648
  · have H1 := rprimeB_any p true w hp ⟨fun _ => hpr, fun _ => rfl⟩
    have HM : Hid (∀ t, t < n → w.cell? ⟨b, t, none⟩ = some (.slice (ro t) (rl t) (rc t)) ∧ ∀ c : Bool, (c = true ↔ (Pm p (rz t) ∧ rl t ≤ 1025)) → Calls Tryd.prog 19 #[.slice (ro t) (rl t) (rc t), .int .u64 p] w fun e w' => e = .returned (.bool c) ∧ w' = w) := fun t ht =>
      ⟨hr.cell t ht, fun c hc => rmay_any p c (ro t) (rl t) (rc t) (rz t) w hp (hr.row t ht) (hr.wd t ht) (hr.short t ht) hc⟩
    have HN : Hid (¬ ∀ t, t < n → Pm p (rz t) ∧ rl t ≤ 1025) := fun h2 => h ⟨hpr, h2⟩
    clear hr h hp hpr
    go_enter Tryd.func7, Tryd.ntmps7
    go_wp2_with (go_at_call 18; refine H1.mono ?_; rintro e w1 ⟨rfl, hw1⟩; replace hw1 := hw1.symm; subst hw1)
    go_loop [5] (fun i => ∃ k : Nat, k ≤ n ∧ i = .int .i64 k ∧ Hid (∀ t, t < k → Pm p (rz t) ∧ rl t ≤ 1025)) (fun i => n - (intOf i).toNat)
    case atStart => exact ⟨0, Nat.zero_le _, rfl, fun t h => absurd h (by omega)⟩
    case round =>
      obtain ⟨k, hk, rfl, HZ⟩ := hrel
      by_cases hlt : k < n
      · obtain ⟨hc, hm'⟩ := HM.out k hlt
        obtain ⟨c, hcb⟩ := bool_of (Pm p (rz k) ∧ rl k ≤ 1025)
        have hm := hm' c hcb
        have HC : Hid (c = true ↔ (Pm p (rz k) ∧ rl k ≤ 1025)) := hcb
        obtain ⟨o, ho⟩ : ∃ o, ro k = o := ⟨_, rfl⟩
        obtain ⟨l, hl⟩ : ∃ l, rl k = l := ⟨_, rfl⟩
        obtain ⟨c', hcc⟩ : ∃ c', rc k = c' := ⟨_, rfl⟩
        rw [ho, hl, hcc] at hc hm
        have z1 : (k : Int) < (n : Int) := by omega
        have z2 : (0 : Int) ≤ (k : Int) := by omega
        clear ho hl hcc hm' hcb
        cases c
        · clear HC
          go_wp2_with (go_at_call 19; refine hm.mono ?_; rintro e w2 ⟨rfl, hw2⟩; replace hw2 := hw2.symm; subst hw2)
          go_ret
          exact ⟨rfl, rfl⟩
        · have HG : Hid (Pm p (rz k) ∧ rl k ≤ 1025) := HC.out.1 rfl
          clear HC
          go_wp2_with (go_at_call 19; refine hm.mono ?_; rintro e w2 ⟨rfl, hw2⟩; replace hw2 := hw2.symm; subst hw2)
          go_round
          case rel => exact ⟨k + 1, by omega, by go_num, fun t ht => by
            by_cases e : t = k
            · subst e; exact HG.out
            · exact HZ.out t (by omega)⟩
          case measure => simp [intOf]; omega
      · exact absurd (fun t ht => HZ.out t (by omega)) HN.out
  · have H1 := rprimeB_any p false w hp ⟨fun e => (by cases e), fun e => absurd e hpr⟩
    clear hr h hp hpr
    go_enter Tryd.func7, Tryd.ntmps7
    go_wp2_with (go_at_call 18; refine H1.mono ?_; rintro e w1 ⟨rfl, hw1⟩; replace hw1 := hw1.symm; subst hw1)
    go_ret
    exact ⟨rfl, rfl⟩
/-- what is asked of a small row, in Booleans -/
def pmB (p : Int) (l : List Int) : Bool := l.all (fun z => decide (0 ≤ z) && decide (z < p)) && (l.isEmpty || decide (dig l (l.length - 1) ≠ 0))
theorem pm_of {p : Int} {l : List Int} (h : pmB p l = true) : Pm p l := by
  simp only [pmB, Bool.and_eq_true, Bool.or_eq_true, List.all_eq_true, decide_eq_true_eq, List.isEmpty_iff] at h
  refine ⟨fun z hz => h.1 z hz, can_of_dig fun hl => ?_⟩
  rcases h.2 with e | e
  · subst e; simp at hl
  · exact e
set_option maxRecDepth 100000 in
set_option maxHeartbeats 1000000 in
theorem mwakes_any (w : World) (hT : TabAt 0 Lib.deBruijn64tab w) :
    Calls Tryd.prog 15 #[] w fun e w' => e = .returned (.bool true) ∧ Below w.heap.size w w' := by
  obtain ⟨W, hW⟩ : ∃ W, W = (w.alloc (.cells #[.int .u64 4, .int .u64 1] 25)).alloc (.cells #[.int .u64 3, .int .u64 4] 25) := ⟨_, rfl⟩
  have h5 : IsPr 5 := IsPr.of_sq (by decide) fun d h1 h2 => by
    have : d < 3 := by
      by_cases hd : d < 3
      · exact hd
      · have : 3 * 3 ≤ d * d := Int.mul_le_mul (by omega) (by omega) (by decide) (by omega)
        omega
    obtain rfl : d = 2 := by omega
    decide
  have HW : Hid (Below w.heap.size w W ∧ Good2 5 W (some ⟨w.heap.size, 0, none⟩) (some ⟨w.heap.size + 1, 0, none⟩) 2 2 2 2 [4, 1] [3, 4]) := by
    have hb1 : Below w.heap.size w (w.alloc (.cells #[.int .u64 4, .int .u64 1] 25)) := (Below.refl _ _).alloc (Nat.le_refl _) _
    have hb2 : Below w.heap.size w W := by rw [hW]; exact hb1.alloc hb1.size _
    have k1 : Blk W w.heap.size .u64 25 [4, 1] := by rw [hW]; exact (Blk.new w .u64 25 [4, 1]).alloc _
    have k2 : Blk W (w.heap.size + 1) .u64 25 [3, 4] := by
      rw [hW]
      have := Blk.new (w.alloc (.cells #[.int .u64 4, .int .u64 1] 25)) .u64 25 [3, 4]
      simpa using this
    refine ⟨hb2, ⟨h5, by decide, mtab_later hT hb2⟩, ⟨⟨(Own.whole k1 (Nat.zero_le _) rfl).row, (pm_of (by decide)).wd, by decide⟩, pm_of (by decide), by decide⟩, ⟨⟨(Own.whole k2 (Nat.zero_le _) rfl).row, (pm_of (by decide)).wd, by decide⟩, pm_of (by decide), by decide⟩⟩
  have HA : Hid (Calls Tryd.prog 8 #[.slice (some ⟨w.heap.size, 0, none⟩) 2 2, .slice (some ⟨w.heap.size + 1, 0, none⟩) 2 2, .int .u64 5] W fun e w' => ∃ ao len cap, e = .returned (.tuple #[.slice ao len cap, .int .i64 0]) ∧ RowAt w' .u64 ao len cap [2] ∧ cap ≤ 4194304 ∧ Below W.heap.size W w') := by
    refine (mAdd_any 5 _ _ 2 2 2 2 [4, 1] [3, 4] W HW.out.2).mono fun e w' h => ?_
    obtain ⟨ao, len, cap, zs, he, ho, ⟨hpm, heq, _⟩, hc, hb⟩ := h
    obtain rfl : zs = [2] := Pm.inj (by decide) hpm (pm_of (by decide)) (heq.trans ⟨_, IsP.ev [1, 1], fun x => by simp [ev]; omega⟩)
    exact ⟨ao, len, cap, he, ho.row, hc, hb⟩
  clear hT h5
  go_enter Tryd.func15, Tryd.ntmps15
  go_wp2_with (first
    | (go_at_call 8; rw [← hW]; refine HA.out.mono ?_; rintro e w1 ⟨ao, len, cap, rfl, hrow, hcap, hb1⟩; have HR : Hid (RowAt (w1.alloc (.cells #[.int .u64 2] 25)) .u64 ao len cap [2] ∧ RowAt (w1.alloc (.cells #[.int .u64 2] 25)) .u64 (some ⟨w1.heap.size, 0, none⟩) 1 1 [2] ∧ len ≤ 4611686018427387904 ∧ Below w.heap.size w (w1.alloc (.cells #[.int .u64 2] 25))) := ⟨hrow.later ((Below.refl _ _).alloc (Nat.le_refl _) _), (Own.whole (Blk.new w1 .u64 25 [2]) (Nat.zero_le _) rfl).row, by have := hrow.hcap; omega, bnextM (B := 0) (bnextM (B := 0) HW.out.1 hb1) ((Below.refl _ _).alloc (Nat.le_refl _) _)⟩; clear hrow hcap hb1)
    | (go_at_call 10; refine (mnum_any 0 _).mono ?_; rintro e w2 ⟨rfl, hw2⟩; replace hw2 := hw2.symm; subst hw2)
    | (go_at_call 11; refine (meqF_any true _ _ _ _ _ _ [2] [2] _ HR.out.1 HR.out.2.1 HR.out.2.2.1 (by decide)).mono ?_; rintro e w3 ⟨rfl, hb3⟩))
  go_ret
  exact ⟨rfl, bnextM (B := 0) HR.out.2.2.2 hb3⟩
end Go.Proofs.YtpannkjjggelhaaDoor
