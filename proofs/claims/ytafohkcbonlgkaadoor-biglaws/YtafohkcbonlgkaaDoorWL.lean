/-
  Walks: Cmp, Small.
-/
import Derived.Test.YtafohkcbonlgkaaDoorWK
namespace Go.Proofs.YtafohkcbonlgkaaDoor
open Go.RowKit
set_option linter.unusedVariables false
set_option linter.unusedSimpArgs false

set_option maxRecDepth 100000 in
set_option maxHeartbeats 1000000 in
theorem bcmp_bad (na nb : Bool) (ao bo : Option Addr) (la ca lb cb : Nat) (x y : List Int) (w : World) (hx : RowAt w .u64 ao la ca x) (hy : RowAt w .u64 bo lb cb y) (hl : la ≤ 4294967296) (hl' : lb ≤ 4294967296) (hm : (mayB na x && mayB nb y) = false) :
    Calls Tryd.prog 34 #[.agg #[.bool na, .slice ao la ca], .agg #[.bool nb, .slice bo lb cb]] w fun e w' => e = .returned (.int .i64 0) ∧ Below w.heap.size w w' := by
  obtain ⟨W, hT⟩ := Two2.mk' w na nb ao bo la ca lb cb
  have hsz := hT.size
  have HC : Hid ((if mayB na x && mayB nb y then 0 else 10 : Int) = 10) := by show _ = _; rw [hm]; rfl
  have hRx := hx.later hT.below
  have hRy := hy.later hT.below
  clear hm hx hy
  go_enter Tryd.func34, Tryd.ntmps34
  go_wp2_with (go_at_call 48; rw [← hT.eq]; refine (checkBoth_any na nb ao bo la ca lb cb x y _ hRx hRy (by omega) (by omega) 10 HC.out).mono ?_; rintro e w1 ⟨rfl, hb1⟩)
  go_ret
  exact ⟨rfl, bnext hT.below hb1⟩

set_option maxRecDepth 100000 in
set_option maxHeartbeats 1000000 in
theorem bcmp_any (na nb : Bool) (ao bo : Option Addr) (la ca lb cb : Nat) (a b : Int) (w : World) (hx : IntAt w na ao la ca a) (hy : IntAt w nb bo lb cb b) (hl : la ≤ 4294967296) (hl' : lb ≤ 4294967296) (c : Int) (hc : cmpI a b = c) :
    Calls Tryd.prog 34 #[.agg #[.bool na, .slice ao la ca], .agg #[.bool nb, .slice bo lb cb]] w fun e w' => e = .returned (.int .i64 c) ∧ Below w.heap.size w w' := by
  obtain ⟨W, hT⟩ := Two2.mk' w na nb ao bo la ca lb cb
  have hsz := hT.size
  have HC : Hid ((if mayB na (mag a.natAbs) && mayB nb (mag b.natAbs) then 0 else 10 : Int) = 0) := by show _ = _; rw [hx.sg, hy.sg, may_int, may_int]; rfl
  have hRx := hx.later hT.below
  have hRy := hy.later hT.below
  have h1 := hx.sg
  have h2 := hy.sg
  unfold sgB at h1 h2
  clear hx hy
  cases na
  · have ha : ¬ a < 0 := by simpa using h1
    cases nb
    · have hb : ¬ b < 0 := by simpa using h2
      have HV : Hid (cmpI (a.natAbs : Int) (b.natAbs : Int) = c) := by show _ = _; rw [← hc]; congr 1 <;> omega
      clear hc h1 h2 ha hb
      go_enter Tryd.func34, Tryd.ntmps34
      go_wp2_with (first
        | (go_at_call 48; rw [← hT.eq]; refine (checkBoth_any false false ao bo la ca lb cb _ _ _ hRx.row hRy.row (by omega) (by omega) 0 HC.out).mono ?_; rintro e w1 ⟨rfl, hb1⟩; obtain ⟨p0, p1⟩ := hT.a.later hb1 (by omega); obtain ⟨p2, p3⟩ := hT.b.later hb1 (by omega))
        | (go_at_call 64; refine (compare_at ao bo la ca lb cb a.natAbs b.natAbs _ (hRx.row.later hb1) (hRy.row.later hb1) hl hl' c HV.out).mono ?_; rintro e w2 ⟨rfl, hb2⟩))
      go_ret
      exact ⟨rfl, bnext hT.below (bnext hb1 hb2)⟩
    · have hb : b < 0 := by simpa using h2
      rw [cmpI_gt (by omega)] at hc
      subst hc
      clear h1 h2 ha hb
      go_enter Tryd.func34, Tryd.ntmps34
      go_wp2_with (go_at_call 48; rw [← hT.eq]; refine (checkBoth_any false true ao bo la ca lb cb _ _ _ hRx.row hRy.row (by omega) (by omega) 0 HC.out).mono ?_; rintro e w1 ⟨rfl, hb1⟩; obtain ⟨p0, p1⟩ := hT.a.later hb1 (by omega); obtain ⟨p2, p3⟩ := hT.b.later hb1 (by omega))
      go_ret
      exact ⟨rfl, bnext hT.below hb1⟩
  · have ha : a < 0 := by simpa using h1
    cases nb
    · have hb : ¬ b < 0 := by simpa using h2
      rw [cmpI_lt (by omega)] at hc
      subst hc
      clear h1 h2 ha hb
      go_enter Tryd.func34, Tryd.ntmps34
      go_wp2_with (go_at_call 48; rw [← hT.eq]; refine (checkBoth_any true false ao bo la ca lb cb _ _ _ hRx.row hRy.row (by omega) (by omega) 0 HC.out).mono ?_; rintro e w1 ⟨rfl, hb1⟩; obtain ⟨p0, p1⟩ := hT.a.later hb1 (by omega); obtain ⟨p2, p3⟩ := hT.b.later hb1 (by omega))
      go_ret
      exact ⟨rfl, bnext hT.below hb1⟩
    · have hb : b < 0 := by simpa using h2
      have HV : Hid (cmpI (b.natAbs : Int) (a.natAbs : Int) = c) := by
        show _ = _; rw [← hc]; unfold cmpI
        by_cases e1 : a < b
        · rw [if_pos e1, if_pos (by omega)]
        · by_cases e2 : b < a
          · rw [if_neg e1, if_pos e2, if_neg (by omega), if_pos (by omega)]
          · rw [if_neg e1, if_neg e2, if_neg (by omega), if_neg (by omega)]
      clear hc h1 h2 ha hb
      go_enter Tryd.func34, Tryd.ntmps34
      go_wp2_with (first
        | (go_at_call 48; rw [← hT.eq]; refine (checkBoth_any true true ao bo la ca lb cb _ _ _ hRx.row hRy.row (by omega) (by omega) 0 HC.out).mono ?_; rintro e w1 ⟨rfl, hb1⟩; obtain ⟨p0, p1⟩ := hT.a.later hb1 (by omega); obtain ⟨p2, p3⟩ := hT.b.later hb1 (by omega))
        | (go_at_call 64; refine (compare_at bo ao lb cb la ca b.natAbs a.natAbs _ (hRy.row.later hb1) (hRx.row.later hb1) hl' hl c HV.out).mono ?_; rintro e w2 ⟨rfl, hb2⟩))
      go_ret
      exact ⟨rfl, bnext hT.below (bnext hb1 hb2)⟩

/-- the word of a number that has one -/
theorem mag_one {n : Nat} (h : 0 < n) (h1 : n < 18446744073709551616) : mag n = [(n : Int)] := mag_of (Wd.one (by omega)) (by simp [Can]; omega) (by simp [val])
theorem mag_two {n : Nat} (h : 18446744073709551616 ≤ n) : 1 < (mag n).length := by
  by_cases e : (mag n).length ≤ 1
  · exfalso
    have h1 := mag_len_lt (n := n) rfl
    have h2 := pow_mono' (q := 18446744073709551616) (by decide) e
    omega
  · omega

set_option maxRecDepth 100000 in
set_option maxHeartbeats 400000 in
theorem lowLimb_any (ao : Option Addr) (len cap : Nat) (zs : List Int) (w : World) (hr : RowAt w .u64 ao len cap zs) :
    Calls Tryd.prog 110 #[.slice ao len cap] w fun e w' => e = .returned (.int .u64 (dig zs 0)) ∧ w' = w := by
  by_cases hp : 0 < len
  · obtain ⟨b, off, rfl, hlt, hc⟩ := hr.get hp
    have hcell := hc 0 hp
    obtain ⟨z, hz⟩ : ∃ z, dig zs 0 = z := ⟨_, rfl⟩
    rw [hz] at hcell ⊢
    have hl0 : ((len : Int) == 0) = false := by simp; omega
    clear hc hr hz
    simp only [Nat.add_zero] at hcell
    go_enter Tryd.func110, Tryd.ntmps110
    go_wp2
    go_ret
    exact ⟨rfl, rfl⟩
  · obtain rfl : len = 0 := by omega
    obtain rfl : zs = [] := List.eq_nil_of_length_eq_zero hr.hlen.symm
    go_enter Tryd.func110, Tryd.ntmps110
    go_wp2
    go_ret
    exact ⟨rfl, rfl⟩

end Go.Proofs.YtafohkcbonlgkaaDoor
