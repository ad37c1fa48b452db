/-
  Walks: small functions of numbers.
-/
import Derived.Test.YtnodcfeimiimbaaDoorW8
import Derived.Test.YtnodcfeimiimbaaDoorW1
namespace Go.Proofs.YtnodcfeimiimbaaDoor
open Go.RowKit
set_option linter.unusedVariables false
set_option linter.unusedSimpArgs false

/-- one call behind another -/
theorem bnext {w W w' : World} (h : Below w.heap.size w W) (k : Below W.heap.size W w') : Below w.heap.size w w' := h.trans (k.mono h.size)
theorem Below.tell {W w1 : World} (hb : Below W.heap.size W w1) : (∀ b o, b < W.heap.size → w1.cell? ⟨b, o, none⟩ = W.cell? ⟨b, o, none⟩) ∧ (∀ b o, b < W.heap.size → w1.frozen? ⟨b, o, none⟩ = W.frozen? ⟨b, o, none⟩) :=
  ⟨fun b o h => hb.cell (p := ⟨b, o, none⟩) h, fun b o h => hb.frozen (p := ⟨b, o, none⟩) h⟩

set_option maxRecDepth 100000 in
set_option maxHeartbeats 400000 in
theorem may_any (neg : Bool) (ao : Option Addr) (len cap : Nat) (zs : List Int) (w : World) (hr : RowAt w .u64 ao len cap zs) (hl : len ≤ 4611686018427387904) :
    Calls Tryd.prog 16 #[.agg #[.bool neg, .slice ao len cap]] w fun e w' => e = .returned (.bool (mayB neg zs)) ∧ Below w.heap.size w w' := by
  have hn : Hid (mayB neg zs = (nmayB zs && (decide (0 < len) || !neg))) := by
    show _ = _
    by_cases hp : 0 < len
    · rw [mayB_len hr.hlen hp, nmayB_len hr.hlen hp, decide_eq_true hp]; simp
    · obtain rfl : zs = [] := List.eq_nil_of_length_eq_zero (by have := hr.hlen; omega)
      rw [decide_eq_false hp]; cases neg <;> rfl
  obtain ⟨m, hm⟩ : ∃ m, nmayB zs = m := ⟨_, rfl⟩
  have hcon := nmay_any ao len cap zs (w.alloc (.cells #[.bool neg, .slice ao len cap] 30)) (hr.later ((Below.refl _ _).alloc (Nat.le_refl _) _)) hl
  rw [hm] at hcon
  rw [hn.out, hm]
  clear hn hm hr
  cases m
  · go_enter Tryd.func16, Tryd.ntmps16
    go_wp2_with (go_at_call 28; refine hcon.mono ?_; rintro e w' ⟨rfl, rfl⟩)
    go_ret
    exact ⟨rfl, (Below.refl _ _).alloc (Nat.le_refl _) _⟩
  · by_cases hp : 0 < len
    · rw [decide_eq_true hp]
      go_enter Tryd.func16, Tryd.ntmps16
      go_wp2_with (go_at_call 28; refine hcon.mono ?_; rintro e w' ⟨rfl, rfl⟩)
      go_ret
      exact ⟨rfl, (Below.refl _ _).alloc (Nat.le_refl _) _⟩
    · rw [decide_eq_false hp]
      obtain rfl : len = 0 := by omega
      cases neg
      all_goals
        go_enter Tryd.func16, Tryd.ntmps16
        go_wp2_with (go_at_call 28; refine hcon.mono ?_; rintro e w' ⟨rfl, rfl⟩)
        go_ret
        exact ⟨rfl, (Below.refl _ _).alloc (Nat.le_refl _) _⟩

set_option maxHeartbeats 400000 in
theorem long_any (neg : Bool) (ao : Option Addr) (len cap : Nat) (n : Int) (w : World) :
    Calls Tryd.prog 13 #[.agg #[.bool neg, .slice ao len cap], .int .i64 n] w fun e w' => e = .returned (.bool (decide (n < (len : Int)))) ∧ Below w.heap.size w w' := by
  go_enter Tryd.func13, Tryd.ntmps13
  go_wp2
  go_ret
  exact ⟨rfl, (Below.refl _ _).alloc (Nat.le_refl _) _⟩

set_option maxHeartbeats 400000 in
theorem num_any (n : Int) (w : World) : Calls Tryd.prog 9 #[.int .i64 n] w fun e w' => e = .returned (.int .i64 n) ∧ w' = w := by
  go_enter Tryd.func9, Tryd.ntmps9
  go_wp2
  go_ret
  exact ⟨rfl, rfl⟩

set_option maxRecDepth 100000 in
set_option maxHeartbeats 400000 in
theorem made_any (neg : Bool) (ao : Option Addr) (len cap : Nat) (w : World) (hl : len ≤ 4611686018427387904) :
    Calls Tryd.prog 22 #[.bool neg, .slice ao len cap] w fun e w' => e = .returned (.agg #[.bool (neg && decide (0 < len)), .slice ao len cap]) ∧ Below w.heap.size w w' := by
  cases neg
  · go_enter Tryd.func22, Tryd.ntmps22
    go_wp2
    exact bodyPost_ret (v := .agg #[.bool false, .slice ao len cap]) (by simp [results, Tryd.results22, go_sem]) rfl ⟨rfl, (Below.refl _ _).alloc (Nat.le_refl _) _⟩
  · by_cases h : 0 < len
    · rw [decide_eq_true h]
      go_enter Tryd.func22, Tryd.ntmps22
      go_wp2
      exact bodyPost_ret (v := .agg #[.bool true, .slice ao len cap]) (by simp [results, Tryd.results22, go_sem]) rfl ⟨rfl, (Below.refl _ _).alloc (Nat.le_refl _) _⟩
    · rw [decide_eq_false h]
      go_enter Tryd.func22, Tryd.ntmps22
      go_wp2
      exact bodyPost_ret (v := .agg #[.bool false, .slice ao len cap]) (by simp [results, Tryd.results22, go_sem]) rfl ⟨rfl, (Below.refl _ _).alloc (Nat.le_refl _) _⟩

/-- whatever stands there as signs and words: are they alike? -/
theorem eqint_any (na nb : Bool) (ao bo : Option Addr) (la ca lb cb : Nat) (x y : List Int) (w : World) (hx : RowAt w .u64 ao la ca x) (hy : RowAt w .u64 bo lb cb y) (hl : la ≤ 4611686018427387904) :
    Calls Tryd.prog 10 #[.agg #[.bool na, .slice ao la ca], .agg #[.bool nb, .slice bo lb cb]] w fun e w' => e = .returned (.bool (decide (na = nb) && decide (x = y))) ∧ Below w.heap.size w w' := by
  by_cases hs : na = nb
  · subst hs
    rw [decide_eq_true rfl, Bool.true_and]
    have hbW : Below w.heap.size w ((w.alloc (.cells #[.bool na, .slice ao la ca] 30)).alloc (.cells #[.bool na, .slice bo lb cb] 30)) := ((Below.refl _ _).alloc (Nat.le_refl _) _).alloc (by simp) _
    have hcon := eqwords_any ao bo la ca lb cb x y _ (hx.later hbW) (hy.later hbW) hl
    have HB : Hid _ := hbW
    clear hx hy hbW
    go_enter Tryd.func10, Tryd.ntmps10
    go_wp2_with (go_at_call 20; refine hcon.mono ?_; rintro e w' ⟨rfl, hb⟩)
    go_ret
    exact ⟨rfl, bnext HB.out hb⟩
  · have hs' : (na == nb) = false := by simpa using hs
    rw [decide_eq_false hs, Bool.false_and]
    go_enter Tryd.func10, Tryd.ntmps10
    go_wp2
    go_ret
    exact ⟨rfl, ((Below.refl _ _).alloc (Nat.le_refl _) _).alloc (by simp) _⟩

set_option maxRecDepth 100000 in
set_option maxHeartbeats 400000 in
theorem ofLimb_any (n : Nat) (w : World) (hn : n < 18446744073709551616) :
    Calls Tryd.prog 32 #[.int .u64 n] w fun e w' => NewNat w w' e n := by
  by_cases h0 : n = 0
  · subst h0
    go_enter Tryd.func32, Tryd.ntmps32
    go_wp2
    go_ret
    exact ⟨_, _, _, rfl, Own.none_, Below.refl _ _⟩
  · have h1 : ((n : Int) == 0) = false := by simp; omega
    have hm : Hid (mag n = [(n : Int)]) := mag_of (Wd.one (by omega)) (by simp [Can]; omega) (by simp [val])
    have hb : Hid (Blk (w.alloc (.cells #[.int .u64 (n : Int)] 54)) w.heap.size .u64 54 [(n : Int)]) := Blk.new w .u64 54 [(n : Int)]
    clear h0
    go_enter Tryd.func32, Tryd.ntmps32
    go_wp2
    go_ret
    exact ⟨_, _, _, rfl, by rw [hm.out]; exact Own.whole hb.out (Nat.le_refl _) rfl, (Below.refl _ _).alloc (Nat.le_refl _) _⟩

set_option maxRecDepth 100000 in
set_option maxHeartbeats 400000 in
theorem nof_any (n : Nat) (w : World) (hn : n < 18446744073709551616) :
    Calls Tryd.prog 38 #[.int .u64 n] w fun e w' => NewNat w w' e n := by
  have hb : Hid (Blk (w.alloc (.cells #[.int .u64 (n : Int)] 54)) w.heap.size .u64 54 [(n : Int)]) := Blk.new w .u64 54 [(n : Int)]
  have hcon := ntrim_any (some ⟨w.heap.size, 0, none⟩) 1 1 [(n : Int)] _ (Own.whole hb.out (Nat.le_refl _) rfl).row (by decide)
  go_enter Tryd.func38, Tryd.ntmps38
  go_wp2_with (go_at_call 56; refine hcon.mono ?_; rintro e w4 ⟨hT, rfl⟩; obtain ⟨ao', n', cap', hn', rfl, hrest⟩ := hT)
  go_ret
  exact Trimmed.nat (L := [(n : Int)]) ⟨ao', n', cap', hn', rfl, hrest⟩ hb.out rfl (Nat.le_refl _) (Wd.one (by omega)) (by simp [val]) ((Below.refl _ _).alloc (Nat.le_refl _) _)

end Go.Proofs.YtnodcfeimiimbaaDoor
