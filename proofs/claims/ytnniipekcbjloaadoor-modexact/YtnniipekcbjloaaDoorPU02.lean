/-
  W5, W6, W7, W8, W1, W9.
-/
import Derived.Test.YtnniipekcbjloaaDoorPU01
import Derived.Deep.RegionHeld3
/- Walks: addInto, subInto. -/
namespace Go.Proofs.YtnniipekcbjloaaDoor
open Go.RowKit
set_option linter.unusedVariables false
set_option linter.unusedSimpArgs false
/-- of what was there only block g may have turned -/
structure Touch (g : Nat) (w w' : World) : Prop where
  os : w'.os = w.os
  tape : w'.tape = w.tape
  output : w'.output = w.output
  size : w'.heap.size = w.heap.size
  block : ∀ k, k ≠ g → w'.heap[k]? = w.heap[k]?
theorem Touch.refl (g : Nat) (w : World) : Touch g w w := ⟨rfl, rfl, rfl, rfl, fun _ _ => rfl⟩
theorem Touch.set {g : Nat} {a w : World} (h : Touch g a w) (j : Nat) (v : Value) : Touch g a (w.setCell ⟨g, j, none⟩ v) :=
  ⟨h.os, h.tape, h.output, by simpa [World.setCell] using h.size, fun k hk => by rw [Below.heap_setCell _ _ _ _ hk]; exact h.block k hk⟩
theorem Touch.drewN {g : Nat} {a w : World} (h : Touch g a w) (n : Nat) : Touch g a (w.drewN n) := ⟨h.os, h.tape, h.output, h.size, h.block⟩
theorem Touch.drew {g : Nat} {a w : World} (h : Touch g a w) : Touch g a w.drew := ⟨h.os, h.tape, h.output, h.size, h.block⟩
theorem Touch.below {g B : Nat} {a w : World} (h : Touch g a w) (hB : B ≤ g) : Below B a w := ⟨h.os, h.tape, h.output, Nat.le_of_eq h.size.symm, fun k hk => h.block k (by omega)⟩
theorem Touch.trans {g : Nat} {a b c : World} (h : Touch g a b) (k : Touch g b c) : Touch g a c := ⟨k.os.trans h.os, k.tape.trans h.tape, k.output.trans h.output, k.size.trans h.size, fun i hi => (k.block i hi).trans (h.block i hi)⟩
/-- what addInto and subInto leave -/
def Summed (s : Int) (w w' : World) (e : Ending) (g off n : Nat) (L ys : List Int) : Prop :=
  ∃ c L', e = .returned (.int .u64 c) ∧ Blk w' g .u64 25 L' ∧ L'.length = L.length ∧ Wd 18446744073709551616 L' ∧ (∀ j, j < off ∨ off + n ≤ j → dig L' j = dig L j) ∧ 0 ≤ c ∧ c ≤ 1 ∧
    V 18446744073709551616 L' off n + s * (c * 18446744073709551616 ^ n) = V 18446744073709551616 L off n + s * val 18446744073709551616 ys ∧ Touch g w w'
end Go.Proofs.YtnniipekcbjloaaDoor
/- Walks: plus, minus. -/
namespace Go.Proofs.YtnniipekcbjloaaDoor
open Go.RowKit
set_option linter.unusedVariables false
set_option linter.unusedSimpArgs false
/-- a whole block summed into: nothing is carried out of it -/
def SumAll (w w' : World) (e : Ending) (g n : Nat) (T : Int) : Prop :=
  ∃ c L', e = .returned (.int .u64 c) ∧ Blk w' g .u64 25 L' ∧ L'.length = n ∧ Wd 18446744073709551616 L' ∧ val 18446744073709551616 L' = T ∧ Touch g w w'
theorem Summed.all {s : Int} {w w' : World} {e : Ending} {g n : Nat} {L ys : List Int} {T : Int} (h : Summed s w w' e g 0 n L ys) (hs : s = 1 ∨ s = -1) (hn : n = L.length) (hT : T = val 18446744073709551616 L + s * val 18446744073709551616 ys) (h0 : 0 ≤ T) (h1 : T < 18446744073709551616 ^ n) : SumAll w w' e g n T := by
  obtain ⟨c, L', he, hb, hl, hw, _, hc0, hc1, hV, hto⟩ := h
  refine ⟨c, L', he, hb, by omega, hw, ?_, hto⟩
  rw [V_all _ (by omega), V_all _ hn] at hV
  have a1 := val_nonneg (q := 18446744073709551616) (by decide) hw
  have a2 := val_lt (q := 18446744073709551616) (by decide) hw
  have e1 : L'.length = n := by omega
  rw [e1] at a2
  rw [← hT] at hV
  have hc : c = 0 ∨ c = 1 := by omega
  obtain ⟨Q, hQ⟩ : ∃ Q : Int, (18446744073709551616 : Int) ^ n = Q := ⟨_, rfl⟩
  rw [hQ] at hV a2 h1
  rcases hc with rfl | rfl <;> rcases hs with rfl | rfl <;> omega
theorem mag_len_lt {n : Nat} {l : Nat} (h : l = (mag n).length) : (n : Int) < 18446744073709551616 ^ l := by
  have := val_lt (q := 18446744073709551616) (by decide) (mag_wd n)
  rw [mag_val, ← h] at this; exact this
theorem mag_len_mono {a b : Nat} (h : b ≤ a) : (mag b).length ≤ (mag a).length := by
  by_cases hlt : (mag a).length < (mag b).length
  · have := val_lt_of_len (q := 18446744073709551616) (by decide) (mag_wd a) (mag_wd b) (mag_can b) hlt
    rw [mag_val, mag_val] at this; omega
  · omega
theorem mag_len_le {n k : Nat} (h : (n : Int) < 18446744073709551616 ^ k) : (mag n).length ≤ k := by
  by_cases e : mag n = []
  · rw [e]; exact Nat.zero_le _
  · have h1 := val_ge (q := 18446744073709551616) (by decide) (mag_wd n) (mag_can n) e
    rw [mag_val] at h1
    by_cases hk : (mag n).length ≤ k
    · exact hk
    · have h2 := pow_mono' (q := 18446744073709551616) (by decide) (show k ≤ (mag n).length - 1 by omega)
      omega
theorem mag_len_add (a b : Nat) : (mag (a + b)).length ≤ (mag a).length + (mag b).length + 1 := by
  have h1 := mag_len_lt (n := a) rfl
  have h2 := mag_len_lt (n := b) rfl
  apply mag_len_le
  have h3 := pow_mono' (q := 18446744073709551616) (by decide) (show (mag a).length ≤ (mag a).length + (mag b).length by omega)
  have h4 := pow_mono' (q := 18446744073709551616) (by decide) (show (mag b).length ≤ (mag a).length + (mag b).length by omega)
  rw [Int.pow_succ]; omega
theorem Trimmed.natOwn {w0 w : World} {ao : Option Addr} {n cap : Nat} {L : List Int} {e : Ending} {N : Nat} (h : Trimmed w .u64 ao n cap L e) (ho : Own w0.heap.size w .u64 25 ao n cap L) (hW : Wd 18446744073709551616 L) (hv : val 18446744073709551616 L = N) (hB : Below w0.heap.size w0 w) : NewNat w0 w e N := by
  obtain ⟨ao', k, cap', hk, he, hr, hc, hval, hor⟩ := h
  have hm : mag N = L.take k := mag_of (hW.take k) hc (by rw [hval, hv])
  refine ⟨ao', k, cap', he, ?_, hB⟩
  rw [hm]
  rcases hor with ⟨rfl, rfl⟩ | ⟨rfl, rfl⟩
  · exact ho.take hk
  · exact Or.inl ⟨rfl, rfl, hr.hnil rfl, by simp⟩
theorem Trimmed.nat {w0 w : World} {g n : Nat} {L : List Int} {e : Ending} {N : Nat} (h : Trimmed w .u64 (some ⟨g, 0, none⟩) n n L e) (hb : Blk w g .u64 25 L) (hn : n = L.length) (hg : w0.heap.size ≤ g) (hW : Wd 18446744073709551616 L) (hv : val 18446744073709551616 L = N) (hB : Below w0.heap.size w0 w) : NewNat w0 w e N := by
  obtain ⟨ao', k, cap', hk, he, hr, hc, hval, hor⟩ := h
  have hm : mag N = L.take k := mag_of (hW.take k) hc (by rw [hval, hv])
  refine ⟨ao', k, cap', he, ?_, hB⟩
  rw [hm]
  rcases hor with ⟨rfl, rfl⟩ | ⟨rfl, rfl⟩
  · exact (Own.whole hb hg hn).take hk
  · refine Or.inl ⟨rfl, rfl, ?_, by simp⟩
    exact hr.hnil rfl
end Go.Proofs.YtnniipekcbjloaaDoor
/- Walks: signed, sum, Add, From, EqInt. -/
namespace Go.Proofs.YtnniipekcbjloaaDoor
open Go.RowKit
set_option linter.unusedVariables false
set_option linter.unusedSimpArgs false
theorem Own.setOther {B : Nat} {w : World} {k : IntKind} {t : TypeId} {ao : Option Addr} {len cap : Nat} {zs : List Int} (h : Own B w k t ao len cap zs) {a : Addr} (ha : a.block < B) (v : Value) : Own B (w.setCell a v) k t ao len cap zs := by
  rcases h with h | ⟨g, off, L, h1, h2, h3, h4⟩
  · exact Or.inl h
  · exact Or.inr ⟨g, off, L, h1, h2, by rw [Below.heap_setCell _ _ _ _ (by omega)]; exact h3, h4⟩
theorem NewInt.ret {w w' : World} {B : Nat} {neg : Bool} {n l c : Nat} {ao : Option Addr} {v : Int} (ho : Own B w' .u64 25 ao l c (mag n)) (hB : w.heap.size ≤ B) (hv : v = sgn neg n) (hb : Below w.heap.size w w') : NewInt w w' (.returned (.agg #[.bool (neg && decide (0 < l)), .slice ao l c])) v := by
  subst hv
  refine ⟨_, _, _, _, rfl, ?_, ?_, hb⟩
  · rw [sgB_sgn, ho.row.hlen]
  · rw [natAbs_sgn]; exact ho.mono hB
theorem sgn_add_same {neg : Bool} {a b : Int} (ha : neg = sgB a) (hb : neg = sgB b) : a + b = sgn neg (a.natAbs + b.natAbs) := by
  have h1 := sgn_of ha
  have h2 := sgn_of hb
  unfold sgn at h1 h2 ⊢
  cases neg <;> simp at h1 h2 ⊢ <;> omega
theorem sgn_add_diff {na nb : Bool} {a b : Int} (ha : na = sgB a) (hb : nb = sgB b) (hd : na ≠ nb) (hle : b.natAbs ≤ a.natAbs) : a + b = sgn na (a.natAbs - b.natAbs) := by
  have h1 := sgn_of ha
  have h2 := sgn_of hb
  unfold sgn at h1 h2 ⊢
  cases na <;> cases nb <;> simp at h1 h2 hd ⊢ <;> omega
theorem cmpI_ge {a b : Int} (h : b ≤ a) : ∃ c, cmpI a b = c ∧ 0 ≤ c := by
  refine ⟨_, rfl, ?_⟩
  unfold cmpI; split
  · omega
  · split <;> omega
end Go.Proofs.YtnniipekcbjloaaDoor
/- Walks: sum. -/
namespace Go.Proofs.YtnniipekcbjloaaDoor
open Go.RowKit
set_option linter.unusedVariables false
set_option linter.unusedSimpArgs false
end Go.Proofs.YtnniipekcbjloaaDoor
/- Walks: is it a number? (Check, NMay, May) -/
namespace Go.Proofs.YtnniipekcbjloaaDoor
open Go.RowKit
set_option linter.unusedVariables false
set_option linter.unusedSimpArgs false
theorem mayB_len {neg : Bool} {zs : List Int} {len : Nat} (hl : len = zs.length) (hp : 0 < len) : mayB neg zs = (dig zs (len - 1) != 0) := by
  subst hl; exact mayB_last (List.length_pos_iff.1 hp)
/-- the magnitude alone -/
def nmayB (zs : List Int) : Bool := mayB false zs
theorem nmayB_len {zs : List Int} {len : Nat} (hl : len = zs.length) (hp : 0 < len) : nmayB zs = (dig zs (len - 1) != 0) := mayB_len hl hp
set_option maxRecDepth 100000 in
set_option maxHeartbeats 400000 in
theorem check_any (neg : Bool) (ao : Option Addr) (len cap : Nat) (zs : List Int) (w : World) (hr : RowAt w .u64 ao len cap zs) (hl : len ≤ 4611686018427387904) :
    Calls Tryd.prog 75 #[.agg #[.bool neg, .slice ao len cap]] w fun e w' => e = .returned (.int .i64 (if mayB neg zs then 0 else 10)) ∧ Below w.heap.size w w' := by
  by_cases hp : 0 < len
  · obtain ⟨b, off, rfl, hlt, hc⟩ := hr.get hp
    have hcell := hc (len - 1) (by omega)
    rw [mayB_len hr.hlen hp]
    clear hc hr
    obtain ⟨z, hz⟩ : ∃ z, dig zs (len - 1) = z := ⟨_, rfl⟩
    rw [hz] at hcell ⊢
    clear hz
    by_cases h0 : z = 0
    · subst h0
      go_enter Tryd.func75, Tryd.ntmps75
      go_wp2
      go_ret
      exact ⟨rfl, (Below.refl _ _).alloc (Nat.le_refl _) _⟩
    · have h1 : (z == 0) = false := by simpa using h0
      have h2 : (z != 0) = true := by simpa using h0
      rw [h2]
      go_enter Tryd.func75, Tryd.ntmps75
      go_wp2
      go_ret
      exact ⟨rfl, (Below.refl _ _).alloc (Nat.le_refl _) _⟩
  · obtain rfl : len = 0 := by omega
    obtain rfl : zs = [] := List.eq_nil_of_length_eq_zero hr.hlen.symm
    cases neg
    all_goals
      go_enter Tryd.func75, Tryd.ntmps75
      go_wp2
      go_ret
      exact ⟨rfl, (Below.refl _ _).alloc (Nat.le_refl _) _⟩
set_option maxRecDepth 100000 in
set_option maxHeartbeats 400000 in
theorem nmay_any (ao : Option Addr) (len cap : Nat) (zs : List Int) (w : World) (hr : RowAt w .u64 ao len cap zs) (hl : len ≤ 4611686018427387904) :
    Calls Tryd.prog 63 #[.slice ao len cap] w fun e w' => e = .returned (.bool (nmayB zs)) ∧ w' = w := by
  by_cases hp : 0 < len
  · obtain ⟨b, off, rfl, hlt, hc⟩ := hr.get hp
    have hcell := hc (len - 1) (by omega)
    rw [nmayB_len hr.hlen hp]
    clear hc hr
    obtain ⟨z, hz⟩ : ∃ z, dig zs (len - 1) = z := ⟨_, rfl⟩
    rw [hz] at hcell ⊢
    clear hz
    have hl0 : ((len : Int) == 0) = false := by simp; omega
    go_enter Tryd.func63, Tryd.ntmps63
    go_wp2
    go_ret
    exact ⟨rfl, rfl⟩
  · obtain rfl : len = 0 := by omega
    obtain rfl : zs = [] := List.eq_nil_of_length_eq_zero hr.hlen.symm
    go_enter Tryd.func63, Tryd.ntmps63
    go_wp2
    go_ret
    exact ⟨rfl, rfl⟩
end Go.Proofs.YtnniipekcbjloaaDoor
/- Walks: small functions of numbers. -/
namespace Go.Proofs.YtnniipekcbjloaaDoor
open Go.RowKit
set_option linter.unusedVariables false
set_option linter.unusedSimpArgs false
/-- one call behind another -/
theorem bnext {w W w' : World} (h : Below w.heap.size w W) (k : Below W.heap.size W w') : Below w.heap.size w w' := h.trans (k.mono h.size)
set_option maxRecDepth 100000 in
set_option maxHeartbeats 400000 in
theorem may_any (neg : Bool) (ao : Option Addr) (len cap : Nat) (zs : List Int) (w : World) (hr : RowAt w .u64 ao len cap zs) (hl : len ≤ 4611686018427387904) :
    Calls Tryd.prog 38 #[.agg #[.bool neg, .slice ao len cap]] w fun e w' => e = .returned (.bool (mayB neg zs)) ∧ Below w.heap.size w w' := by
  have hn : Hid (mayB neg zs = (nmayB zs && (decide (0 < len) || !neg))) := by
    show _ = _
    by_cases hp : 0 < len
    · rw [mayB_len hr.hlen hp, nmayB_len hr.hlen hp, decide_eq_true hp]; simp
    · obtain rfl : zs = [] := List.eq_nil_of_length_eq_zero (by have := hr.hlen; omega)
      rw [decide_eq_false hp]; cases neg <;> rfl
  obtain ⟨m, hm⟩ : ∃ m, nmayB zs = m := ⟨_, rfl⟩
  have hcon := nmay_any ao len cap zs (w.alloc (.cells #[.bool neg, .slice ao len cap] 65)) (hr.later ((Below.refl _ _).alloc (Nat.le_refl _) _)) hl
  rw [hm] at hcon
  rw [hn.out, hm]
  clear hn hm hr
  cases m
  · go_enter Tryd.func38, Tryd.ntmps38
    go_wp2_with (go_at_call 63; refine hcon.mono ?_; rintro e w' ⟨rfl, rfl⟩)
    go_ret
    exact ⟨rfl, (Below.refl _ _).alloc (Nat.le_refl _) _⟩
  · by_cases hp : 0 < len
    · rw [decide_eq_true hp]
      go_enter Tryd.func38, Tryd.ntmps38
      go_wp2_with (go_at_call 63; refine hcon.mono ?_; rintro e w' ⟨rfl, rfl⟩)
      go_ret
      exact ⟨rfl, (Below.refl _ _).alloc (Nat.le_refl _) _⟩
    · rw [decide_eq_false hp]
      obtain rfl : len = 0 := by omega
      cases neg
      all_goals
        go_enter Tryd.func38, Tryd.ntmps38
        go_wp2_with (go_at_call 63; refine hcon.mono ?_; rintro e w' ⟨rfl, rfl⟩)
        go_ret
        exact ⟨rfl, (Below.refl _ _).alloc (Nat.le_refl _) _⟩
set_option maxHeartbeats 400000 in
theorem long_any (neg : Bool) (ao : Option Addr) (len cap : Nat) (n : Int) (w : World) :
    Calls Tryd.prog 62 #[.agg #[.bool neg, .slice ao len cap], .int .i64 n] w fun e w' => e = .returned (.bool (decide (n < (len : Int)))) ∧ Below w.heap.size w w' := by
  go_enter Tryd.func62, Tryd.ntmps62
  go_wp2
  go_ret
  exact ⟨rfl, (Below.refl _ _).alloc (Nat.le_refl _) _⟩
set_option maxRecDepth 100000 in
set_option maxHeartbeats 400000 in
theorem made_any (neg : Bool) (ao : Option Addr) (len cap : Nat) (w : World) (hl : len ≤ 4611686018427387904) :
    Calls Tryd.prog 66 #[.bool neg, .slice ao len cap] w fun e w' => e = .returned (.agg #[.bool (neg && decide (0 < len)), .slice ao len cap]) ∧ Below w.heap.size w w' := by
  cases neg
  · go_enter Tryd.func66, Tryd.ntmps66
    go_wp2
    exact bodyPost_ret (v := .agg #[.bool false, .slice ao len cap]) (by simp [results, Tryd.results66, go_sem]) rfl ⟨rfl, (Below.refl _ _).alloc (Nat.le_refl _) _⟩
  · by_cases h : 0 < len
    · rw [decide_eq_true h]
      go_enter Tryd.func66, Tryd.ntmps66
      go_wp2
      exact bodyPost_ret (v := .agg #[.bool true, .slice ao len cap]) (by simp [results, Tryd.results66, go_sem]) rfl ⟨rfl, (Below.refl _ _).alloc (Nat.le_refl _) _⟩
    · rw [decide_eq_false h]
      go_enter Tryd.func66, Tryd.ntmps66
      go_wp2
      exact bodyPost_ret (v := .agg #[.bool false, .slice ao len cap]) (by simp [results, Tryd.results66, go_sem]) rfl ⟨rfl, (Below.refl _ _).alloc (Nat.le_refl _) _⟩
set_option maxRecDepth 100000 in
set_option maxHeartbeats 400000 in
theorem nof_any (n : Nat) (w : World) (hn : n < 18446744073709551616) :
    Calls Tryd.prog 67 #[.int .u64 n] w fun e w' => NewNat w w' e n := by
  have hb : Hid (Blk (w.alloc (.cells #[.int .u64 (n : Int)] 25)) w.heap.size .u64 25 [(n : Int)]) := Blk.new w .u64 25 [(n : Int)]
  have hcon := ntrim_any (some ⟨w.heap.size, 0, none⟩) 1 1 [(n : Int)] _ (Own.whole hb.out (Nat.le_refl _) rfl).row (by decide)
  go_enter Tryd.func67, Tryd.ntmps67
  go_wp2_with (go_at_call 82; refine hcon.mono ?_; rintro e w4 ⟨hT, rfl⟩; obtain ⟨ao', n', cap', hn', rfl, hrest⟩ := hT)
  go_ret
  exact Trimmed.nat (L := [(n : Int)]) ⟨ao', n', cap', hn', rfl, hrest⟩ hb.out rfl (Nat.le_refl _) (Wd.one (by omega)) (by simp [val]) ((Below.refl _ _).alloc (Nat.le_refl _) _)
end Go.Proofs.YtnniipekcbjloaaDoor
