/-
  IF, IG, IH.
-/
import Derived.Test.YtiiefpnkpfliiaaGreatDoorPA19
import Derived.Test.YtiiefpnkpfliiaaGreatDoorPA20
import Derived.Deep.RegionHeld3
import Derived.Shelf.Strings.Search1
import Derived.Lib.IndexLaws
/- Walks: decimal, Text; the page's Text; a number's text is read as that number. -/
namespace Go.Proofs.YtiiefpnkpfliiaaGreatDoor
open Go.RowKit
set_option linter.unusedVariables false
set_option linter.unusedSimpArgs false
/-- a number's text -/
def itext (a : Int) : List Int := (if a < 0 then [45] else []) ++ dnums a.natAbs
theorem dnums_pos (n : Nat) : 0 < (dnums n).length := by
  by_cases h : n < 10
  · rw [dnums_one h]; simp
  · rw [dnums_low (by omega)]; simp
theorem conv_owns {B n : Nat} {w : World} {v : Value} {T : List Int} (h : w.ownsRow B 5 1 v n (T.map (Value.int .u8))) (hn : n = T.length) (hp : 0 < n) : ∃ g cap, v = .slice (some ⟨g, 0, none⟩) n cap ∧ (convert 115 9 (.slice (some ⟨g, 0, none⟩) n cap)).run Tryz.prog w = .ok (.string (strOfNums T)) w := by
  obtain ⟨ao, cap, hv, hrow⟩ := row_of_owns hn.symm h
  obtain ⟨g', o', ha, _, hc⟩ := hrow.get hp
  rcases h.2 with ⟨hv', h0⟩ | ⟨g, cap', cur, hv', _⟩
  · omega
  · rw [hv] at hv'
    simp only [Value.slice.injEq] at hv'
    obtain ⟨ha', _, hcc⟩ := hv'
    subst hcc
    rw [ha] at ha'
    cases ha'
    refine ⟨g', cap, hv.trans (by rw [ha]), ?_⟩
    exact run_convert_bytes_arg w _ 5 Tryz.underlying115 Tryz.underlying5 g' 0 n cap T hn.symm (fun i hi => hc i hi) _ Tryz.underlying9
theorem tens_small {B m : Nat} {w : World} {v : Value} (h : TensAt B w v m 2000) : 19 * 2 ^ m ≤ 300000 := by
  cases m with
  | zero => decide
  | succ m =>
    obtain ⟨xs, ho, hx⟩ := h.row
    obtain ⟨o, l, c, h1, h2, h3⟩ := hx m (Nat.lt_succ_self m)
    have h4 : (mag (ten m)).length ≤ 2000 := by rw [← h2.row.hlen]; exact h3
    obtain ⟨K, hK⟩ : ∃ K : Nat, K = 128000 := ⟨_, rfl⟩
    have h5 : ten m < 2 ^ K := by
      have h := val_lt (q := 18446744073709551616) (by decide) (mag_wd (ten m))
      rw [mag_val] at h
      have h6 : ((2 ^ (64 * (mag (ten m)).length) : Nat) : Int) = (18446744073709551616 : Int) ^ (mag (ten m)).length := by rw [Nat.pow_mul, Int.natCast_pow]; rfl
      rw [← h6] at h
      exact Nat.lt_of_lt_of_le (Int.ofNat_lt.1 h) (Nat.pow_le_pow_right (by decide) (by omega))
    have h7 : 2 ^ (19 * 2 ^ m) ≤ ten m := Nat.pow_le_pow_left (by decide) _
    have h8 : 19 * 2 ^ m < K := (Nat.pow_lt_pow_iff_right (by decide)).1 (Nat.lt_of_le_of_lt h7 h5)
    rw [nineteen]; omega
set_option maxRecDepth 100000 in
set_option maxHeartbeats 3000000 in
theorem decimal_pos (ao : Option Addr) (len cap n : Nat) (w : World) (hr : RowAt w .u64 ao len cap (mag n)) (hl : len ≤ 1000) (htab : Pow10 w) :
    Calls Tryz.prog 103 #[.agg #[.bool false, .slice ao len cap]] w fun e w' => e = .returned (.string (strOfNums (dnums n))) ∧ Below w.heap.size w w' := by
  obtain ⟨W, hW⟩ : ∃ W, W = w.alloc (.cells #[.bool false, .slice ao len cap] 26) := ⟨_, rfl⟩
  have HW : Hid (Below w.heap.size w W ∧ W.heap.size = w.heap.size + 1 ∧ W.heap[w.heap.size]? = some (.cells #[.bool false, .slice ao len cap] 26 (0, 0)) ∧ Pow10B w.heap.size W) := by
    rw [hW]
    exact ⟨(Below.refl _ _).alloc (Nat.le_refl _) _, by simp, heap_alloc_new w _, (Lib.tabBelow_of_tabIs htab).on ((Below.refl _ _).alloc (Nat.le_refl _) _)⟩
  have HR : Hid (RowAt W .u64 ao len cap (mag n)) := hr.later HW.out.1
  have KS : Hid (∀ w' : World, KeepT W w' → w'.cell? ⟨w.heap.size, 1, none⟩ = some (.slice ao len cap)) := fun w' hk => by
    have := hk.2 _ _ _ _ HW.out.2.2.1 (by decide)
    simp [World.cell?, this]
  have htens := tensUpTo_any ao len cap n W.drew (HR.out.later (Below.refl _ _).drew) hl
  clear hr htab
  go_enter Tryz.func103, Tryz.ntmps103
  go_wp2
  rw [← hW]
  clear hW
  have hc0 := KS.out W (KeepT.refl W)
  go_region_with (first
      | (go_at_call 132; refine htens.mono ?_; rintro e w1 ⟨tv, m, rfl, hT, hn, _, hb1⟩; obtain ⟨xs, ho, _⟩ := hT.row; obtain ⟨tt0, tc, rfl, _⟩ := owns_slice ho; have hk1 : KeepT W w1 := (KeepT.below (Below.refl _ _).drew).trans (KeepT.below hb1); have HT : Hid (TensAt W.drew.heap.size w1 (.slice tt0 m tc) m 2000 ∧ n < ten m ∧ Below W.heap.size W w1 ∧ 19 * 2 ^ m ≤ 300000) := ⟨hT, hn, bnext (Below.refl _ _).drew hb1, tens_small hT⟩; clear hT hn hb1 ho; have hc1 := KS.out _ hk1)
      | (go_at_call 131; refine (appendDecimal_any m w.heap.size W.drew.heap.size (.slice none 0 0) [] ao len cap n tt0 tc false w1 (World.ownsRow_nil _ _ _ _) (Nat.le_trans HW.out.1.size HT.out.2.2.1.size) (HR.out.later HT.out.2.2.1) (by omega) HT.out.2.1 HT.out.1 (by have := HT.out.2.2.2; simp; omega) (HW.out.2.2.2.on (HT.out.2.2.1.mono HW.out.1.size))).mono ?_; rintro e w2 ⟨v2, rfl, hown2, hb2, hk2⟩; rw [List.nil_append] at hown2; obtain ⟨g2, c2, rfl, hcv⟩ := conv_owns hown2 rfl (dnums_pos n); have hk3 : KeepT W w2 := hk1.trans hk2; have HB2 : Hid (Below w.heap.size w w2) := (bnext HW.out.1 HT.out.2.2.1).trans hb2; clear hown2))
  all_goals go_wp2
  all_goals go_ret
  all_goals exact ⟨rfl, HB2.out⟩
set_option maxRecDepth 100000 in
set_option maxHeartbeats 2000000 in
theorem decimal_neg (ao : Option Addr) (len cap n : Nat) (w : World) (hr : RowAt w .u64 ao len cap (mag n)) (hl : len ≤ 1000) (htab : Pow10 w) :
    Calls Tryz.prog 103 #[.agg #[.bool true, .slice ao len cap]] w fun e w' => e = .returned (.string (strOfNums (45 :: dnums n))) ∧ Below w.heap.size w w' := by
  obtain ⟨i0, hi, hz0, hz1, hz2⟩ := info_parts info8
  obtain ⟨W, hW⟩ : ∃ W, W = w.alloc (.cells #[.bool true, .slice ao len cap] 26) := ⟨_, rfl⟩
  have HW : Hid (Below w.heap.size w W ∧ W.heap.size = w.heap.size + 1 ∧ W.heap[w.heap.size]? = some (.cells #[.bool true, .slice ao len cap] 26 (0, 0)) ∧ Pow10B w.heap.size W) := by
    rw [hW]
    exact ⟨(Below.refl _ _).alloc (Nat.le_refl _) _, by simp, heap_alloc_new w _, (Lib.tabBelow_of_tabIs htab).on ((Below.refl _ _).alloc (Nat.le_refl _) _)⟩
  have HR : Hid (RowAt W .u64 ao len cap (mag n)) := hr.later HW.out.1
  have KS : Hid (∀ w' : World, KeepT W w' → w'.cell? ⟨w.heap.size, 0, none⟩ = some (.bool true) ∧ w'.cell? ⟨w.heap.size, 1, none⟩ = some (.slice ao len cap)) := fun w' hk => by
    have := hk.2 _ _ _ _ HW.out.2.2.1 (by decide)
    simp [World.cell?, this]
  clear hr htab
  obtain ⟨X, hX⟩ : ∃ X, X = W.alloc (.cells #[.int .u8 45] 5) := ⟨_, rfl⟩
  have HX : Hid (Below W.heap.size W X ∧ w.heap.size ≤ X.heap.size) := by rw [hX]; exact ⟨(Below.refl _ _).alloc (Nat.le_refl _) _, by have := HW.out.2.1; simp; omega⟩
  have HNW : Hid (∀ j u, [Value.int .u8 45][j]? = some u → X.cell? ((⟨w.heap.size + 1, 0, none⟩ : Addr).add j) = some u) := by rw [← HW.out.2.1, hX]; exact World.news_of_block (cs := #[.int .u8 45]) (t := 5) (fr := (0, 0)) (heap_alloc_new W _)
  go_enter Tryz.func103, Tryz.ntmps103
  go_wp2_with (at_builtin; rw [← hW, ← hX]; clear hW hX; refine wpList_append_own _ rfl _ _ 115 rfl w.heap.size 5 i0 (.int .u8 0) 1 1 Tryz.underlying115 hi hz0 hz1 hz2 rfl (by decide) (.slice none 0 0) 0 [] rfl (World.ownsRow_nil _ _ _ _) ⟨w.heap.size + 1, 0, none⟩ 1 1 [.int .u8 45] rfl rfl HNW.out (by simp [Value.oneCell']) (by unfold maxLen; omega) (by omega) HX.out.2 ?_; intro v0 Y hown0 hgrow0 hnil0)
  obtain ⟨vo, vc, rfl, _⟩ := owns_slice hown0
  have hkY : KeepT W Y := (KeepT.below HX.out.1).trans (KeepT.grown (World.ownsRow_nil X w.heap.size 5 1) hgrow0)
  have HY : Hid (Y.ownsRow w.heap.size 5 1 (.slice vo 1 vc) ([45] : List Int).length (([45] : List Int).map (Value.int .u8)) ∧ Below w.heap.size w Y ∧ Pow10B w.heap.size Y ∧ RowAt Y .u64 ao len cap (mag n)) := by
    have hbWY : Below W.heap.size W Y := (HX.out.1).grown hgrow0 HX.out.1.size (fun k hk => by cases hk)
    exact ⟨hown0, bnext HW.out.1 hbWY, HW.out.2.2.2.on (hbWY.mono HW.out.1.size), HR.out.later hbWY⟩
  clear hown0 hgrow0 hnil0
  obtain ⟨hc9, hc0⟩ := KS.out Y hkY
  have htens := tensUpTo_any ao len cap n Y.drew (HY.out.2.2.2.later (Below.refl _ _).drew) hl
  go_wp2
  go_region_with (first
      | (go_at_call 132; refine htens.mono ?_; rintro e w1 ⟨tv, m, rfl, hT, hn, _, hb1⟩; obtain ⟨xs, ho, _⟩ := hT.row; obtain ⟨tt0, tc, rfl, _⟩ := owns_slice ho; have hk1 : KeepT Y w1 := (KeepT.below (Below.refl _ _).drew).trans (KeepT.below hb1); have HT : Hid (TensAt Y.drew.heap.size w1 (.slice tt0 m tc) m 2000 ∧ n < ten m ∧ Below Y.heap.size Y w1 ∧ 19 * 2 ^ m ≤ 300000) := ⟨hT, hn, bnext (Below.refl _ _).drew hb1, tens_small hT⟩; clear hT hn hb1 ho; obtain ⟨hc8, hc1⟩ := KS.out _ (hkY.trans hk1))
      | (go_at_call 131; refine (appendDecimal_any m w.heap.size Y.drew.heap.size (.slice vo 1 vc) [45] ao len cap n tt0 tc false w1 (owns_later HY.out.1 HT.out.2.2.1) (Nat.le_trans HY.out.2.1.size HT.out.2.2.1.size) (HY.out.2.2.2.later HT.out.2.2.1) (by omega) HT.out.2.1 HT.out.1 (by have := HT.out.2.2.2; simp; omega) (HY.out.2.2.1.on (HT.out.2.2.1.mono HY.out.2.1.size))).mono ?_; rintro e w2 ⟨v2, rfl, hown2, hb2, hk2⟩; obtain ⟨N, hN⟩ : ∃ N : Nat, N = ([45] ++ decT false (19 * 2 ^ m) n).length := ⟨_, rfl⟩; rw [← hN] at hown2; obtain ⟨g2, c2, rfl, hcv⟩ := conv_owns hown2 hN (by rw [hN]; simp); clear hN; have HB2 : Hid (Below w.heap.size w w2) := (bnext HY.out.2.1 HT.out.2.2.1).trans hb2; clear hown2))
  all_goals go_wp2
  all_goals go_ret
  all_goals exact ⟨rfl, HB2.out⟩
/-- big's text of a number -/
theorem decimal_any (neg : Bool) (ao : Option Addr) (len cap : Nat) (a : Int) (w : World) (hx : IntAt w neg ao len cap a) (hl : len ≤ 1000) (htab : Pow10 w) :
    Calls Tryz.prog 103 #[.agg #[.bool neg, .slice ao len cap]] w fun e w' => e = .returned (.string (strOfNums (itext a))) ∧ Below w.heap.size w w' := by
  have hs := hx.sg
  unfold itext
  by_cases h : a < 0
  · obtain rfl : neg = true := by rw [hs]; exact decide_eq_true h
    rw [if_pos h]
    exact decimal_neg ao len cap a.natAbs w hx.row hl htab
  · obtain rfl : neg = false := by rw [hs]; exact decide_eq_false h
    rw [if_neg h]
    exact decimal_pos ao len cap a.natAbs w hx.row hl htab
set_option maxRecDepth 100000 in
set_option maxHeartbeats 1000000 in
theorem btext_any (neg : Bool) (ao : Option Addr) (len cap : Nat) (a : Int) (w : World) (hx : IntAt w neg ao len cap a) (hl : len ≤ 1000) (htab : Pow10 w) :
    Calls Tryz.prog 60 #[.agg #[.bool neg, .slice ao len cap]] w fun e w' => e = .returned (.string (strOfNums (itext a))) ∧ Below w.heap.size w w' := by
  obtain ⟨W, hW⟩ : ∃ W, W = w.alloc (.cells #[.bool neg, .slice ao len cap] 26) := ⟨_, rfl⟩
  have HW : Hid (Below w.heap.size w W ∧ Boxed W w.heap.size neg ao len cap ∧ w.heap.size < W.heap.size) := by rw [hW]; exact ⟨(Below.refl _ _).alloc (Nat.le_refl _) _, ⟨by simp [go_sem], by simp [go_sem]⟩, by simp⟩
  have HX : Hid (IntAt W neg ao len cap a ∧ Pow10 W) := ⟨hx.later HW.out.1, htab.later HW.out.1⟩
  have hM : Hid ((if mayB neg (mag a.natAbs) then 0 else 10 : Int) = 0) := hx.may
  clear hx htab
  go_enter Tryz.func60, Tryz.ntmps60
  go_wp2_with (first
    | (go_at_call 51; rw [← hW]; clear hW; refine (check_at neg ao len cap _ _ HX.out.1.row (by omega) 0 hM.out).mono ?_; rintro e w1 ⟨rfl, hb1⟩; obtain ⟨q0, q1⟩ := HW.out.2.1.later hb1 HW.out.2.2)
    | (go_at_call 103; refine (decimal_any neg ao len cap a w1 (HX.out.1.later hb1) hl (HX.out.2.later hb1)).mono ?_; rintro e w2 ⟨rfl, hb2⟩))
  go_ret
  exact ⟨rfl, bnext HW.out.1 (bnext hb1 hb2)⟩
end Go.Proofs.YtiiefpnkpfliiaaGreatDoor
/- Walks: the page's Text. -/
namespace Go.Proofs.YtiiefpnkpfliiaaGreatDoor
open Go.RowKit
set_option linter.unusedVariables false
set_option linter.unusedSimpArgs false
theorem dnums_len {n l : Nat} (h : l = (mag n).length) : (dnums n).length ≤ 20 * l + 1 := by
  have h1 : n < 18446744073709551616 ^ l := by
    have h2 := val_lt (q := 18446744073709551616) (by decide) (mag_wd n)
    rw [mag_val, ← h] at h2
    have h3 : ((18446744073709551616 ^ l : Nat) : Int) = (18446744073709551616 : Int) ^ l := by rw [Int.natCast_pow]; rfl
    rw [← h3] at h2
    exact Int.ofNat_lt.1 h2
  have h2 : 18446744073709551616 ^ l ≤ 10 ^ (20 * l) := by
    rw [Nat.pow_mul]
    exact Nat.pow_le_pow_left (by decide) _
  have h3 : 10 ^ (20 * l) ≤ 10 ^ (20 * l + 1) := Nat.pow_le_pow_right (by decide) (by omega)
  exact (dpad_is (20 * l) (u := n) (by omega)).1
end Go.Proofs.YtiiefpnkpfliiaaGreatDoor
/- A number's text is a text of digits, and tells that number. -/
namespace Go.Proofs.YtiiefpnkpfliiaaGreatDoor
open Go.RowKit
set_option linter.unusedVariables false
set_option linter.unusedSimpArgs false
theorem byteAt_nums {xs : List Int} (h : Byt xs) {k : Nat} (hk : k < xs.length) : byteAt (strOfNums xs) k = (xs.getD k 0).toNat := by
  have hs : k < (strOfNums xs).size := by rw [strOfNums_size]; exact hk
  rw [byteAt_of hs]
  have e : (strOfNums xs)[k] = UInt8.ofNat (xs[k]).toNat := by
    show (strOfNums xs).data[k] = _
    simp [strOfNums]
  rw [e, UInt8.toNat_ofNat']
  have h1 := h _ (List.getElem_mem hk)
  have h2 : xs.getD k 0 = xs[k] := by simp [List.getD, hk]
  rw [h2]
  omega
theorem Byt.left {xs ys : List Int} (h : Byt (xs ++ ys)) : Byt xs := fun x hx => h x (List.mem_append_left _ hx)
theorem decVal_pre {xs ys : List Int} (h : Byt (xs ++ ys)) : ∀ {k : Nat}, k ≤ xs.length → decVal (strOfNums (xs ++ ys)) k = decVal (strOfNums xs) k := by
  intro k
  induction k with
  | zero => intro _; rfl
  | succ k ih =>
    intro hk
    rw [decVal, decVal, ih (by omega), byteAt_nums h (by simp; omega), byteAt_nums h.left (by omega)]
    have e : (xs ++ ys).getD k 0 = xs.getD k 0 := by
      rw [List.getD_eq_getElem?_getD, List.getD_eq_getElem?_getD, List.getElem?_append_left (by omega)]
    rw [e]
theorem dnums_tells : ∀ (b n : Nat), n ≤ b → decVal (strOfNums (dnums n)) (dnums n).length = n ∧ (∀ x ∈ dnums n, 48 ≤ x ∧ x ≤ 57) ∧ (n ≠ 0 → (dnums n).getD 0 0 ≠ 48) := by
  intro b
  induction b with
  | zero =>
    intro n hn
    obtain rfl : n = 0 := by omega
    refine ⟨by decide, fun x hx => ?_, fun h => absurd rfl h⟩
    simp [dnums] at hx; omega
  | succ b ih =>
    intro n hn
    by_cases h : n < 10
    · rw [dnums_one h]
      refine ⟨?_, fun x hx => ?_, fun h0 => ?_⟩
      · show decVal _ 1 = n
        rw [decVal, decVal, byteAt_nums (fun x hx => by simp at hx; omega) (by simp)]
        simp
        omega
      · simp at hx; omega
      · simp; omega
    · obtain ⟨h1, h2, h3⟩ := ih (n / 10) (by omega)
      have hb : Byt (dnums (n / 10) ++ [48 + ((n % 10 : Nat) : Int)]) := by rw [← dnums_low (by omega)]; exact dnums_byt n
      rw [dnums_low (by omega)]
      refine ⟨?_, fun x hx => ?_, fun _ => ?_⟩
      · rw [List.length_append, List.length_singleton, decVal, decVal_pre hb (Nat.le_refl _), h1, byteAt_nums hb (by simp)]
        have e : (dnums (n / 10) ++ [48 + ((n % 10 : Nat) : Int)]).getD (dnums (n / 10)).length 0 = 48 + ((n % 10 : Nat) : Int) := by
          rw [List.getD_eq_getElem?_getD, List.getElem?_append_right (Nat.le_refl _)]; simp
        rw [e]
        omega
      · rcases List.mem_append.1 hx with hx | hx
        · exact h2 x hx
        · simp at hx; omega
      · have e : (dnums (n / 10) ++ [48 + ((n % 10 : Nat) : Int)]).getD 0 0 = (dnums (n / 10)).getD 0 0 := by
          rw [List.getD_eq_getElem?_getD, List.getD_eq_getElem?_getD, List.getElem?_append_left (dnums_pos _)]
        rw [e]; exact h3 (by omega)
theorem dnums_dig {n : Nat} (h : (dnums n).length ≤ 1024) : Dig (strOfNums (dnums n)) ∧ decVal (strOfNums (dnums n)) (strOfNums (dnums n)).size = n ∧ byteAt (strOfNums (dnums n)) 0 ≠ 45 := by
  obtain ⟨h1, h2, h3⟩ := dnums_tells n n (Nat.le_refl _)
  have hb := dnums_byt n
  have hp := dnums_pos n
  have h0 := byteAt_nums hb hp
  have hm : ∀ j, j < (dnums n).length → 48 ≤ (dnums n).getD j 0 ∧ (dnums n).getD j 0 ≤ 57 := fun j hj => by
    have e : (dnums n).getD j 0 = (dnums n)[j] := by simp [List.getD, hj]
    rw [e]; exact h2 _ (List.getElem_mem hj)
  refine ⟨⟨fun j hj => ?_, by rw [strOfNums_size]; exact hp, by rw [strOfNums_size]; exact h, fun e => ?_⟩, by rw [strOfNums_size]; exact h1, ?_⟩
  · rw [strOfNums_size] at hj
    rw [byteAt_nums hb hj]
    have := hm j hj
    omega
  · rw [strOfNums_size]
    by_cases hn : n = 0
    · subst hn; rfl
    · exfalso
      rw [h0] at e
      have := hm 0 hp
      exact h3 hn (by omega)
  · rw [h0]
    have := hm 0 hp
    omega
theorem minus_signed (T : List Int) : Signed (strOfNums (45 :: T)) ∧ (strOfNums (45 :: T)).extract 1 (strOfNums (45 :: T)).size = strOfNums T := by
  refine ⟨⟨by rw [strOfNums_size]; simp, ?_⟩, ?_⟩
  · have hs : 0 < (strOfNums (45 :: T)).size := by rw [strOfNums_size]; simp
    rw [byteAt_of hs]
    have e : (strOfNums (45 :: T))[0] = 45 := by
      show (strOfNums (45 :: T)).data[0] = _
      simp [strOfNums]
    rw [e]; rfl
  · apply ByteArray.ext
    rw [ByteArray.data_extract, strOfNums_size]
    apply Array.toList_inj.1
    simp [strOfNums]
    exact List.take_of_length_le (by simp)
/-- a number's text is read as that number -/
theorem bparse_text (a : Int) (w : World) (hl : (dnums a.natAbs).length ≤ 1024) :
    Calls Tryz.prog 138 #[.string (strOfNums (itext a))] w fun e w' => ∃ n ao l c, e = .returned (.tuple #[.agg #[.bool n, .slice ao l c], .int .i64 0]) ∧ IntAt w' n ao l c a ∧ Below w.heap.size w w' := by
  obtain ⟨h1, h2, h3⟩ := dnums_dig hl
  have hsz : (strOfNums (itext a)).size ≤ 9223372036854775807 := by
    rw [strOfNums_size]; unfold itext; split <;> simp <;> omega
  by_cases h : a < 0
  · have e : itext a = 45 :: dnums a.natAbs := by unfold itext; rw [if_pos h]; rfl
    obtain ⟨s1, s2⟩ := minus_signed (dnums a.natAbs)
    rw [e] at hsz ⊢
    refine (bparse_neg _ w hsz s1).mono fun e' w' hp => ?_
    rw [s2] at hp
    rcases hp.2 with ⟨n, ao, l, c, he, _, _, hi⟩ | ⟨_, hno⟩
    · rw [h2] at hi
      have e2 : sgn true a.natAbs = a := by unfold sgn; rw [if_pos rfl]; omega
      rw [e2] at hi
      exact ⟨n, ao, l, c, he, hi, hp.1⟩
    · exact absurd ⟨h1, fun _ => by rw [h2]; omega⟩ hno
  · have e : itext a = dnums a.natAbs := by unfold itext; rw [if_neg h]; rfl
    rw [e] at hsz ⊢
    refine (bparse_plain _ w hsz (fun hs => h3 hs.2)).mono fun e' w' hp => ?_
    rcases hp.2 with ⟨n, ao, l, c, he, _, _, hi⟩ | ⟨_, hno⟩
    · rw [h2] at hi
      have e2 : sgn false a.natAbs = a := by unfold sgn; rw [if_neg (by decide)]; omega
      rw [e2] at hi
      exact ⟨n, ao, l, c, he, hi, hp.1⟩
    · exact absurd ⟨h1, fun hf => by cases hf⟩ hno
end Go.Proofs.YtiiefpnkpfliiaaGreatDoor
/-
  Walks: a text is cut at its first bar.
-/
namespace Go.Proofs.YtiiefpnkpfliiaaGreatDoor
open Go.RowKit
set_option linter.unusedVariables false
set_option linter.unusedSimpArgs false
def renIB : Go.Shelf.Ren := ⟨fun x => if x = 217 then 189 else 203, fun x => if x = 3 then 3 else if x = 5 then 5 else 9, fun x => x⟩
theorem lays217 : Lays.n217 Tryz.prog renIB := by
  constructor <;> first | (intro w; kernel_rfl) | kernel_rfl
theorem indexByte_at {X Y : List UInt8} {c : UInt8} (h : c ∉ X) : Lib.indexByte (X ++ c :: Y) c = (X.length : Int) := by
  induction X with
  | nil => simp [Lib.indexByte]
  | cons b l ih =>
    have h1 : c ∉ l := fun e => h (List.mem_cons_of_mem _ e)
    have h2 : (b == c) = false := by
      apply beq_false_of_ne
      intro e; subst e; exact h List.mem_cons_self
    rw [List.cons_append, Lib.indexByte, h2, ih h1]
    have : (((l.length : Int)) == -1) = false := by simp
    simp [this]
theorem indexByte_no {X : List UInt8} {c : UInt8} (h : c ∉ X) : Lib.indexByte X c = -1 := by
  induction X with
  | nil => rfl
  | cons b l ih =>
    have h1 : c ∉ l := fun e => h (List.mem_cons_of_mem _ e)
    have h2 : (b == c) = false := by
      apply beq_false_of_ne
      intro e; subst e; exact h List.mem_cons_self
    rw [Lib.indexByte, h2, ih h1]
    rfl
set_option maxRecDepth 100000 in
set_option maxHeartbeats 1000000 in
theorem indexOne_any (s : ByteArray) (w : World) (i : Int) (hi : Lib.indexByte s.data.toList 47 = i) :
    Calls Tryz.prog 171 #[.string s, .string ⟨#[47]⟩] w fun e w' => e = .returned (.int .i64 i) ∧ w' = w := by
  have hcon : ∀ X, Calls Tryz.prog 189 #[.string s, .int .u8 47] X fun e w' => e = .returned (.int .i64 i) ∧ w' = X := fun X => by
    have := Any.stringslite_IndexByte lays217 s 47 X
    rw [show (Int.toNat 47).toUInt8 = 47 from rfl, hi] at this
    exact this
  by_cases hs : s = ⟨#[47]⟩
  · subst hs
    obtain rfl : i = 0 := by rw [← hi]; rfl
    clear hi hcon
    go_enter Tryz.func171, Tryz.ntmps171
    go_wp2
    go_ret
    exact ⟨rfl, rfl⟩
  · have hne : (([47] : List UInt8) == s.toList) = false := by
      apply beq_false_of_ne
      intro e
      rw [Lib.toList_data] at e
      exact hs (ByteArray.ext (Array.toList_inj.1 e.symm))
    clear hs hi
    go_enter Tryz.func171, Tryz.ntmps171
    go_wp2_with (go_at_call 189; refine (hcon _).mono ?_; rintro e w1 ⟨rfl, rfl⟩)
    go_ret
    exact ⟨rfl, rfl⟩
set_option maxRecDepth 100000 in
set_option maxHeartbeats 1000000 in
theorem cutLite_hit (s x y : ByteArray) (n : Nat) (w : World) (hn : Lib.indexByte s.data.toList 47 = (n : Int)) (hl : n + 1 ≤ s.size) (hs : s.size ≤ 9223372036854775807) (hx : s.extract 0 n = x) (hy : s.extract (n + 1) s.size = y) :
    Calls Tryz.prog 151 #[.string s, .string ⟨#[47]⟩] w fun e w' => e = .returned (.tuple #[.string x, .string y, .bool true]) ∧ Below w.heap.size w w' := by
  have hcon := indexOne_any s w (n : Int) hn
  have c1 : (0 : Int) ≤ ↑n := by omega
  have c2 : (↑n : Int) ≤ ↑s.size := by omega
  have c3 : (0 : Int) ≤ ↑n + 1 := by omega
  have c4 : (↑n + 1 : Int) ≤ ↑s.size := by omega
  have c5 : IntKind.i64.wrap ((n : Int) + 1) = (n : Int) + 1 := by rw [IntKind.wrap_i64]; omega
  have c6 : ((n : Int) + 1).toNat = n + 1 := by omega
  have hb : Below w.heap.size w w.drew := (Below.refl _ _).drew
  clear hn
  go_enter Tryz.func151, Tryz.ntmps151
  go_wp2_with (go_at_call 171; refine hcon.mono ?_; rintro e w1 ⟨rfl, hw1⟩; replace hw1 := hw1.symm; subst hw1)
  go_quiet (fail)
  go_wp2
  go_ret3
  exact ⟨rfl, below_drewN (Below.refl _ _) _⟩
set_option maxRecDepth 100000 in
set_option maxHeartbeats 1000000 in
theorem cutLite_miss (s : ByteArray) (w : World) (hn : Lib.indexByte s.data.toList 47 = -1) :
    Calls Tryz.prog 151 #[.string s, .string ⟨#[47]⟩] w fun e w' => e = .returned (.tuple #[.string s, .string ⟨#[]⟩, .bool false]) ∧ Below w.heap.size w w' := by
  have hcon := indexOne_any s w (-1) hn
  clear hn
  go_enter Tryz.func151, Tryz.ntmps151
  go_wp2_with (go_at_call 171; refine hcon.mono ?_; rintro e w1 ⟨rfl, hw1⟩; replace hw1 := hw1.symm; subst hw1)
  go_ret3
  exact ⟨rfl, Below.refl _ _⟩
theorem bar_mem {x : ByteArray} {X Y : List UInt8} (e : x.data.toList = X ++ 47 :: Y) : x.extract 0 X.length = ⟨X.toArray⟩ ∧ x.extract (X.length + 1) x.size = ⟨Y.toArray⟩ ∧ X.length + 1 ≤ x.size := by
  have hs : x.size = X.length + 1 + Y.length := by
    have : x.size = x.data.toList.length := by rw [Array.length_toList]; rfl
    rw [this, e]; simp; omega
  refine ⟨?_, ?_, by omega⟩
  · apply ByteArray.ext
    rw [ByteArray.data_extract]
    apply Array.toList_inj.1
    simp [e]
  · apply ByteArray.ext
    rw [ByteArray.data_extract]
    apply Array.toList_inj.1
    rw [hs]
    simp [e]
set_option maxRecDepth 100000 in
set_option maxHeartbeats 1000000 in
theorem cut_hit (s : ByteArray) (X Y : List UInt8) (w : World) (e : s.data.toList = X ++ 47 :: Y) (h : (47 : UInt8) ∉ X) (hs : s.size ≤ 9223372036854775807) :
    Calls Tryz.prog 137 #[.string s, .string ⟨#[47]⟩] w fun e w' => e = .returned (.tuple #[.string ⟨X.toArray⟩, .string ⟨Y.toArray⟩, .bool true]) ∧ Below w.heap.size w w' := by
  obtain ⟨h1, h2, h3⟩ := bar_mem e
  have hcon := cutLite_hit s ⟨X.toArray⟩ ⟨Y.toArray⟩ X.length w (by rw [e]; exact indexByte_at h) h3 hs h1 h2
  generalize (⟨X.toArray⟩ : ByteArray) = x at hcon ⊢
  generalize (⟨Y.toArray⟩ : ByteArray) = y at hcon ⊢
  clear h1 h2 e
  go_enter Tryz.func137, Tryz.ntmps137
  go_wp2_with (go_at_call 151; refine hcon.mono ?_; rintro e w1 ⟨rfl, hb1⟩)
  go_ret3
  exact ⟨rfl, hb1⟩
set_option maxRecDepth 100000 in
set_option maxHeartbeats 1000000 in
theorem cut_miss (s : ByteArray) (w : World) (h : (47 : UInt8) ∉ s.data.toList) :
    Calls Tryz.prog 137 #[.string s, .string ⟨#[47]⟩] w fun e w' => e = .returned (.tuple #[.string s, .string ⟨#[]⟩, .bool false]) ∧ Below w.heap.size w w' := by
  have hcon := cutLite_miss s w (indexByte_no h)
  clear h
  go_enter Tryz.func137, Tryz.ntmps137
  go_wp2_with (go_at_call 151; refine hcon.mono ?_; rintro e w1 ⟨rfl, hb1⟩)
  go_ret3
  exact ⟨rfl, hb1⟩
end Go.Proofs.YtiiefpnkpfliiaaGreatDoor
