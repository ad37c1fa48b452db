/-
  IF, IG, IH.
-/
import Derived.Test.YtiiefpnkpfliiaaGreatDoorPB15
import Derived.Test.YtiiefpnkpfliiaaGreatDoorPB17
import Derived.Test.YtiiefpnkpfliiaaGreatDoorPB18
import Derived.Deep.RegionHeld3
import Derived.Shelf.Strings.Search1
import Derived.Lib.IndexLaws
import Derived.Deep.DeepCutAuto
/- Walks: decimal, Text; the page's Text; a number's text is read as that number. -/
namespace Go.Proofs.YtiiefpnkpfliiaaGreatDoor
open Go.RowKit
set_option linter.unusedVariables false
set_option linter.unusedSimpArgs false
/-- a number's text -/
def itext (a : Int) : List Int := (if a < 0 then [45] else []) ++ dnums a.natAbs
theorem dnums_pos (n : Nat) : 0 < (dnums n).length := by
  by_cases h : n < 10
  · rw [dnums_one h]; simp
  · rw [dnums_low (by omega)]; simp
theorem conv_owns {B n : Nat} {w : World} {v : Value} {T : List Int} (h : w.ownsRow B 5 1 v n (T.map (Value.int .u8))) (hn : n = T.length) (hp : 0 < n) : ∃ g cap, v = .slice (some ⟨g, 0, none⟩) n cap ∧ (convert 115 9 (.slice (some ⟨g, 0, none⟩) n cap)).run Tryz.prog w = .ok (.string (strOfNums T)) w := by
  obtain ⟨ao, cap, hv, hrow⟩ := row_of_owns hn.symm h
  obtain ⟨g', o', ha, _, hc⟩ := hrow.get hp
  rcases h.2 with ⟨hv', h0⟩ | ⟨g, cap', cur, hv', _⟩
  · omega
  · rw [hv] at hv'
    simp only [Value.slice.injEq] at hv'
    obtain ⟨ha', _, hcc⟩ := hv'
    subst hcc
    rw [ha] at ha'
    cases ha'
    refine ⟨g', cap, hv.trans (by rw [ha]), ?_⟩
    exact run_convert_bytes_arg w _ 5 Tryz.underlying115 Tryz.underlying5 g' 0 n cap T hn.symm (fun i hi => hc i hi) _ Tryz.underlying9
theorem tens_small {B m : Nat} {w : World} {v : Value} (h : TensAt B w v m 2000) : 19 * 2 ^ m ≤ 300000 := by
  cases m with
  | zero => decide
  | succ m =>
    obtain ⟨xs, ho, hx⟩ := h.row
    obtain ⟨o, l, c, h1, h2, h3⟩ := hx m (Nat.lt_succ_self m)
    have h4 : (mag (ten m)).length ≤ 2000 := by rw [← h2.row.hlen]; exact h3
    obtain ⟨K, hK⟩ : ∃ K : Nat, K = 128000 := ⟨_, rfl⟩
    have h5 : ten m < 2 ^ K := by
      have h := val_lt (q := 18446744073709551616) (by decide) (mag_wd (ten m))
      rw [mag_val] at h
      have h6 : ((2 ^ (64 * (mag (ten m)).length) : Nat) : Int) = (18446744073709551616 : Int) ^ (mag (ten m)).length := by rw [Nat.pow_mul, Int.natCast_pow]; rfl
      rw [← h6] at h
      exact Nat.lt_of_lt_of_le (Int.ofNat_lt.1 h) (Nat.pow_le_pow_right (by decide) (by omega))
    have h7 : 2 ^ (19 * 2 ^ m) ≤ ten m := Nat.pow_le_pow_left (by decide) _
    have h8 : 19 * 2 ^ m < K := (Nat.pow_lt_pow_iff_right (by decide)).1 (Nat.lt_of_le_of_lt h7 h5)
    rw [nineteen]; omega
set_option maxRecDepth 100000 in
set_option maxHeartbeats 3000000 in
theorem decimal_pos (ao : Option Addr) (len cap n : Nat) (w : World) (hr : RowAt w .u64 ao len cap (mag n)) (hl : len ≤ 1000) (htab : Pow10 w) :
    Calls Tryz.prog 103 #[.agg #[.bool false, .slice ao len cap]] w fun e w' => e = .returned (.string (strOfNums (dnums n))) ∧ Below w.heap.size w w' := by
  obtain ⟨W, hW⟩ : ∃ W, W = w.alloc (.cells #[.bool false, .slice ao len cap] 26) := ⟨_, rfl⟩
  have HW : Hid (Below w.heap.size w W ∧ W.heap.size = w.heap.size + 1 ∧ W.heap[w.heap.size]? = some (.cells #[.bool false, .slice ao len cap] 26 (0, 0)) ∧ Pow10B w.heap.size W) := by
    rw [hW]
    exact ⟨(Below.refl _ _).alloc (Nat.le_refl _) _, by simp, heap_alloc_new w _, (Lib.tabBelow_of_tabIs htab).on ((Below.refl _ _).alloc (Nat.le_refl _) _)⟩
  have HR : Hid (RowAt W .u64 ao len cap (mag n)) := hr.later HW.out.1
  have KS : Hid (∀ w' : World, KeepT W w' → w'.cell? ⟨w.heap.size, 1, none⟩ = some (.slice ao len cap)) := fun w' hk => by
    have := hk.2 _ _ _ _ HW.out.2.2.1 (by decide)
    simp [World.cell?, this]
  have htens := tensUpTo_any ao len cap n W.drew (HR.out.later (Below.refl _ _).drew) hl
  clear hr htab
  go_enter Tryz.func103, Tryz.ntmps103
  go_wp2
  rw [← hW]
  clear hW
  have hc0 := KS.out W (KeepT.refl W)
  go_region_with (first
      | (go_at_call 132; refine htens.mono ?_; rintro e w1 ⟨tv, m, rfl, hT, hn, _, hb1⟩; obtain ⟨xs, ho, _⟩ := hT.row; obtain ⟨tt0, tc, rfl, _⟩ := owns_slice ho; have hk1 : KeepT W w1 := (KeepT.below (Below.refl _ _).drew).trans (KeepT.below hb1); have HT : Hid (TensAt W.drew.heap.size w1 (.slice tt0 m tc) m 2000 ∧ n < ten m ∧ Below W.heap.size W w1 ∧ 19 * 2 ^ m ≤ 300000) := ⟨hT, hn, bnext (Below.refl _ _).drew hb1, tens_small hT⟩; clear hT hn hb1 ho; have hc1 := KS.out _ hk1)
      | (go_at_call 131; refine (appendDecimal_any m w.heap.size W.drew.heap.size (.slice none 0 0) [] ao len cap n tt0 tc false w1 (World.ownsRow_nil _ _ _ _) (Nat.le_trans HW.out.1.size HT.out.2.2.1.size) (HR.out.later HT.out.2.2.1) (by omega) HT.out.2.1 HT.out.1 (by have := HT.out.2.2.2; simp; omega) (HW.out.2.2.2.on (HT.out.2.2.1.mono HW.out.1.size))).mono ?_; rintro e w2 ⟨v2, rfl, hown2, hb2, hk2⟩; rw [List.nil_append] at hown2; obtain ⟨g2, c2, rfl, hcv⟩ := conv_owns hown2 rfl (dnums_pos n); have hk3 : KeepT W w2 := hk1.trans hk2; have HB2 : Hid (Below w.heap.size w w2) := (bnext HW.out.1 HT.out.2.2.1).trans hb2; clear hown2))
  all_goals go_wp2
  all_goals go_ret
  all_goals exact ⟨rfl, HB2.out⟩
set_option maxRecDepth 100000 in
set_option maxHeartbeats 2000000 in
theorem decimal_neg (ao : Option Addr) (len cap n : Nat) (w : World) (hr : RowAt w .u64 ao len cap (mag n)) (hl : len ≤ 1000) (htab : Pow10 w) :
    Calls Tryz.prog 103 #[.agg #[.bool true, .slice ao len cap]] w fun e w' => e = .returned (.string (strOfNums (45 :: dnums n))) ∧ Below w.heap.size w w' := by
  obtain ⟨i0, hi, hz0, hz1, hz2⟩ := info_parts info8
  obtain ⟨W, hW⟩ : ∃ W, W = w.alloc (.cells #[.bool true, .slice ao len cap] 26) := ⟨_, rfl⟩
  have HW : Hid (Below w.heap.size w W ∧ W.heap.size = w.heap.size + 1 ∧ W.heap[w.heap.size]? = some (.cells #[.bool true, .slice ao len cap] 26 (0, 0)) ∧ Pow10B w.heap.size W) := by
    rw [hW]
    exact ⟨(Below.refl _ _).alloc (Nat.le_refl _) _, by simp, heap_alloc_new w _, (Lib.tabBelow_of_tabIs htab).on ((Below.refl _ _).alloc (Nat.le_refl _) _)⟩
  have HR : Hid (RowAt W .u64 ao len cap (mag n)) := hr.later HW.out.1
  have KS : Hid (∀ w' : World, KeepT W w' → w'.cell? ⟨w.heap.size, 0, none⟩ = some (.bool true) ∧ w'.cell? ⟨w.heap.size, 1, none⟩ = some (.slice ao len cap)) := fun w' hk => by
    have := hk.2 _ _ _ _ HW.out.2.2.1 (by decide)
    simp [World.cell?, this]
  clear hr htab
  obtain ⟨X, hX⟩ : ∃ X, X = W.alloc (.cells #[.int .u8 45] 5) := ⟨_, rfl⟩
  have HX : Hid (Below W.heap.size W X ∧ w.heap.size ≤ X.heap.size) := by rw [hX]; exact ⟨(Below.refl _ _).alloc (Nat.le_refl _) _, by have := HW.out.2.1; simp; omega⟩
  have HNW : Hid (∀ j u, [Value.int .u8 45][j]? = some u → X.cell? ((⟨w.heap.size + 1, 0, none⟩ : Addr).add j) = some u) := by rw [← HW.out.2.1, hX]; exact World.news_of_block (cs := #[.int .u8 45]) (t := 5) (fr := (0, 0)) (heap_alloc_new W _)
  go_enter Tryz.func103, Tryz.ntmps103
  go_wp2_with (at_builtin; rw [← hW, ← hX]; clear hW hX; refine wpList_append_own _ rfl _ _ 115 rfl w.heap.size 5 i0 (.int .u8 0) 1 1 Tryz.underlying115 hi hz0 hz1 hz2 rfl (by decide) (.slice none 0 0) 0 [] rfl (World.ownsRow_nil _ _ _ _) ⟨w.heap.size + 1, 0, none⟩ 1 1 [.int .u8 45] rfl rfl HNW.out (by simp [Value.oneCell']) (by unfold maxLen; omega) (by omega) HX.out.2 ?_; intro v0 Y hown0 hgrow0 hnil0)
  obtain ⟨vo, vc, rfl, _⟩ := owns_slice hown0
  have hkY : KeepT W Y := (KeepT.below HX.out.1).trans (KeepT.grown (World.ownsRow_nil X w.heap.size 5 1) hgrow0)
  have HY : Hid (Y.ownsRow w.heap.size 5 1 (.slice vo 1 vc) ([45] : List Int).length (([45] : List Int).map (Value.int .u8)) ∧ Below w.heap.size w Y ∧ Pow10B w.heap.size Y ∧ RowAt Y .u64 ao len cap (mag n)) := by
    have hbWY : Below W.heap.size W Y := (HX.out.1).grown hgrow0 HX.out.1.size (fun k hk => by cases hk)
    exact ⟨hown0, bnext HW.out.1 hbWY, HW.out.2.2.2.on (hbWY.mono HW.out.1.size), HR.out.later hbWY⟩
  clear hown0 hgrow0 hnil0
  obtain ⟨hc9, hc0⟩ := KS.out Y hkY
  have htens := tensUpTo_any ao len cap n Y.drew (HY.out.2.2.2.later (Below.refl _ _).drew) hl
  go_wp2
  go_region_with (first
      | (go_at_call 132; refine htens.mono ?_; rintro e w1 ⟨tv, m, rfl, hT, hn, _, hb1⟩; obtain ⟨xs, ho, _⟩ := hT.row; obtain ⟨tt0, tc, rfl, _⟩ := owns_slice ho; have hk1 : KeepT Y w1 := (KeepT.below (Below.refl _ _).drew).trans (KeepT.below hb1); have HT : Hid (TensAt Y.drew.heap.size w1 (.slice tt0 m tc) m 2000 ∧ n < ten m ∧ Below Y.heap.size Y w1 ∧ 19 * 2 ^ m ≤ 300000) := ⟨hT, hn, bnext (Below.refl _ _).drew hb1, tens_small hT⟩; clear hT hn hb1 ho; obtain ⟨hc8, hc1⟩ := KS.out _ (hkY.trans hk1))
      | (go_at_call 131; refine (appendDecimal_any m w.heap.size Y.drew.heap.size (.slice vo 1 vc) [45] ao len cap n tt0 tc false w1 (owns_later HY.out.1 HT.out.2.2.1) (Nat.le_trans HY.out.2.1.size HT.out.2.2.1.size) (HY.out.2.2.2.later HT.out.2.2.1) (by omega) HT.out.2.1 HT.out.1 (by have := HT.out.2.2.2; simp; omega) (HY.out.2.2.1.on (HT.out.2.2.1.mono HY.out.2.1.size))).mono ?_; rintro e w2 ⟨v2, rfl, hown2, hb2, hk2⟩; obtain ⟨N, hN⟩ : ∃ N : Nat, N = ([45] ++ decT false (19 * 2 ^ m) n).length := ⟨_, rfl⟩; rw [← hN] at hown2; obtain ⟨g2, c2, rfl, hcv⟩ := conv_owns hown2 hN (by rw [hN]; simp); clear hN; have HB2 : Hid (Below w.heap.size w w2) := (bnext HY.out.2.1 HT.out.2.2.1).trans hb2; clear hown2))
  all_goals go_wp2
  all_goals go_ret
  all_goals exact ⟨rfl, HB2.out⟩
/-- big's text of a number -/
theorem decimal_any (neg : Bool) (ao : Option Addr) (len cap : Nat) (a : Int) (w : World) (hx : IntAt w neg ao len cap a) (hl : len ≤ 1000) (htab : Pow10 w) :
    Calls Tryz.prog 103 #[.agg #[.bool neg, .slice ao len cap]] w fun e w' => e = .returned (.string (strOfNums (itext a))) ∧ Below w.heap.size w w' := by
  have hs := hx.sg
  unfold itext
  by_cases h : a < 0
  · obtain rfl : neg = true := by rw [hs]; exact decide_eq_true h
    rw [if_pos h]
    exact decimal_neg ao len cap a.natAbs w hx.row hl htab
  · obtain rfl : neg = false := by rw [hs]; exact decide_eq_false h
    rw [if_neg h]
    exact decimal_pos ao len cap a.natAbs w hx.row hl htab
set_option maxRecDepth 100000 in
set_option maxHeartbeats 1000000 in
theorem btext_any (neg : Bool) (ao : Option Addr) (len cap : Nat) (a : Int) (w : World) (hx : IntAt w neg ao len cap a) (hl : len ≤ 1000) (htab : Pow10 w) :
    Calls Tryz.prog 60 #[.agg #[.bool neg, .slice ao len cap]] w fun e w' => e = .returned (.string (strOfNums (itext a))) ∧ Below w.heap.size w w' := by
  obtain ⟨W, hW⟩ : ∃ W, W = w.alloc (.cells #[.bool neg, .slice ao len cap] 26) := ⟨_, rfl⟩
  have HW : Hid (Below w.heap.size w W ∧ Boxed W w.heap.size neg ao len cap ∧ w.heap.size < W.heap.size) := by rw [hW]; exact ⟨(Below.refl _ _).alloc (Nat.le_refl _) _, ⟨by simp [go_sem], by simp [go_sem]⟩, by simp⟩
  have HX : Hid (IntAt W neg ao len cap a ∧ Pow10 W) := ⟨hx.later HW.out.1, htab.later HW.out.1⟩
  have hM : Hid ((if mayB neg (mag a.natAbs) then 0 else 10 : Int) = 0) := hx.may
  clear hx htab
  go_enter Tryz.func60, Tryz.ntmps60
  go_wp2_with (first
    | (go_at_call 51; rw [← hW]; clear hW; refine (check_at neg ao len cap _ _ HX.out.1.row (by omega) 0 hM.out).mono ?_; rintro e w1 ⟨rfl, hb1⟩; obtain ⟨q0, q1⟩ := HW.out.2.1.later hb1 HW.out.2.2)
    | (go_at_call 103; refine (decimal_any neg ao len cap a w1 (HX.out.1.later hb1) hl (HX.out.2.later hb1)).mono ?_; rintro e w2 ⟨rfl, hb2⟩))
  go_ret
  exact ⟨rfl, bnext HW.out.1 (bnext hb1 hb2)⟩
end Go.Proofs.YtiiefpnkpfliiaaGreatDoor
/- Walks: the page's Text. -/
namespace Go.Proofs.YtiiefpnkpfliiaaGreatDoor
open Go.RowKit
set_option linter.unusedVariables false
set_option linter.unusedSimpArgs false
theorem dnums_len {n l : Nat} (h : l = (mag n).length) : (dnums n).length ≤ 20 * l + 1 := by
  have h1 : n < 18446744073709551616 ^ l := by
    have h2 := val_lt (q := 18446744073709551616) (by decide) (mag_wd n)
    rw [mag_val, ← h] at h2
    have h3 : ((18446744073709551616 ^ l : Nat) : Int) = (18446744073709551616 : Int) ^ l := by rw [Int.natCast_pow]; rfl
    rw [← h3] at h2
    exact Int.ofNat_lt.1 h2
  have h2 : 18446744073709551616 ^ l ≤ 10 ^ (20 * l) := by
    rw [Nat.pow_mul]
    exact Nat.pow_le_pow_left (by decide) _
  have h3 : 10 ^ (20 * l) ≤ 10 ^ (20 * l + 1) := Nat.pow_le_pow_right (by decide) (by omega)
  exact (dpad_is (20 * l) (u := n) (by omega)).1
end Go.Proofs.YtiiefpnkpfliiaaGreatDoor
/- A number's text is a text of digits, and tells that number. -/
namespace Go.Proofs.YtiiefpnkpfliiaaGreatDoor
open Go.RowKit
set_option linter.unusedVariables false
set_option linter.unusedSimpArgs false
theorem byteAt_nums {xs : List Int} (h : Byt xs) {k : Nat} (hk : k < xs.length) : byteAt (strOfNums xs) k = (xs.getD k 0).toNat := by
  have hs : k < (strOfNums xs).size := by rw [strOfNums_size]; exact hk
  rw [byteAt_of hs]
  have e : (strOfNums xs)[k] = UInt8.ofNat (xs[k]).toNat := by
    show (strOfNums xs).data[k] = _
    simp [strOfNums]
  rw [e, UInt8.toNat_ofNat']
  have h1 := h _ (List.getElem_mem hk)
  have h2 : xs.getD k 0 = xs[k] := by simp [List.getD, hk]
  rw [h2]
  omega
theorem Byt.left {xs ys : List Int} (h : Byt (xs ++ ys)) : Byt xs := fun x hx => h x (List.mem_append_left _ hx)
theorem decVal_pre {xs ys : List Int} (h : Byt (xs ++ ys)) : ∀ {k : Nat}, k ≤ xs.length → decVal (strOfNums (xs ++ ys)) k = decVal (strOfNums xs) k := by
  intro k
  induction k with
  | zero => intro _; rfl
  | succ k ih =>
    intro hk
    rw [decVal, decVal, ih (by omega), byteAt_nums h (by simp; omega), byteAt_nums h.left (by omega)]
    have e : (xs ++ ys).getD k 0 = xs.getD k 0 := by
      rw [List.getD_eq_getElem?_getD, List.getD_eq_getElem?_getD, List.getElem?_append_left (by omega)]
    rw [e]
theorem dnums_tells : ∀ (b n : Nat), n ≤ b → decVal (strOfNums (dnums n)) (dnums n).length = n ∧ (∀ x ∈ dnums n, 48 ≤ x ∧ x ≤ 57) ∧ (n ≠ 0 → (dnums n).getD 0 0 ≠ 48) := by
  intro b
  induction b with
  | zero =>
    intro n hn
    obtain rfl : n = 0 := by omega
    refine ⟨by decide, fun x hx => ?_, fun h => absurd rfl h⟩
    simp [dnums] at hx; omega
  | succ b ih =>
    intro n hn
    by_cases h : n < 10
    · rw [dnums_one h]
      refine ⟨?_, fun x hx => ?_, fun h0 => ?_⟩
      · show decVal _ 1 = n
        rw [decVal, decVal, byteAt_nums (fun x hx => by simp at hx; omega) (by simp)]
        simp
        omega
      · simp at hx; omega
      · simp; omega
    · obtain ⟨h1, h2, h3⟩ := ih (n / 10) (by omega)
      have hb : Byt (dnums (n / 10) ++ [48 + ((n % 10 : Nat) : Int)]) := by rw [← dnums_low (by omega)]; exact dnums_byt n
      rw [dnums_low (by omega)]
      refine ⟨?_, fun x hx => ?_, fun _ => ?_⟩
      · rw [List.length_append, List.length_singleton, decVal, decVal_pre hb (Nat.le_refl _), h1, byteAt_nums hb (by simp)]
        have e : (dnums (n / 10) ++ [48 + ((n % 10 : Nat) : Int)]).getD (dnums (n / 10)).length 0 = 48 + ((n % 10 : Nat) : Int) := by
          rw [List.getD_eq_getElem?_getD, List.getElem?_append_right (Nat.le_refl _)]; simp
        rw [e]
        omega
      · rcases List.mem_append.1 hx with hx | hx
        · exact h2 x hx
        · simp at hx; omega
      · have e : (dnums (n / 10) ++ [48 + ((n % 10 : Nat) : Int)]).getD 0 0 = (dnums (n / 10)).getD 0 0 := by
          rw [List.getD_eq_getElem?_getD, List.getD_eq_getElem?_getD, List.getElem?_append_left (dnums_pos _)]
        rw [e]; exact h3 (by omega)
theorem dnums_dig {n : Nat} (h : (dnums n).length ≤ 1024) : Dig (strOfNums (dnums n)) ∧ decVal (strOfNums (dnums n)) (strOfNums (dnums n)).size = n ∧ byteAt (strOfNums (dnums n)) 0 ≠ 45 := by
  obtain ⟨h1, h2, h3⟩ := dnums_tells n n (Nat.le_refl _)
  have hb := dnums_byt n
  have hp := dnums_pos n
  have h0 := byteAt_nums hb hp
  have hm : ∀ j, j < (dnums n).length → 48 ≤ (dnums n).getD j 0 ∧ (dnums n).getD j 0 ≤ 57 := fun j hj => by
    have e : (dnums n).getD j 0 = (dnums n)[j] := by simp [List.getD, hj]
    rw [e]; exact h2 _ (List.getElem_mem hj)
  refine ⟨⟨fun j hj => ?_, by rw [strOfNums_size]; exact hp, by rw [strOfNums_size]; exact h, fun e => ?_⟩, by rw [strOfNums_size]; exact h1, ?_⟩
  · rw [strOfNums_size] at hj
    rw [byteAt_nums hb hj]
    have := hm j hj
    omega
  · rw [strOfNums_size]
    by_cases hn : n = 0
    · subst hn; rfl
    · exfalso
      rw [h0] at e
      have := hm 0 hp
      exact h3 hn (by omega)
  · rw [h0]
    have := hm 0 hp
    omega
theorem minus_signed (T : List Int) : Signed (strOfNums (45 :: T)) ∧ (strOfNums (45 :: T)).extract 1 (strOfNums (45 :: T)).size = strOfNums T := by
  refine ⟨⟨by rw [strOfNums_size]; simp, ?_⟩, ?_⟩
  · have hs : 0 < (strOfNums (45 :: T)).size := by rw [strOfNums_size]; simp
    rw [byteAt_of hs]
    have e : (strOfNums (45 :: T))[0] = 45 := by
      show (strOfNums (45 :: T)).data[0] = _
      simp [strOfNums]
    rw [e]; rfl
  · apply ByteArray.ext
    rw [ByteArray.data_extract, strOfNums_size]
    apply Array.toList_inj.1
    simp [strOfNums]
    exact List.take_of_length_le (by simp)
/-- a number's text is read as that number -/
theorem bparse_text (a : Int) (w : World) (hl : (dnums a.natAbs).length ≤ 1024) :
    Calls Tryz.prog 138 #[.string (strOfNums (itext a))] w fun e w' => ∃ n ao l c, e = .returned (.tuple #[.agg #[.bool n, .slice ao l c], .int .i64 0]) ∧ IntAt w' n ao l c a ∧ Below w.heap.size w w' := by
  obtain ⟨h1, h2, h3⟩ := dnums_dig hl
  have hsz : (strOfNums (itext a)).size ≤ 9223372036854775807 := by
    rw [strOfNums_size]; unfold itext; split <;> simp <;> omega
  by_cases h : a < 0
  · have e : itext a = 45 :: dnums a.natAbs := by unfold itext; rw [if_pos h]; rfl
    obtain ⟨s1, s2⟩ := minus_signed (dnums a.natAbs)
    rw [e] at hsz ⊢
    refine (bparse_neg _ w hsz s1).mono fun e' w' hp => ?_
    rw [s2] at hp
    rcases hp.2 with ⟨n, ao, l, c, he, _, _, hi⟩ | ⟨_, hno⟩
    · rw [h2] at hi
      have e2 : sgn true a.natAbs = a := by unfold sgn; rw [if_pos rfl]; omega
      rw [e2] at hi
      exact ⟨n, ao, l, c, he, hi, hp.1⟩
    · exact absurd ⟨h1, fun _ => by rw [h2]; omega⟩ hno
  · have e : itext a = dnums a.natAbs := by unfold itext; rw [if_neg h]; rfl
    rw [e] at hsz ⊢
    refine (bparse_plain _ w hsz (fun hs => h3 hs.2)).mono fun e' w' hp => ?_
    rcases hp.2 with ⟨n, ao, l, c, he, _, _, hi⟩ | ⟨_, hno⟩
    · rw [h2] at hi
      have e2 : sgn false a.natAbs = a := by unfold sgn; rw [if_neg (by decide)]; omega
      rw [e2] at hi
      exact ⟨n, ao, l, c, he, hi, hp.1⟩
    · exact absurd ⟨h1, fun hf => by cases hf⟩ hno
end Go.Proofs.YtiiefpnkpfliiaaGreatDoor
/-
  Walks: a text is cut at its first bar.
-/
namespace Go.Proofs.YtiiefpnkpfliiaaGreatDoor
open Go.RowKit
set_option linter.unusedVariables false
set_option linter.unusedSimpArgs false
def renIB : Go.Shelf.Ren := ⟨fun x => if x = 217 then 189 else 203, fun x => if x = 3 then 3 else if x = 5 then 5 else 9, fun x => x⟩
theorem lays217 : Lays.n217 Tryz.prog renIB := by
  constructor <;> first | (intro w; kernel_rfl) | kernel_rfl
theorem indexByte_at {X Y : List UInt8} {c : UInt8} (h : c ∉ X) : Lib.indexByte (X ++ c :: Y) c = (X.length : Int) := by
  induction X with
  | nil => simp [Lib.indexByte]
  | cons b l ih =>
    have h1 : c ∉ l := fun e => h (List.mem_cons_of_mem _ e)
    have h2 : (b == c) = false := by
      apply beq_false_of_ne
      intro e; subst e; exact h List.mem_cons_self
    rw [List.cons_append, Lib.indexByte, h2, ih h1]
    have : (((l.length : Int)) == -1) = false := by simp
    simp [this]
theorem indexByte_no {X : List UInt8} {c : UInt8} (h : c ∉ X) : Lib.indexByte X c = -1 := by
  induction X with
  | nil => rfl
  | cons b l ih =>
    have h1 : c ∉ l := fun e => h (List.mem_cons_of_mem _ e)
    have h2 : (b == c) = false := by
      apply beq_false_of_ne
      intro e; subst e; exact h List.mem_cons_self
    rw [Lib.indexByte, h2, ih h1]
    rfl
set_option maxRecDepth 100000 in
set_option maxHeartbeats 1000000 in
theorem indexOne_any (s : ByteArray) (w : World) (i : Int) (hi : Lib.indexByte s.data.toList 47 = i) :
    Calls Tryz.prog 171 #[.string s, .string ⟨#[47]⟩] w fun e w' => e = .returned (.int .i64 i) ∧ w' = w := by
  have hcon : ∀ X, Calls Tryz.prog 189 #[.string s, .int .u8 47] X fun e w' => e = .returned (.int .i64 i) ∧ w' = X := fun X => by
    have := Any.stringslite_IndexByte lays217 s 47 X
    rw [show (Int.toNat 47).toUInt8 = 47 from rfl, hi] at this
    exact this
  by_cases hs : s = ⟨#[47]⟩
  · subst hs
    obtain rfl : i = 0 := by rw [← hi]; rfl
    clear hi hcon
    go_enter Tryz.func171, Tryz.ntmps171
    go_wp2
    go_ret
    exact ⟨rfl, rfl⟩
  · have hne : (([47] : List UInt8) == s.toList) = false := by
      apply beq_false_of_ne
      intro e
      rw [Lib.toList_data] at e
      exact hs (ByteArray.ext (Array.toList_inj.1 e.symm))
    clear hs hi
    go_enter Tryz.func171, Tryz.ntmps171
    go_wp2_with (go_at_call 189; refine (hcon _).mono ?_; rintro e w1 ⟨rfl, rfl⟩)
    go_ret
    exact ⟨rfl, rfl⟩
set_option maxRecDepth 100000 in
set_option maxHeartbeats 1000000 in
theorem cutLite_hit (s x y : ByteArray) (n : Nat) (w : World) (hn : Lib.indexByte s.data.toList 47 = (n : Int)) (hl : n + 1 ≤ s.size) (hs : s.size ≤ 9223372036854775807) (hx : s.extract 0 n = x) (hy : s.extract (n + 1) s.size = y) :
    Calls Tryz.prog 151 #[.string s, .string ⟨#[47]⟩] w fun e w' => e = .returned (.tuple #[.string x, .string y, .bool true]) ∧ Below w.heap.size w w' := by
  have hcon := indexOne_any s w (n : Int) hn
  have c1 : (0 : Int) ≤ ↑n := by omega
  have c2 : (↑n : Int) ≤ ↑s.size := by omega
  have c3 : (0 : Int) ≤ ↑n + 1 := by omega
  have c4 : (↑n + 1 : Int) ≤ ↑s.size := by omega
  have c5 : IntKind.i64.wrap ((n : Int) + 1) = (n : Int) + 1 := by rw [IntKind.wrap_i64]; omega
  have c6 : ((n : Int) + 1).toNat = n + 1 := by omega
  have hb : Below w.heap.size w w.drew := (Below.refl _ _).drew
  clear hn
  go_enter Tryz.func151, Tryz.ntmps151
  go_wp2_with (go_at_call 171; refine hcon.mono ?_; rintro e w1 ⟨rfl, hw1⟩; replace hw1 := hw1.symm; subst hw1)
  go_quiet (fail)
  go_wp2
  go_ret3
  exact ⟨rfl, below_drewN (Below.refl _ _) _⟩
set_option maxRecDepth 100000 in
set_option maxHeartbeats 1000000 in
theorem cutLite_miss (s : ByteArray) (w : World) (hn : Lib.indexByte s.data.toList 47 = -1) :
    Calls Tryz.prog 151 #[.string s, .string ⟨#[47]⟩] w fun e w' => e = .returned (.tuple #[.string s, .string ⟨#[]⟩, .bool false]) ∧ Below w.heap.size w w' := by
  have hcon := indexOne_any s w (-1) hn
  clear hn
  go_enter Tryz.func151, Tryz.ntmps151
  go_wp2_with (go_at_call 171; refine hcon.mono ?_; rintro e w1 ⟨rfl, hw1⟩; replace hw1 := hw1.symm; subst hw1)
  go_ret3
  exact ⟨rfl, Below.refl _ _⟩
theorem bar_mem {x : ByteArray} {X Y : List UInt8} (e : x.data.toList = X ++ 47 :: Y) : x.extract 0 X.length = ⟨X.toArray⟩ ∧ x.extract (X.length + 1) x.size = ⟨Y.toArray⟩ ∧ X.length + 1 ≤ x.size := by
  have hs : x.size = X.length + 1 + Y.length := by
    have : x.size = x.data.toList.length := by rw [Array.length_toList]; rfl
    rw [this, e]; simp; omega
  refine ⟨?_, ?_, by omega⟩
  · apply ByteArray.ext
    rw [ByteArray.data_extract]
    apply Array.toList_inj.1
    simp [e]
  · apply ByteArray.ext
    rw [ByteArray.data_extract]
    apply Array.toList_inj.1
    rw [hs]
    simp [e]
set_option maxRecDepth 100000 in
set_option maxHeartbeats 1000000 in
theorem cut_hit (s : ByteArray) (X Y : List UInt8) (w : World) (e : s.data.toList = X ++ 47 :: Y) (h : (47 : UInt8) ∉ X) (hs : s.size ≤ 9223372036854775807) :
    Calls Tryz.prog 137 #[.string s, .string ⟨#[47]⟩] w fun e w' => e = .returned (.tuple #[.string ⟨X.toArray⟩, .string ⟨Y.toArray⟩, .bool true]) ∧ Below w.heap.size w w' := by
  obtain ⟨h1, h2, h3⟩ := bar_mem e
  have hcon := cutLite_hit s ⟨X.toArray⟩ ⟨Y.toArray⟩ X.length w (by rw [e]; exact indexByte_at h) h3 hs h1 h2
  generalize (⟨X.toArray⟩ : ByteArray) = x at hcon ⊢
  generalize (⟨Y.toArray⟩ : ByteArray) = y at hcon ⊢
  clear h1 h2 e
  go_enter Tryz.func137, Tryz.ntmps137
  go_wp2_with (go_at_call 151; refine hcon.mono ?_; rintro e w1 ⟨rfl, hb1⟩)
  go_ret3
  exact ⟨rfl, hb1⟩
set_option maxRecDepth 100000 in
set_option maxHeartbeats 1000000 in
theorem cut_miss (s : ByteArray) (w : World) (h : (47 : UInt8) ∉ s.data.toList) :
    Calls Tryz.prog 137 #[.string s, .string ⟨#[47]⟩] w fun e w' => e = .returned (.tuple #[.string s, .string ⟨#[]⟩, .bool false]) ∧ Below w.heap.size w w' := by
  have hcon := cutLite_miss s w (indexByte_no h)
  clear h
  go_enter Tryz.func137, Tryz.ntmps137
  go_wp2_with (go_at_call 151; refine hcon.mono ?_; rintro e w1 ⟨rfl, hb1⟩)
  go_ret3
  exact ⟨rfl, hb1⟩
end Go.Proofs.YtiiefpnkpfliiaaGreatDoor
/-
  Walks: texts of rationals. (gen/rtext.py)
-/
namespace Go.Proofs.YtiiefpnkpfliiaaGreatDoor
open Go.RowKit
set_option linter.unusedVariables false
set_option linter.unusedSimpArgs false
/-- a rational's text -/
def rnums (a : Rat) : List Int := if a.den = 1 then itext a.num else itext a.num ++ 47 :: dnums a.den
theorem itext_nat (n : Nat) : itext (n : Int) = dnums n := by
  unfold itext
  rw [if_neg (by omega), List.nil_append, Int.natAbs_natCast]
theorem itext_len {v : Int} {l : Nat} (h : l = (mag v.natAbs).length) (hl : l ≤ 1000) : (itext v).length ≤ 20002 := by
  have h1 := dnums_len h
  unfold itext
  rw [List.length_append]
  split <;> simp <;> omega
theorem nums_app (x y : List Int) : strOfNums x ++ strOfNums y = strOfNums (x ++ y) := by
  apply ByteArray.ext
  rw [ByteArray.data_append]
  apply Array.toList_inj.1
  simp [strOfNums]
theorem bar_num : (⟨#[47]⟩ : ByteArray) = strOfNums [47] := rfl
theorem rnums_two {a : Rat} (h : a.den ≠ 1) : strOfNums (itext a.num) ++ ⟨#[47]⟩ ++ strOfNums (itext (a.den : Int)) = strOfNums (rnums a) := by
  rw [bar_num, nums_app, nums_app, itext_nat]
  unfold rnums
  rw [if_neg h, List.append_assoc]; rfl
set_option maxRecDepth 100000 in
set_option maxHeartbeats 2000000 in
theorem ratText_any (na : Bool) (ao po : Option Addr) (la ca lp cp : Nat) (a : Rat) (w : World) (hx : RatAt w na ao la ca po lp cp a) (hl : la ≤ 1000) (hl' : lp ≤ 1000) (hT0 : TabAt 0 Lib.deBruijn64tab w) (hP0 : Pow10 w) :
    Calls Tryz.prog 18 #[.agg #[.bool na, .slice ao la ca, .slice po lp cp]] w fun e w' => e = .returned (.string (strOfNums (rnums a))) ∧ Below w.heap.size w w' := by
  obtain ⟨W, hT⟩ := ROne1.mk' w na ao po la ca lp cp
  have hsz := hT.size
  have HX : Hid (RatAt W na ao la ca po lp cp a ∧ TabAt 0 Lib.deBruijn64tab W ∧ Pow10 W) := ⟨hx.later hT.below, tab_later hT0 hT.below, hP0.later hT.below⟩
  obtain ⟨s, hs⟩ : ∃ s, strOfNums (itext a.num) = s := ⟨_, rfl⟩
  obtain ⟨t, ht⟩ : ∃ s, strOfNums (itext (a.den : Int)) = s := ⟨_, rfl⟩
  have HC1 : Hid (∀ X, Below W.heap.size W X → Calls Tryz.prog 60 #[.agg #[.bool na, .slice ao la ca]] X fun e w' => e = .returned (.string s) ∧ Below X.heap.size X w') := fun X h => by rw [← hs]; exact btext_any na ao la ca a.num X (HX.out.1.num.later h) hl (HX.out.2.2.later h)
  have HC2 : Hid (∀ X, Below W.heap.size W X → Calls Tryz.prog 60 #[.agg #[.bool false, .slice po lp cp]] X fun e w' => e = .returned (.string t) ∧ Below X.heap.size X w') := fun X h => by rw [← ht]; exact btext_any false po lp cp (a.den : Int) X (row_int (HX.out.1.den.later h)) hl' (HX.out.2.2.later h)
  have HW : Hid (Below w.heap.size w W) := hT.below
  by_cases h1 : a.den = 1
  · have HD : Hid (decide (a.den = 1) = true) := decide_eq_true h1
    have HE : Hid (strOfNums (rnums a) = s) := by show _ = _; rw [← hs, rnums, if_pos h1]
    clear hx hT0 hP0 hs ht h1
    go_enter Tryz.func18, Tryz.ntmps18
    go_wp2_with (first
      | (go_at_call 10; rw [← hT.eq]; refine (rcheck_good na ao po la ca lp cp a _ HX.out.1 (by omega) (by omega) HX.out.2.1).mono ?_; rintro e w1 ⟨rfl, hb1⟩; obtain ⟨p0, p1, p2⟩ := hT.a.later hb1 (by omega))
      | (go_at_call 49; refine (isOne_any po lp cp a.den _ (HX.out.1.den.later hb1) true HD.out).mono ?_; rintro e w2 ⟨rfl, hw2⟩; replace hw2 := hw2.symm; subst hw2)
      | (go_at_call 60; refine (HC1.out _ hb1).mono ?_; rintro e w3 ⟨rfl, hb3⟩))
    go_ret
    exact ⟨by rw [HE.out]; rfl, bnext HW.out (bnext hb1 hb3)⟩
  · have HD : Hid (decide (a.den = 1) = false) := decide_eq_false h1
    have hsz1 : s.size ≤ 20002 := by rw [← hs, strOfNums_size]; exact itext_len hx.num.row.hlen hl
    have hsz2 : t.size ≤ 20002 := by rw [← ht, strOfNums_size]; exact itext_len (by rw [Int.natAbs_natCast]; exact hx.den.hlen) hl'
    obtain ⟨u, hu⟩ : ∃ u : ByteArray, s ++ ⟨#[47]⟩ = u := ⟨_, rfl⟩
    obtain ⟨v, hv⟩ : ∃ v : ByteArray, u ++ t = v := ⟨_, rfl⟩
    have hsz3 : u.size = s.size + 1 := by rw [← hu, ByteArray.size_append]; rfl
    have hadd1 : ∀ X, Sem.run Tryz.prog (Op.stringOp .add s ⟨#[47]⟩) X = .ok (.string u) X := fun X => by rw [← hu]; exact run_string_add_sum X s ⟨#[47]⟩ (by show s.size + 1 ≤ _; omega)
    have hadd2 : ∀ X, Sem.run Tryz.prog (Op.stringOp .add u t) X = .ok (.string v) X := fun X => by rw [← hv]; exact run_string_add_sum X u t (by omega)
    have HE : Hid (v = strOfNums (rnums a)) := by show _ = _; rw [← hv, ← hu, ← hs, ← ht]; exact rnums_two h1
    clear hu hv hsz1 hsz2 hsz3
    have KW : Hid (∀ w' : World, Below W.heap.size W w' → (Below W.heap.size W w' ∧ w'.cell? ⟨w.heap.size, 0, none⟩ = some (.bool na) ∧ w'.cell? ⟨w.heap.size, 1, none⟩ = some (.slice ao la ca) ∧ w'.cell? ⟨w.heap.size, 2, none⟩ = some (.slice po lp cp))) := fun w' h => ⟨h, (h.cell (p := ⟨w.heap.size, 0, none⟩) (by show w.heap.size < _; omega)).trans hT.a.1, (h.cell (p := ⟨w.heap.size, 1, none⟩) (by show w.heap.size < _; omega)).trans hT.a.2.1, (h.cell (p := ⟨w.heap.size, 2, none⟩) (by show w.heap.size < _; omega)).trans hT.a.2.2⟩
    clear hx hT0 hP0 hs ht h1
    go_enter Tryz.func18, Tryz.ntmps18
    go_upto_region 5 with (first
      | (go_at_call 10; rw [← hT.eq]; refine (rcheck_good na ao po la ca lp cp a _ HX.out.1 (by omega) (by omega) HX.out.2.1).mono ?_; rintro e w1 ⟨rfl, hb1⟩; obtain ⟨p0, p1, p2⟩ := hT.a.later hb1 (by omega))
      | (go_at_call 49; refine (isOne_any po lp cp a.den _ (HX.out.1.den.later hb1) false HD.out).mono ?_; rintro e w2 ⟨rfl, hw2⟩; replace hw2 := hw2.symm; subst hw2))
    have KU : Hid (∀ w' : World, Below w1.heap.size w1 w' → (Below w1.heap.size w1 w' ∧ w'.cell? ⟨w.heap.size, 0, none⟩ = some (.bool na) ∧ w'.cell? ⟨w.heap.size, 1, none⟩ = some (.slice ao la ca) ∧ w'.cell? ⟨w.heap.size, 2, none⟩ = some (.slice po lp cp))) := fun w' h => ⟨h, (KW.out w' (bnext hb1 h)).2⟩
    have HB1 : Hid (Below W.heap.size W w1) := hb1
    clear p0 p1 p2 KW hb1 hT
    have hzU : w1.heap.size ≤ w1.drew.heap.size := Nat.le_refl _
    have S0 : Step8 0 := ⟨trivial⟩
    go_region_held3 (fun w' => (Below w1.heap.size w1 w' ∧ w'.cell? ⟨w.heap.size, 0, none⟩ = some (.bool na) ∧ w'.cell? ⟨w.heap.size, 1, none⟩ = some (.slice ao la ca) ∧ w'.cell? ⟨w.heap.size, 2, none⟩ = some (.slice po lp cp)))
      (with_reducible (first | exact KU.out _ (Below.refl _ _).drew | exact KU.out _ (by assumption) | (refine KU.out _ ?_; (repeat (first | refine below_alloc ?_ (Nat.le_refl _) | refine Below.drew ?_ | refine below_set ?_ (by omega))); (first | exact hbF2 | exact hbF1 | exact Below.refl _ _))))
      (first
        | (have _t := S0; go_at_call 60; refine with_held (S := fun w9 => Below w1.heap.size w1 w9) (by show Below _ _ _; with_reducible ((repeat (first | refine below_alloc ?_ (Nat.le_refl _) | refine Below.drew ?_ | refine below_set ?_ (by omega))); (first | exact hbF2 | exact hbF1 | exact Below.refl _ _))) (fun hS => ?_); refine (HC1.out _ (bnext HB1.out hS)).mono ?_; rintro e f1 ⟨rfl, hb⟩; skip; have hbF1 : Below w1.heap.size w1 f1 := bnext hS hb; have hzF1 := hbF1.size; clear hS hb S0; have S1 : Step8 1 := ⟨trivial⟩)
        | (have _t := S1; go_at_call 60; refine with_held (S := fun w9 => Below w1.heap.size w1 w9) (by show Below _ _ _; with_reducible ((repeat (first | refine below_alloc ?_ (Nat.le_refl _) | refine Below.drew ?_ | refine below_set ?_ (by omega))); (first | exact hbF2 | exact hbF1 | exact Below.refl _ _))) (fun hS => ?_); refine with_held (S := fun w9 => Below f1.heap.size f1 w9) (by show Below _ _ _; with_reducible ((repeat (refine below_alloc ?_ (Nat.le_refl _))); exact Below.refl _ _)) (fun hS2 => ?_); refine (HC2.out _ (bnext HB1.out hS)).mono ?_; rintro e f2 ⟨rfl, hb⟩; skip; have hbF2 : Below w1.heap.size w1 f2 := bnext hS hb; have hzF2 := hbF2.size; clear hS hb S1; clear hS2; skip))
    all_goals go_wp2
    all_goals go_ret
    all_goals exact ⟨by rw [← HE.out]; rfl, bnext HW.out (bnext HB1.out hbF2)⟩
/-- a rational, wherever it lies, and ok -/
def SomeRat (w w' : World) (e : Ending) (ok : Value) (r : Rat) : Prop := ∃ neg ao l c bo lb cb, e = .returned (.tuple #[.agg #[.bool neg, .slice ao l c, .slice bo lb cb], ok]) ∧ RatAt w' neg ao l c bo lb cb r ∧ Below w.heap.size w w'
/-- big reads x as v -/
def ReadsAs (x : ByteArray) (v : Int) : Prop := ∀ X : World, Calls Tryz.prog 138 #[.string x] X fun e w' => ∃ n ao l c, e = .returned (.tuple #[.agg #[.bool n, .slice ao l c], .int .i64 0]) ∧ IntAt w' n ao l c v ∧ Below X.heap.size X w'
theorem row_kept3 {w : World} {p : Option Addr} {m k r : Nat} {zs : List Int} {x y z : Value} {n9 : Bool} {o9 p9 : Option Addr} {l9 c9 m9 d9 : Nat} (hr : RowAt w .u64 p m k zs) (hf : Boxed3 w r n9 o9 l9 c9 p9 m9 d9) : RowAt (((w.setCell ⟨r, 0, none⟩ x).setCell ⟨r, 1, none⟩ y).setCell ⟨r, 2, none⟩ z) .u64 p m k zs := by
  obtain ⟨f0, f1, f2⟩ := hf
  refine ⟨hr.hlen, hr.hcap, hr.hnil, ?_⟩
  rcases hr.hat with h0 | ⟨b, off, h1, hlt, h2⟩
  · exact Or.inl h0
  · refine Or.inr ⟨b, off, h1, by simpa using hlt, fun t ht => ?_⟩
    have h3 := h2 t ht
    by_cases e : b = r
    · subst e
      have n0 : off + t ≠ 0 := fun e => by rw [e] at h3; rw [h3] at f0; cases f0
      have n1 : off + t ≠ 1 := fun e => by rw [e] at h3; rw [h3] at f1; cases f1
      have n2 : off + t ≠ 2 := fun e => by rw [e] at h3; rw [h3] at f2; cases f2
      rw [setCell_ne (fun e => n2 e.2), setCell_ne (fun e => n1 e.2), setCell_ne (fun e => n0 e.2)]; exact h3
    · rw [cell_off e, cell_off e, cell_off e]; exact h3
theorem boxed_set {w : World} {r : Nat} {x y z : Value} {n : Bool} {o p : Option Addr} {l c m d : Nat} (h0 : w.cell? ⟨r, 0, none⟩ = some x) (h1 : w.cell? ⟨r, 1, none⟩ = some y) (h2 : w.cell? ⟨r, 2, none⟩ = some z) : Boxed3 (((w.setCell ⟨r, 0, none⟩ (.bool n)).setCell ⟨r, 1, none⟩ (.slice o l c)).setCell ⟨r, 2, none⟩ (.slice p m d)) r n o l c p m d :=
  ⟨by simp [go_sem, h0, h1, h2], by simp [go_sem, h0, h1, h2], by simp [go_sem, h0, h1, h2]⟩
theorem int_kept3 {w : World} {n : Bool} {p : Option Addr} {m k r : Nat} {v : Int} {x y z : Value} {n9 : Bool} {o9 p9 : Option Addr} {l9 c9 m9 d9 : Nat} (h : IntAt w n p m k v) (hf : Boxed3 w r n9 o9 l9 c9 p9 m9 d9) : IntAt (((w.setCell ⟨r, 0, none⟩ x).setCell ⟨r, 1, none⟩ y).setCell ⟨r, 2, none⟩ z) n p m k v := ⟨h.sg, row_kept3 h.row hf⟩
theorem rat_kept {w : World} {neg : Bool} {ao bo : Option Addr} {l c lb cb r : Nat} {a : Rat} {x y z : Value} {n9 : Bool} {o9 p9 : Option Addr} {l9 c9 m9 d9 : Nat} (h : RatAt w neg ao l c bo lb cb a) (hf : Boxed3 w r n9 o9 l9 c9 p9 m9 d9) : RatAt (((w.setCell ⟨r, 0, none⟩ x).setCell ⟨r, 1, none⟩ y).setCell ⟨r, 2, none⟩ z) neg ao l c bo lb cb a :=
  ⟨int_kept3 h.num hf, row_kept3 h.den hf⟩
theorem rat_whole {w : World} {neg : Bool} {ao : Option Addr} {l c : Nat} {a : Rat} (h : IntAt w neg ao l c a.num) (hd : a.den = 1) : RatAt (w.alloc (.cells #[.int .u64 1] 59)) neg ao l c (some ⟨w.heap.size, 0, none⟩) 1 1 a :=
  ⟨h.later ((Below.refl _ _).alloc (Nat.le_refl _) _), by rw [hd, one_word]; exact (Own.whole (B := 0) (Blk.new w .u64 59 [1]) (Nat.zero_le _) rfl).row⟩
theorem read_box {y2 y4 : World} {n2 : Bool} {o2 : Option Addr} {l2 c2 : Nat} {O : Obj} (hb : Below (y2.alloc (.cells #[.bool n2, .slice o2 l2 c2] 26)).heap.size (y2.alloc (.cells #[.bool n2, .slice o2 l2 c2] 26)) y4) : Boxed (y4.alloc O) y2.heap.size n2 o2 l2 c2 := by
  have h1 : Boxed (y2.alloc (.cells #[.bool n2, .slice o2 l2 c2] 26)) y2.heap.size n2 o2 l2 c2 := ⟨by simp [go_sem], by simp [go_sem]⟩
  have h2 := h1.later hb (by simp)
  exact h2.later ((Below.refl _ _).alloc (Nat.le_refl _) O) (cell_lt h2.1)
/-- the result to come -/
structure R1 (w W : World) : Prop where
  eq : W = w.alloc (.cells #[.bool false, .slice none 0 0, .slice none 0 0] 28)
  below : Below w.heap.size w W
  size : W.heap.size = w.heap.size + 1
  r : Fresh3 W w.heap.size
theorem R1.mk' (w : World) : ∃ W, R1 w W := ⟨_, rfl, (Below.refl _ _).alloc (Nat.le_refl _) _, by simp, ⟨fun j => by simp [go_sem], by simp [go_sem], by simp [go_sem], by simp [go_sem]⟩⟩
set_option maxRecDepth 100000 in
set_option maxHeartbeats 2000000 in
theorem read_one (s : ByteArray) (a : Rat) (w : World) (hs : (47 : UInt8) ∉ s.data.toList) (hd : a.den = 1) (hr : ReadsAs s a.num) :
    Calls Tryz.prog 113 #[.string s] w fun e w' => SomeRat w w' e (.bool true) a := by
  obtain ⟨W, hT⟩ := R1.mk' w
  have hsz := hT.size
  have hcut : ∀ X, Calls Tryz.prog 137 #[.string s, .string ⟨#[47]⟩] X fun e w' => e = .returned (.tuple #[.string s, .string ⟨#[]⟩, .bool false]) ∧ Below X.heap.size X w' := fun X => cut_miss s X hs
  have HR : Hid (ReadsAs s a.num ∧ a.den = 1) := ⟨hr, hd⟩
  clear hs hr hd
  go_enter Tryz.func113, Tryz.ntmps113
  go_wp2_with (first
    | (go_at_call 137; rw [← hT.eq]; refine (hcut _).mono ?_; rintro e w1 ⟨rfl, hb1⟩)
    | (go_at_call 138; refine (HR.out.1 _).mono ?_; rintro e y2 ⟨n2, o2, l2, c2, rfl, hi2, hb2⟩; have H2 : Hid (IntAt y2 n2 o2 l2 c2 a.num ∧ Below W.heap.size W y2) := ⟨hi2, bnext hb1 hb2⟩; clear hi2 hb2; obtain ⟨k5, k2, k3, k4⟩ := hT.r.later H2.out.2 (by omega); have hlt : w.heap.size < y2.heap.size := (by have := H2.out.2.size; omega); have hne : w.heap.size ≠ y2.heap.size := (by omega)))
  have hne2 : w.heap.size ≠ y2.heap.size + 1 := by omega
  have hR : RatAt (((((y2.setCell ⟨w.heap.size, 0, none⟩ (.bool n2)).setCell ⟨w.heap.size, 1, none⟩ (.slice o2 l2 c2)).setCell ⟨w.heap.size, 2, none⟩ (.slice (some ⟨y2.heap.size + 1, 0, none⟩) 1 1)).alloc (.cells #[.bool n2, .slice o2 l2 c2] 26)).alloc (.cells #[.int .u64 1] 59)) n2 o2 l2 c2 (some ⟨y2.heap.size + 1, 0, none⟩) 1 1 a := by
    have := rat_whole (a := a) (int_alloc (o := .cells #[.bool n2, .slice o2 l2 c2] 26) (int_kept3 (x := .bool n2) (y := .slice o2 l2 c2) (z := .slice (some ⟨y2.heap.size + 1, 0, none⟩) 1 1) H2.out.1 (r := w.heap.size) ⟨k2, k3, k4⟩)) HR.out.2
    simpa using this
  exact bodyPost_ret (v := .tuple #[.agg #[.bool n2, .slice o2 l2 c2, .slice (some ⟨y2.heap.size + 1, 0, none⟩) 1 1], .bool true]) (by simp [results, Tryz.results113, go_sem, k2, k3, k4, hlt, hne, hne2, Nat.lt_succ_of_lt hlt]) rfl
    ⟨_, _, _, _, _, _, _, rfl, hR, below_alloc (below_alloc (below_store3 (bnext hT.below H2.out.2) (Nat.le_refl _) _ _ _) (Nat.le_refl _)) (Nat.le_refl _)⟩
set_option maxRecDepth 100000 in
set_option maxHeartbeats 2000000 in
theorem read_two (s : ByteArray) (X Y : List UInt8) (a : Rat) (w : World) (hs : s.data.toList = X ++ 47 :: Y) (hX : (47 : UInt8) ∉ X) (hsz0 : s.size ≤ 9223372036854775807) (hd : a.den ≠ 1) (hr1 : ReadsAs ⟨X.toArray⟩ a.num) (hr2 : ReadsAs ⟨Y.toArray⟩ (a.den : Int)) (hz : Sz a 2000) (hT0 : TabAt 0 Lib.deBruijn64tab w) :
    Calls Tryz.prog 113 #[.string s] w fun e w' => SomeRat w w' e (.bool true) a := by
  obtain ⟨W, hT⟩ := R1.mk' w
  have hsz := hT.size
  have hcut : ∀ Z, Calls Tryz.prog 137 #[.string s, .string ⟨#[47]⟩] Z fun e w' => e = .returned (.tuple #[.string ⟨X.toArray⟩, .string ⟨Y.toArray⟩, .bool true]) ∧ Below Z.heap.size Z w' := fun Z => cut_hit s X Y Z hs hX hsz0
  generalize (⟨X.toArray⟩ : ByteArray) = x at hcut hr1
  generalize (⟨Y.toArray⟩ : ByteArray) = y at hcut hr2
  have HR : Hid (ReadsAs x a.num ∧ ReadsAs y (a.den : Int) ∧ Sz a 2000 ∧ TabAt 0 Lib.deBruijn64tab W) := ⟨hr1, hr2, hz, tab_later hT0 hT.below⟩
  have HD : Hid (decide (a.den = 1) = false) := decide_eq_false hd
  have HG : Hid (decide (Nat.gcd a.num.natAbs a.den = 1) = true) := decide_eq_true a.reduced
  have HS : Hid (cmpI (a.den : Int) 0 = 1) := cmpI_gt (by have := a.den_pos; omega)
  have HN : Hid (sgB (a.den : Int) = false) := sgB_nat _
  clear hs hX hr1 hr2 hd hz hT0
  go_enter Tryz.func113, Tryz.ntmps113
  go_wp2_with (first
    | (go_at_call 137; rw [← hT.eq]; refine (hcut _).mono ?_; rintro e w1 ⟨rfl, hb1⟩)
    | (go_at_call 138; have _t := H2; refine (HR.out.2.1 _).mono ?_; rintro e y4 ⟨n4, o4, l4, c4, rfl, hi4, hb4⟩; obtain rfl : n4 = false := (hi4.sg.trans HN.out); have H4 : Hid (IntAt y4 n2 o2 l2 c2 a.num ∧ IntAt y4 false o4 l4 c4 (a.den : Int) ∧ Below W.heap.size W y4) := ⟨(int_alloc (o := .cells #[.bool n2, .slice o2 l2 c2] 26) H2.out.1).later hb4, hi4, bnext (below_alloc H2.out.2 (Nat.le_refl _)) hb4⟩; have hl4 : l4 ≤ 2000 := (by rw [hi4.row.hlen, Int.natAbs_natCast]; exact HR.out.2.2.1.2); have HV : Hid (Boxed (y4.alloc (.cells #[.bool false, .slice o4 l4 c4] 26)) y2.heap.size n2 o2 l2 c2 ∧ Boxed (y4.alloc (.cells #[.bool false, .slice o4 l4 c4] 26)) y4.heap.size false o4 l4 c4 ∧ Below W.heap.size W (y4.alloc (.cells #[.bool false, .slice o4 l4 c4] 26))) := ⟨read_box hb4, ⟨by simp [go_sem], by simp [go_sem]⟩, below_alloc H4.out.2.2 (Nat.le_refl _)⟩; have hlt2 : y2.heap.size < y4.heap.size := (by have := hb4.size; simp at this; omega); clear hi4 hb4)
    | (go_at_call 138; refine (HR.out.1 _).mono ?_; rintro e y2 ⟨n2, o2, l2, c2, rfl, hi2, hb2⟩; have H2 : Hid (IntAt y2 n2 o2 l2 c2 a.num ∧ Below W.heap.size W y2) := ⟨hi2, bnext hb1 hb2⟩; have hl2 : l2 ≤ 2000 := (by rw [hi2.row.hlen]; exact HR.out.2.2.1.1); clear hi2 hb2)
    | (go_at_call 55; refine (bsign_any false o4 l4 c4 (a.den : Int) _ (int_alloc H4.out.2.1) (by omega) 1 HS.out).mono ?_; rintro e y5 ⟨rfl, hb5⟩; have hB5 : Below W.heap.size W y5 := bnext HV.out.2.2 hb5; obtain ⟨v0, v1⟩ := HV.out.1.later hb5 (by simp; omega); obtain ⟨d0, d1⟩ := HV.out.2.1.later hb5 (by simp); have H5 : Hid (IntAt y5 n2 o2 l2 c2 a.num ∧ IntAt y5 false o4 l4 c4 (a.den : Int)) := ⟨(int_alloc H4.out.1).later hb5, (int_alloc H4.out.2.1).later hb5⟩)
    | (go_at_call 49; refine (isOne_any o4 l4 c4 a.den _ (by have := H5.out.2.row; rw [Int.natAbs_natCast] at this; exact this) false HD.out).mono ?_; rintro e y6 ⟨rfl, hw6⟩; replace hw6 := hw6.symm; subst hw6)
    | (go_at_call 52; refine (apart_any o2 o4 l2 c2 l4 c4 a.num.natAbs a.den _ H5.out.1.row (by have := H5.out.2.row; rw [Int.natAbs_natCast] at this; exact this) a.den_pos (by omega) (by omega) (tab_later HR.out.2.2.2 hB5) true HG.out).mono ?_; rintro e y7 ⟨rfl, hb7⟩; have hz5 : y2.heap.size < y5.heap.size ∧ y4.heap.size < y5.heap.size := (by have := hb5.size; simp at this; omega); clear v0 v1 d0 d1; obtain ⟨v0, v1⟩ := (HV.out.1.later hb5 (by simp; omega)).later hb7 hz5.1; obtain ⟨d0, d1⟩ := (HV.out.2.1.later hb5 (by simp)).later hb7 hz5.2; obtain ⟨k5, k2, k3, k4⟩ := hT.r.later (bnext hB5 hb7) (by omega)))
  have hR : RatAt y7 n2 o2 l2 c2 o4 l4 c4 a := ⟨H5.out.1.later hb7, by have := (H5.out.2.later hb7).row; rw [Int.natAbs_natCast] at this; exact this⟩
  exact bodyPost_ret (v := .tuple #[.agg #[.bool n2, .slice o2 l2 c2, .slice o4 l4 c4], .bool true]) (by simp [results, Tryz.results113, go_sem, k2, k3, k4]) rfl
    ⟨_, _, _, _, _, _, _, rfl, rat_kept hR ⟨k2, k3, k4⟩, below_store3 (bnext hT.below (bnext hB5 hb7)) (Nat.le_refl _) _ _ _⟩
set_option maxRecDepth 100000 in
set_option maxHeartbeats 2000000 in
theorem parse_rat (s : ByteArray) (a : Rat) (w : World) (hcon : ∀ X, Below w.heap.size w X → Calls Tryz.prog 113 #[.string s] X fun e w' => SomeRat X w' e (.bool true) a) :
    Calls Tryz.prog 78 #[.string s] w fun e w' => SomeRat w w' e (.int .i64 0) a := by
  obtain ⟨W, hT⟩ := R1.mk' w
  have hsz := hT.size
  go_enter Tryz.func78, Tryz.ntmps78
  go_wp2_with (go_at_call 113; rw [← hT.eq]; refine (hcon _ hT.below).mono ?_; rintro e w1 ⟨n2, o2, l2, c2, o4, l4, c4, rfl, hr1, hb1⟩; obtain ⟨k5, k2, k3, k4⟩ := hT.r.later hb1 (by omega))
  have hY1 := boxed_set (n := n2) (o := o2) (l := l2) (c := c2) (p := o4) (m := l4) (d := c4) k2 k3 k4
  have hY2 := rat_kept (x := .bool n2) (y := .slice o2 l2 c2) (z := .slice o4 l4 c4) (r := w.heap.size) hr1 ⟨k2, k3, k4⟩
  have hY3 := below_store3 (r := w.heap.size) (bnext hT.below hb1) (Nat.le_refl _) (.bool n2) (.slice o2 l2 c2) (.slice o4 l4 c4)
  revert hY1 hY2 hY3
  generalize ((w1.setCell ⟨w.heap.size, 0, none⟩ (.bool n2)).setCell ⟨w.heap.size, 1, none⟩ (.slice o2 l2 c2)).setCell ⟨w.heap.size, 2, none⟩ (.slice o4 l4 c4) = Y
  rintro ⟨j0, j1, j2⟩ hY2 hY3
  exact bodyPost_ret (v := .tuple #[.agg #[.bool n2, .slice o2 l2 c2, .slice o4 l4 c4], .int .i64 0]) (by simp [results, Tryz.results78, go_sem, j0, j1, j2]) rfl
    ⟨_, _, _, _, _, _, _, rfl, rat_kept hY2 ⟨j0, j1, j2⟩, below_store3 hY3 (Nat.le_refl _) _ _ _⟩
/-- a rational's text is read as that rational -/
theorem parse_text {a : Rat} (hz : Sz a 50) (s : ByteArray) (w : World) (hs : s = strOfNums (rnums a)) (hT0 : TabAt 0 Lib.deBruijn64tab w) :
    Calls Tryz.prog 78 #[.string s] w fun e w' => SomeRat w w' e (.int .i64 0) a := by
  have hb : ∀ (x : List Int), (strOfNums x).data.toList = x.map fun n => UInt8.ofNat n.toNat := fun x => rfl
  have hno : ∀ n : Nat, (47 : UInt8) ∉ (strOfNums (dnums n)).data.toList := fun n h => by
    rw [hb] at h
    obtain ⟨z, hz, e⟩ := List.mem_map.1 h
    have := (dnums_tells n n (Nat.le_refl _)).2.1 z hz
    have e2 := congrArg UInt8.toNat e
    rw [UInt8.toNat_ofNat'] at e2
    have e3 : (47 : UInt8).toNat = 47 := rfl
    omega
  have hni : ∀ v : Int, (47 : UInt8) ∉ (strOfNums (itext v)).data.toList := fun v h => by
    rw [hb] at h
    obtain ⟨z, hz, e⟩ := List.mem_map.1 h
    unfold itext at hz
    rcases List.mem_append.1 hz with h1 | h1
    · have : z = 45 := by split at h1 <;> simp_all
      subst this; exact absurd e (by decide)
    · exact hno v.natAbs (by rw [hb]; exact List.mem_map.2 ⟨z, h1, e⟩)
  have hl1 : (dnums a.num.natAbs).length ≤ 1024 := by have := dnums_len (n := a.num.natAbs) rfl; have := hz.1; omega
  have hl2 : (dnums a.den).length ≤ 1024 := by have := dnums_len (n := a.den) rfl; have := hz.2; omega
  have hr1 : ReadsAs (strOfNums (itext a.num)) a.num := fun X => bparse_text a.num X hl1
  refine parse_rat s a w fun X hX => ?_
  by_cases h1 : a.den = 1
  · have e : s = strOfNums (itext a.num) := by rw [hs, rnums, if_pos h1]
    rw [e]
    exact read_one _ a X (hni _) h1 hr1
  · have e : s.data.toList = (strOfNums (itext a.num)).data.toList ++ 47 :: (strOfNums (dnums a.den)).data.toList := by
      rw [hs, rnums, if_neg h1, hb, hb, hb]; simp
    have hr2 : ReadsAs (strOfNums (dnums a.den)) (a.den : Int) := fun X => by
      have := bparse_text (a.den : Int) X (by rw [Int.natAbs_natCast]; exact hl2)
      rw [itext_nat] at this; exact this
    have hsz0 : s.size ≤ 9223372036854775807 := by
      rw [hs, strOfNums_size, rnums, if_neg h1]
      have := dnums_len (n := a.num.natAbs) rfl
      have := hz.1
      have h3 : (itext a.num).length ≤ (dnums a.num.natAbs).length + 1 := by unfold itext; rw [List.length_append]; split <;> simp <;> omega
      simp; omega
    exact read_two s _ _ a X e (hni _) hsz0 h1 hr1 hr2 (hz.mono (by decide)) (tab_later hT0 hX)
end Go.Proofs.YtiiefpnkpfliiaaGreatDoor
/-
  Walks: the page's From.
-/
namespace Go.Proofs.YtiiefpnkpfliiaaGreatDoor
open Go.RowKit
set_option linter.unusedVariables false
set_option linter.unusedSimpArgs false
/-- a rational, wherever it lies -/
def SomeR (w w' : World) (e : Ending) (r : Rat) : Prop := ∃ neg ao l c bo lb cb, e = .returned (.agg #[.bool neg, .slice ao l c, .slice bo lb cb]) ∧ RatAt w' neg ao l c bo lb cb r ∧ Below w.heap.size w w'
/-- a number handed in, a rational to come -/
structure IR2 (w W : World) (na : Bool) (ao : Option Addr) (la ca : Nat) : Prop where
  eq : W = (w.alloc (.cells #[.bool na, .slice ao la ca] 26)).alloc (.cells #[.bool false, .slice none 0 0, .slice none 0 0] 28)
  below : Below w.heap.size w W
  size : W.heap.size = w.heap.size + 2
  a : Boxed W w.heap.size na ao la ca
  r : Fresh3 W (w.heap.size + 1)
theorem IR2.mk' (w : World) (na : Bool) (ao : Option Addr) (la ca : Nat) : ∃ W, IR2 w W na ao la ca :=
  ⟨_, rfl, ((Below.refl _ _).alloc (Nat.le_refl _) _).alloc (by simp) _, by simp, ⟨by simp [go_sem], by simp [go_sem]⟩, ⟨fun j => by simp [go_sem], by simp [go_sem], by simp [go_sem], by simp [go_sem]⟩⟩
set_option maxRecDepth 100000 in
set_option maxHeartbeats 2000000 in
theorem qfrom_any (na : Bool) (ao : Option Addr) (la ca : Nat) (zs : List Int) (w : World) (hx : RowAt w .u64 ao la ca zs) :
    Calls Tryz.prog 26 #[.agg #[.bool na, .slice ao la ca]] w fun e w' => ∃ bo lb cb, e = .returned (.agg #[.bool na, .slice ao la ca, .slice bo lb cb]) ∧ RowAt w' .u64 ao la ca zs ∧ Own w.heap.size w' .u64 59 bo lb cb (mag 1) ∧ Below w.heap.size w w' := by
  obtain ⟨W, hT⟩ := IR2.mk' w na ao la ca
  have hsz := hT.size
  have KW : Hid (∀ w' : World, Below W.heap.size W w' → w'.cell? ⟨w.heap.size, 0, none⟩ = some (.bool na) ∧ w'.cell? ⟨w.heap.size, 1, none⟩ = some (.slice ao la ca)) := fun w' h => ⟨(h.cell (p := ⟨w.heap.size, 0, none⟩) (by show w.heap.size < _; omega)).trans hT.a.1, (h.cell (p := ⟨w.heap.size, 1, none⟩) (by show w.heap.size < _; omega)).trans hT.a.2⟩
  have KS : Hid (∀ X : World, Below W.heap.size W X → ∀ x y z, (fun w' : World => w'.cell? ⟨w.heap.size, 0, none⟩ = some (.bool na) ∧ w'.cell? ⟨w.heap.size, 1, none⟩ = some (.slice ao la ca)) (((X.setCell ⟨w.heap.size + 1, 0, none⟩ x).setCell ⟨w.heap.size + 1, 1, none⟩ y).setCell ⟨w.heap.size + 1, 2, none⟩ z)) := fun X h x y z => by
    obtain ⟨h1, h2⟩ := KW.out X h
    (try dsimp only)
    rw [cell_off (by omega), cell_off (by omega), cell_off (by omega), cell_off (by omega), cell_off (by omega), cell_off (by omega)]
    exact ⟨h1, h2⟩
  have HF : Hid (Fresh3 W (w.heap.size + 1) ∧ Below w.heap.size w W ∧ RowAt w .u64 ao la ca zs) := ⟨hT.r, hT.below, hx⟩
  clear hx
  go_enter Tryz.func26, Tryz.ntmps26
  go_upto_region 1 with fail
  rw [← hT.eq]
  clear hT
  have hzU : W.heap.size ≤ W.drew.heap.size := Nat.le_refl _
  have S0 : Step8 0 := ⟨trivial⟩
  go_region_held3 (fun w' => (w'.cell? ⟨w.heap.size, 0, none⟩ = some (.bool na) ∧ w'.cell? ⟨w.heap.size, 1, none⟩ = some (.slice ao la ca)))
    (with_reducible (first | exact KS.out _ hbF1 _ _ _ | exact KW.out _ (Below.refl _ _).drew | exact KW.out _ (by assumption) | (refine KW.out _ ?_; (repeat (first | refine below_alloc ?_ (Nat.le_refl _) | refine Below.drew ?_ | refine below_set ?_ (by omega))); (first | exact hbF1 | exact Below.refl _ _))))
    (first
      | (have _t := S0; go_at_call 63; refine with_held (S := fun w9 => Below W.heap.size W w9) (by show Below _ _ _; with_reducible ((repeat (first | refine below_alloc ?_ (Nat.le_refl _) | refine Below.drew ?_ | refine below_set ?_ (by omega))); (first | exact hbF1 | exact Below.refl _ _))) (fun hS => ?_); refine (nof_at 1 1 _ rfl (by decide)).mono ?_; rintro e f1 ⟨o1, l1, c1, rfl, ho, hb⟩; have H1 : Hid (Own W.heap.size f1 .u64 59 o1 l1 c1 (mag 1) ∧ Below W.heap.size W f1) := ⟨ho.mono hS.size, bnext hS hb⟩; clear ho; obtain ⟨k5, k2, k3, k4⟩ := HF.out.1.later (bnext hS hb) (by omega); have hbF1 : Below W.heap.size W f1 := bnext hS hb; have hzF1 := hbF1.size; clear hS hb S0; skip))
  all_goals go_wp2
  have hs1 := H1.out.2.size
  exact bodyPost_ret (v := .agg #[.bool na, .slice ao la ca, .slice o1 l1 c1]) (by simp [results, Tryz.results26, go_sem, k2, k3, k4]) rfl
    ⟨_, _, _, rfl, HF.out.2.2.later (below_store3 (bnext HF.out.2.1 H1.out.2) (by omega) _ _ _), (H1.out.1.store3 (by omega) _ _ _).mono (by omega), below_store3 (bnext HF.out.2.1 H1.out.2) (by omega) _ _ _⟩
end Go.Proofs.YtiiefpnkpfliiaaGreatDoor
