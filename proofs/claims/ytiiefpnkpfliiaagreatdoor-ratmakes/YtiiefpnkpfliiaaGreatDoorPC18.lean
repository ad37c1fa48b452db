/-
  A pack of walks and facts: RK, IJ, RPa, RZ, HI0, SA.
-/
import Derived.Test.YtiiefpnkpfliiaaGreatDoorPC14
import Derived.Test.YtiiefpnkpfliiaaGreatDoorPC15
import Derived.Test.YtiiefpnkpfliiaaGreatDoorPC17
import Derived.Deep.DeepCutAuto
import Derived.Deep.RegionHeld3
set_option maxRecDepth 100000
set_option maxHeartbeats 40000000
set_option linter.unusedVariables false
set_option linter.unusedSimpArgs false
namespace Go.Proofs.YtiiefpnkpfliiaaGreatDoor
open Go.RowKit
def rnums (a : Rat) : List Int := if a.den = 1 then itext a.num else itext a.num ++ 47 :: dnums a.den
theorem itext_nat (n : Nat) : itext (n : Int) = dnums n := by
 unfold itext
 rw [if_neg (by omega), List.nil_append, Int.natAbs_natCast]
theorem itext_len {v : Int} {l : Nat} (h : l = (mag v.natAbs).length) (hl : l ≤ 1000) : (itext v).length ≤ 20002 := by
 have h1 := dnums_len h
 unfold itext
 rw [List.length_append]
 split <;> simp <;> omega
theorem nums_app (x y : List Int) : strOfNums x ++ strOfNums y = strOfNums (x ++ y) := by
 apply ByteArray.ext
 rw [ByteArray.data_append]
 apply Array.toList_inj.1
 simp [strOfNums]
theorem bar_num : (⟨#[47]⟩ : ByteArray) = strOfNums [47] := rfl
theorem rnums_two {a : Rat} (h : a.den ≠ 1) : strOfNums (itext a.num) ++ ⟨#[47]⟩ ++ strOfNums (itext (a.den : Int)) = strOfNums (rnums a) := by
 rw [bar_num, nums_app, nums_app, itext_nat]
 unfold rnums
 rw [if_neg h, List.append_assoc]; rfl
theorem ratText_any (na : Bool) (ao po : Option Addr) (la ca lp cp : Nat) (a : Rat) (w : World) (hx : RatAt w na ao la ca po lp cp a) (hl : la ≤ 1000) (hl' : lp ≤ 1000) (hT0 : TabAt 0 Lib.deBruijn64tab w) (hP0 : Pow10 w) :
  Calls Tryz.prog 18 #[.agg #[.bool na, .slice ao la ca, .slice po lp cp]] w fun e w' => e = .returned (.string (strOfNums (rnums a))) ∧ Below w.heap.size w w' := by
 obtain ⟨W, hT⟩ := ROne1.mk' w na ao po la ca lp cp
 have hsz := hT.size
 have HX : Hid (RatAt W na ao la ca po lp cp a ∧ TabAt 0 Lib.deBruijn64tab W ∧ Pow10 W) := ⟨hx.later hT.below, tab_later hT0 hT.below, hP0.later hT.below⟩
 obtain ⟨s, hs⟩ : ∃ s, strOfNums (itext a.num) = s := ⟨_, rfl⟩
 obtain ⟨t, ht⟩ : ∃ s, strOfNums (itext (a.den : Int)) = s := ⟨_, rfl⟩
 have HC1 : Hid (∀ X, Below W.heap.size W X → Calls Tryz.prog 60 #[.agg #[.bool na, .slice ao la ca]] X fun e w' => e = .returned (.string s) ∧ Below X.heap.size X w') := fun X h => by rw [← hs]; exact btext_any na ao la ca a.num X (HX.out.1.num.later h) hl (HX.out.2.2.later h)
 have HC2 : Hid (∀ X, Below W.heap.size W X → Calls Tryz.prog 60 #[.agg #[.bool false, .slice po lp cp]] X fun e w' => e = .returned (.string t) ∧ Below X.heap.size X w') := fun X h => by rw [← ht]; exact btext_any false po lp cp (a.den : Int) X (row_int (HX.out.1.den.later h)) hl' (HX.out.2.2.later h)
 have HW : Hid (Below w.heap.size w W) := hT.below
 by_cases h1 : a.den = 1
 ·
  have HD : Hid (decide (a.den = 1) = true) := decide_eq_true h1
  have HE : Hid (strOfNums (rnums a) = s) := by show _ = _; rw [← hs, rnums, if_pos h1]
  clear hx hT0 hP0 hs ht h1
  go_enter Tryz.func18, Tryz.ntmps18
  go_wp2_with (first
   | (go_at_call 10; rw [← hT.eq]; refine (rcheck_good na ao po la ca lp cp a _ HX.out.1 (by omega) (by omega) HX.out.2.1).mono ?_; rintro e w1 ⟨rfl, hb1⟩; obtain ⟨p0, p1, p2⟩ := hT.a.later hb1 (by omega))
   | (go_at_call 49; refine (isOne_any po lp cp a.den _ (HX.out.1.den.later hb1) true HD.out).mono ?_; rintro e w2 ⟨rfl, hw2⟩; replace hw2 := hw2.symm; subst hw2)
   | (go_at_call 60; refine (HC1.out _ hb1).mono ?_; rintro e w3 ⟨rfl, hb3⟩))
  go_ret
  exact ⟨by rw [HE.out]; rfl, bnext HW.out (bnext hb1 hb3)⟩
 ·
  have HD : Hid (decide (a.den = 1) = false) := decide_eq_false h1
  have hsz1 : s.size ≤ 20002 := by rw [← hs, strOfNums_size]; exact itext_len hx.num.row.hlen hl
  have hsz2 : t.size ≤ 20002 := by rw [← ht, strOfNums_size]; exact itext_len (by rw [Int.natAbs_natCast]; exact hx.den.hlen) hl'
  obtain ⟨u, hu⟩ : ∃ u : ByteArray, s ++ ⟨#[47]⟩ = u := ⟨_, rfl⟩
  obtain ⟨v, hv⟩ : ∃ v : ByteArray, u ++ t = v := ⟨_, rfl⟩
  have hsz3 : u.size = s.size + 1 := by rw [← hu, ByteArray.size_append]; rfl
  have hadd1 : ∀ X, Sem.run Tryz.prog (Op.stringOp .add s ⟨#[47]⟩) X = .ok (.string u) X := fun X => by rw [← hu]; exact run_string_add_sum X s ⟨#[47]⟩ (by show s.size + 1 ≤ _; omega)
  have hadd2 : ∀ X, Sem.run Tryz.prog (Op.stringOp .add u t) X = .ok (.string v) X := fun X => by rw [← hv]; exact run_string_add_sum X u t (by omega)
  have HE : Hid (v = strOfNums (rnums a)) := by show _ = _; rw [← hv, ← hu, ← hs, ← ht]; exact rnums_two h1
  clear hu hv hsz1 hsz2 hsz3
  have KW : Hid (∀ w' : World, Below W.heap.size W w' → (Below W.heap.size W w' ∧ w'.cell? ⟨w.heap.size, 0, none⟩ = some (.bool na) ∧ w'.cell? ⟨w.heap.size, 1, none⟩ = some (.slice ao la ca) ∧ w'.cell? ⟨w.heap.size, 2, none⟩ = some (.slice po lp cp))) := fun w' h => ⟨h, (h.cell (p := ⟨w.heap.size, 0, none⟩) (by show w.heap.size < _; omega)).trans hT.a.1, (h.cell (p := ⟨w.heap.size, 1, none⟩) (by show w.heap.size < _; omega)).trans hT.a.2.1, (h.cell (p := ⟨w.heap.size, 2, none⟩) (by show w.heap.size < _; omega)).trans hT.a.2.2⟩
  clear hx hT0 hP0 hs ht h1
  go_enter Tryz.func18, Tryz.ntmps18
  go_upto_region 5 with (first
   | (go_at_call 10; rw [← hT.eq]; refine (rcheck_good na ao po la ca lp cp a _ HX.out.1 (by omega) (by omega) HX.out.2.1).mono ?_; rintro e w1 ⟨rfl, hb1⟩; obtain ⟨p0, p1, p2⟩ := hT.a.later hb1 (by omega))
   | (go_at_call 49; refine (isOne_any po lp cp a.den _ (HX.out.1.den.later hb1) false HD.out).mono ?_; rintro e w2 ⟨rfl, hw2⟩; replace hw2 := hw2.symm; subst hw2))
  have KU : Hid (∀ w' : World, Below w1.heap.size w1 w' → (Below w1.heap.size w1 w' ∧ w'.cell? ⟨w.heap.size, 0, none⟩ = some (.bool na) ∧ w'.cell? ⟨w.heap.size, 1, none⟩ = some (.slice ao la ca) ∧ w'.cell? ⟨w.heap.size, 2, none⟩ = some (.slice po lp cp))) := fun w' h => ⟨h, (KW.out w' (bnext hb1 h)).2⟩
  have HB1 : Hid (Below W.heap.size W w1) := hb1
  clear p0 p1 p2 KW hb1 hT
  have hzU : w1.heap.size ≤ w1.drew.heap.size := Nat.le_refl _
  have S0 : Step8 0 := ⟨trivial⟩
  go_region_held3 (fun w' => (Below w1.heap.size w1 w' ∧ w'.cell? ⟨w.heap.size, 0, none⟩ = some (.bool na) ∧ w'.cell? ⟨w.heap.size, 1, none⟩ = some (.slice ao la ca) ∧ w'.cell? ⟨w.heap.size, 2, none⟩ = some (.slice po lp cp)))
   (with_reducible (first | exact KU.out _ (Below.refl _ _).drew | exact KU.out _ (by assumption) | (refine KU.out _ ?_; (repeat (first | refine below_alloc ?_ (Nat.le_refl _) | refine Below.drew ?_ | refine below_set ?_ (by omega))); (first | exact hbF2 | exact hbF1 | exact Below.refl _ _))))
   (first
    | (have _t := S0; go_at_call 60; refine with_held (S := fun w9 => Below w1.heap.size w1 w9) (by show Below _ _ _; with_reducible ((repeat (first | refine below_alloc ?_ (Nat.le_refl _) | refine Below.drew ?_ | refine below_set ?_ (by omega))); (first | exact hbF2 | exact hbF1 | exact Below.refl _ _))) (fun hS => ?_); refine (HC1.out _ (bnext HB1.out hS)).mono ?_; rintro e f1 ⟨rfl, hb⟩; skip; have hbF1 : Below w1.heap.size w1 f1 := bnext hS hb; have hzF1 := hbF1.size; clear hS hb S0; have S1 : Step8 1 := ⟨trivial⟩)
    | (have _t := S1; go_at_call 60; refine with_held (S := fun w9 => Below w1.heap.size w1 w9) (by show Below _ _ _; with_reducible ((repeat (first | refine below_alloc ?_ (Nat.le_refl _) | refine Below.drew ?_ | refine below_set ?_ (by omega))); (first | exact hbF2 | exact hbF1 | exact Below.refl _ _))) (fun hS => ?_); refine with_held (S := fun w9 => Below f1.heap.size f1 w9) (by show Below _ _ _; with_reducible ((repeat (refine below_alloc ?_ (Nat.le_refl _))); exact Below.refl _ _)) (fun hS2 => ?_); refine (HC2.out _ (bnext HB1.out hS)).mono ?_; rintro e f2 ⟨rfl, hb⟩; skip; have hbF2 : Below w1.heap.size w1 f2 := bnext hS hb; have hzF2 := hbF2.size; clear hS hb S1; clear hS2; skip))
  all_goals go_wp2
  all_goals go_ret
  all_goals exact ⟨by rw [← HE.out]; rfl, bnext HW.out (bnext HB1.out hbF2)⟩
def SomeRat (w w' : World) (e : Ending) (ok : Value) (r : Rat) : Prop := ∃ neg ao l c bo lb cb, e = .returned (.tuple #[.agg #[.bool neg, .slice ao l c, .slice bo lb cb], ok]) ∧ RatAt w' neg ao l c bo lb cb r ∧ Below w.heap.size w w'
def ReadsAs (x : ByteArray) (v : Int) : Prop := ∀ X : World, Calls Tryz.prog 138 #[.string x] X fun e w' => ∃ n ao l c, e = .returned (.tuple #[.agg #[.bool n, .slice ao l c], .int .i64 0]) ∧ IntAt w' n ao l c v ∧ Below X.heap.size X w'
theorem row_kept3 {w : World} {p : Option Addr} {m k r : Nat} {zs : List Int} {x y z : Value} {n9 : Bool} {o9 p9 : Option Addr} {l9 c9 m9 d9 : Nat} (hr : RowAt w .u64 p m k zs) (hf : Boxed3 w r n9 o9 l9 c9 p9 m9 d9) : RowAt (((w.setCell ⟨r, 0, none⟩ x).setCell ⟨r, 1, none⟩ y).setCell ⟨r, 2, none⟩ z) .u64 p m k zs := by
 obtain ⟨f0, f1, f2⟩ := hf
 refine ⟨hr.hlen, hr.hcap, hr.hnil, ?_⟩
 rcases hr.hat with h0 | ⟨b, off, h1, hlt, h2⟩
 ·
  exact Or.inl h0
 ·
  refine Or.inr ⟨b, off, h1, by simpa using hlt, fun t ht => ?_⟩
  have h3 := h2 t ht
  by_cases e : b = r
  ·
   subst e
   have n0 : off + t ≠ 0 := fun e => by rw [e] at h3; rw [h3] at f0; cases f0
   have n1 : off + t ≠ 1 := fun e => by rw [e] at h3; rw [h3] at f1; cases f1
   have n2 : off + t ≠ 2 := fun e => by rw [e] at h3; rw [h3] at f2; cases f2
   rw [setCell_ne (fun e => n2 e.2), setCell_ne (fun e => n1 e.2), setCell_ne (fun e => n0 e.2)]; exact h3
  ·
   rw [cell_off e, cell_off e, cell_off e]; exact h3
theorem boxed_set {w : World} {r : Nat} {x y z : Value} {n : Bool} {o p : Option Addr} {l c m d : Nat} (h0 : w.cell? ⟨r, 0, none⟩ = some x) (h1 : w.cell? ⟨r, 1, none⟩ = some y) (h2 : w.cell? ⟨r, 2, none⟩ = some z) : Boxed3 (((w.setCell ⟨r, 0, none⟩ (.bool n)).setCell ⟨r, 1, none⟩ (.slice o l c)).setCell ⟨r, 2, none⟩ (.slice p m d)) r n o l c p m d :=
 ⟨by simp [go_sem, h0, h1, h2], by simp [go_sem, h0, h1, h2], by simp [go_sem, h0, h1, h2]⟩
theorem int_kept3 {w : World} {n : Bool} {p : Option Addr} {m k r : Nat} {v : Int} {x y z : Value} {n9 : Bool} {o9 p9 : Option Addr} {l9 c9 m9 d9 : Nat} (h : IntAt w n p m k v) (hf : Boxed3 w r n9 o9 l9 c9 p9 m9 d9) : IntAt (((w.setCell ⟨r, 0, none⟩ x).setCell ⟨r, 1, none⟩ y).setCell ⟨r, 2, none⟩ z) n p m k v := ⟨h.sg, row_kept3 h.row hf⟩
theorem rat_kept {w : World} {neg : Bool} {ao bo : Option Addr} {l c lb cb r : Nat} {a : Rat} {x y z : Value} {n9 : Bool} {o9 p9 : Option Addr} {l9 c9 m9 d9 : Nat} (h : RatAt w neg ao l c bo lb cb a) (hf : Boxed3 w r n9 o9 l9 c9 p9 m9 d9) : RatAt (((w.setCell ⟨r, 0, none⟩ x).setCell ⟨r, 1, none⟩ y).setCell ⟨r, 2, none⟩ z) neg ao l c bo lb cb a :=
 ⟨int_kept3 h.num hf, row_kept3 h.den hf⟩
theorem rat_whole {w : World} {neg : Bool} {ao : Option Addr} {l c : Nat} {a : Rat} (h : IntAt w neg ao l c a.num) (hd : a.den = 1) : RatAt (w.alloc (.cells #[.int .u64 1] 59)) neg ao l c (some ⟨w.heap.size, 0, none⟩) 1 1 a :=
 ⟨h.later ((Below.refl _ _).alloc (Nat.le_refl _) _), by rw [hd, one_word]; exact (Own.whole (B := 0) (Blk.new w .u64 59 [1]) (Nat.zero_le _) rfl).row⟩
theorem read_box {y2 y4 : World} {n2 : Bool} {o2 : Option Addr} {l2 c2 : Nat} {O : Obj} (hb : Below (y2.alloc (.cells #[.bool n2, .slice o2 l2 c2] 26)).heap.size (y2.alloc (.cells #[.bool n2, .slice o2 l2 c2] 26)) y4) : Boxed (y4.alloc O) y2.heap.size n2 o2 l2 c2 := by
 have h1 : Boxed (y2.alloc (.cells #[.bool n2, .slice o2 l2 c2] 26)) y2.heap.size n2 o2 l2 c2 := ⟨by simp [go_sem], by simp [go_sem]⟩
 have h2 := h1.later hb (by simp)
 exact h2.later ((Below.refl _ _).alloc (Nat.le_refl _) O) (cell_lt h2.1)
structure R1 (w W : World) : Prop where
 eq : W = w.alloc (.cells #[.bool false, .slice none 0 0, .slice none 0 0] 28)
 below : Below w.heap.size w W
 size : W.heap.size = w.heap.size + 1
 r : Fresh3 W w.heap.size
theorem R1.mk' (w : World) : ∃ W, R1 w W := ⟨_, rfl, (Below.refl _ _).alloc (Nat.le_refl _) _, by simp, ⟨fun j => by simp [go_sem], by simp [go_sem], by simp [go_sem], by simp [go_sem]⟩⟩
theorem read_one (s : ByteArray) (a : Rat) (w : World) (hs : (47 : UInt8) ∉ s.data.toList) (hd : a.den = 1) (hr : ReadsAs s a.num) :
  Calls Tryz.prog 113 #[.string s] w fun e w' => SomeRat w w' e (.bool true) a := by
 obtain ⟨W, hT⟩ := R1.mk' w
 have hsz := hT.size
 have hcut : ∀ X, Calls Tryz.prog 137 #[.string s, .string ⟨#[47]⟩] X fun e w' => e = .returned (.tuple #[.string s, .string ⟨#[]⟩, .bool false]) ∧ Below X.heap.size X w' := fun X => cut_miss s X hs
 have HR : Hid (ReadsAs s a.num ∧ a.den = 1) := ⟨hr, hd⟩
 clear hs hr hd
 go_enter Tryz.func113, Tryz.ntmps113
 go_wp2_with (first
  | (go_at_call 137; rw [← hT.eq]; refine (hcut _).mono ?_; rintro e w1 ⟨rfl, hb1⟩)
  | (go_at_call 138; refine (HR.out.1 _).mono ?_; rintro e y2 ⟨n2, o2, l2, c2, rfl, hi2, hb2⟩; have H2 : Hid (IntAt y2 n2 o2 l2 c2 a.num ∧ Below W.heap.size W y2) := ⟨hi2, bnext hb1 hb2⟩; clear hi2 hb2; obtain ⟨k5, k2, k3, k4⟩ := hT.r.later H2.out.2 (by omega); have hlt : w.heap.size < y2.heap.size := (by have := H2.out.2.size; omega); have hne : w.heap.size ≠ y2.heap.size := (by omega)))
 have hne2 : w.heap.size ≠ y2.heap.size + 1 := by omega
 have hR : RatAt (((((y2.setCell ⟨w.heap.size, 0, none⟩ (.bool n2)).setCell ⟨w.heap.size, 1, none⟩ (.slice o2 l2 c2)).setCell ⟨w.heap.size, 2, none⟩ (.slice (some ⟨y2.heap.size + 1, 0, none⟩) 1 1)).alloc (.cells #[.bool n2, .slice o2 l2 c2] 26)).alloc (.cells #[.int .u64 1] 59)) n2 o2 l2 c2 (some ⟨y2.heap.size + 1, 0, none⟩) 1 1 a := by
  have := rat_whole (a := a) (int_alloc (o := .cells #[.bool n2, .slice o2 l2 c2] 26) (int_kept3 (x := .bool n2) (y := .slice o2 l2 c2) (z := .slice (some ⟨y2.heap.size + 1, 0, none⟩) 1 1) H2.out.1 (r := w.heap.size) ⟨k2, k3, k4⟩)) HR.out.2
  simpa using this
 exact bodyPost_ret (v := .tuple #[.agg #[.bool n2, .slice o2 l2 c2, .slice (some ⟨y2.heap.size + 1, 0, none⟩) 1 1], .bool true]) (by simp [results, Tryz.results113, go_sem, k2, k3, k4, hlt, hne, hne2, Nat.lt_succ_of_lt hlt]) rfl
  ⟨_, _, _, _, _, _, _, rfl, hR, below_alloc (below_alloc (below_store3 (bnext hT.below H2.out.2) (Nat.le_refl _) _ _ _) (Nat.le_refl _)) (Nat.le_refl _)⟩
theorem read_two (s : ByteArray) (X Y : List UInt8) (a : Rat) (w : World) (hs : s.data.toList = X ++ 47 :: Y) (hX : (47 : UInt8) ∉ X) (hsz0 : s.size ≤ 9223372036854775807) (hd : a.den ≠ 1) (hr1 : ReadsAs ⟨X.toArray⟩ a.num) (hr2 : ReadsAs ⟨Y.toArray⟩ (a.den : Int)) (hz : Sz a 2000) (hT0 : TabAt 0 Lib.deBruijn64tab w) :
  Calls Tryz.prog 113 #[.string s] w fun e w' => SomeRat w w' e (.bool true) a := by
 obtain ⟨W, hT⟩ := R1.mk' w
 have hsz := hT.size
 have hcut : ∀ Z, Calls Tryz.prog 137 #[.string s, .string ⟨#[47]⟩] Z fun e w' => e = .returned (.tuple #[.string ⟨X.toArray⟩, .string ⟨Y.toArray⟩, .bool true]) ∧ Below Z.heap.size Z w' := fun Z => cut_hit s X Y Z hs hX hsz0
 generalize (⟨X.toArray⟩ : ByteArray) = x at hcut hr1
 generalize (⟨Y.toArray⟩ : ByteArray) = y at hcut hr2
 have HR : Hid (ReadsAs x a.num ∧ ReadsAs y (a.den : Int) ∧ Sz a 2000 ∧ TabAt 0 Lib.deBruijn64tab W) := ⟨hr1, hr2, hz, tab_later hT0 hT.below⟩
 have HD : Hid (decide (a.den = 1) = false) := decide_eq_false hd
 have HG : Hid (decide (Nat.gcd a.num.natAbs a.den = 1) = true) := decide_eq_true a.reduced
 have HS : Hid (cmpI (a.den : Int) 0 = 1) := cmpI_gt (by have := a.den_pos; omega)
 have HN : Hid (sgB (a.den : Int) = false) := sgB_nat _
 clear hs hX hr1 hr2 hd hz hT0
 go_enter Tryz.func113, Tryz.ntmps113
 go_wp2_with (first
  | (go_at_call 137; rw [← hT.eq]; refine (hcut _).mono ?_; rintro e w1 ⟨rfl, hb1⟩)
  | (go_at_call 138; have _t := H2; refine (HR.out.2.1 _).mono ?_; rintro e y4 ⟨n4, o4, l4, c4, rfl, hi4, hb4⟩; obtain rfl : n4 = false := (hi4.sg.trans HN.out); have H4 : Hid (IntAt y4 n2 o2 l2 c2 a.num ∧ IntAt y4 false o4 l4 c4 (a.den : Int) ∧ Below W.heap.size W y4) := ⟨(int_alloc (o := .cells #[.bool n2, .slice o2 l2 c2] 26) H2.out.1).later hb4, hi4, bnext (below_alloc H2.out.2 (Nat.le_refl _)) hb4⟩; have hl4 : l4 ≤ 2000 := (by rw [hi4.row.hlen, Int.natAbs_natCast]; exact HR.out.2.2.1.2); have HV : Hid (Boxed (y4.alloc (.cells #[.bool false, .slice o4 l4 c4] 26)) y2.heap.size n2 o2 l2 c2 ∧ Boxed (y4.alloc (.cells #[.bool false, .slice o4 l4 c4] 26)) y4.heap.size false o4 l4 c4 ∧ Below W.heap.size W (y4.alloc (.cells #[.bool false, .slice o4 l4 c4] 26))) := ⟨read_box hb4, ⟨by simp [go_sem], by simp [go_sem]⟩, below_alloc H4.out.2.2 (Nat.le_refl _)⟩; have hlt2 : y2.heap.size < y4.heap.size := (by have := hb4.size; simp at this; omega); clear hi4 hb4)
  | (go_at_call 138; refine (HR.out.1 _).mono ?_; rintro e y2 ⟨n2, o2, l2, c2, rfl, hi2, hb2⟩; have H2 : Hid (IntAt y2 n2 o2 l2 c2 a.num ∧ Below W.heap.size W y2) := ⟨hi2, bnext hb1 hb2⟩; have hl2 : l2 ≤ 2000 := (by rw [hi2.row.hlen]; exact HR.out.2.2.1.1); clear hi2 hb2)
  | (go_at_call 55; refine (bsign_any false o4 l4 c4 (a.den : Int) _ (int_alloc H4.out.2.1) (by omega) 1 HS.out).mono ?_; rintro e y5 ⟨rfl, hb5⟩; have hB5 : Below W.heap.size W y5 := bnext HV.out.2.2 hb5; obtain ⟨v0, v1⟩ := HV.out.1.later hb5 (by simp; omega); obtain ⟨d0, d1⟩ := HV.out.2.1.later hb5 (by simp); have H5 : Hid (IntAt y5 n2 o2 l2 c2 a.num ∧ IntAt y5 false o4 l4 c4 (a.den : Int)) := ⟨(int_alloc H4.out.1).later hb5, (int_alloc H4.out.2.1).later hb5⟩)
  | (go_at_call 49; refine (isOne_any o4 l4 c4 a.den _ (by have := H5.out.2.row; rw [Int.natAbs_natCast] at this; exact this) false HD.out).mono ?_; rintro e y6 ⟨rfl, hw6⟩; replace hw6 := hw6.symm; subst hw6)
  | (go_at_call 52; refine (apart_any o2 o4 l2 c2 l4 c4 a.num.natAbs a.den _ H5.out.1.row (by have := H5.out.2.row; rw [Int.natAbs_natCast] at this; exact this) a.den_pos (by omega) (by omega) (tab_later HR.out.2.2.2 hB5) true HG.out).mono ?_; rintro e y7 ⟨rfl, hb7⟩; have hz5 : y2.heap.size < y5.heap.size ∧ y4.heap.size < y5.heap.size := (by have := hb5.size; simp at this; omega); clear v0 v1 d0 d1; obtain ⟨v0, v1⟩ := (HV.out.1.later hb5 (by simp; omega)).later hb7 hz5.1; obtain ⟨d0, d1⟩ := (HV.out.2.1.later hb5 (by simp)).later hb7 hz5.2; obtain ⟨k5, k2, k3, k4⟩ := hT.r.later (bnext hB5 hb7) (by omega)))
 have hR : RatAt y7 n2 o2 l2 c2 o4 l4 c4 a := ⟨H5.out.1.later hb7, by have := (H5.out.2.later hb7).row; rw [Int.natAbs_natCast] at this; exact this⟩
 exact bodyPost_ret (v := .tuple #[.agg #[.bool n2, .slice o2 l2 c2, .slice o4 l4 c4], .bool true]) (by simp [results, Tryz.results113, go_sem, k2, k3, k4]) rfl
  ⟨_, _, _, _, _, _, _, rfl, rat_kept hR ⟨k2, k3, k4⟩, below_store3 (bnext hT.below (bnext hB5 hb7)) (Nat.le_refl _) _ _ _⟩
theorem parse_rat (s : ByteArray) (a : Rat) (w : World) (hcon : ∀ X, Below w.heap.size w X → Calls Tryz.prog 113 #[.string s] X fun e w' => SomeRat X w' e (.bool true) a) :
  Calls Tryz.prog 78 #[.string s] w fun e w' => SomeRat w w' e (.int .i64 0) a := by
 obtain ⟨W, hT⟩ := R1.mk' w
 have hsz := hT.size
 go_enter Tryz.func78, Tryz.ntmps78
 go_wp2_with (go_at_call 113; rw [← hT.eq]; refine (hcon _ hT.below).mono ?_; rintro e w1 ⟨n2, o2, l2, c2, o4, l4, c4, rfl, hr1, hb1⟩; obtain ⟨k5, k2, k3, k4⟩ := hT.r.later hb1 (by omega))
 have hY1 := boxed_set (n := n2) (o := o2) (l := l2) (c := c2) (p := o4) (m := l4) (d := c4) k2 k3 k4
 have hY2 := rat_kept (x := .bool n2) (y := .slice o2 l2 c2) (z := .slice o4 l4 c4) (r := w.heap.size) hr1 ⟨k2, k3, k4⟩
 have hY3 := below_store3 (r := w.heap.size) (bnext hT.below hb1) (Nat.le_refl _) (.bool n2) (.slice o2 l2 c2) (.slice o4 l4 c4)
 revert hY1 hY2 hY3
 generalize ((w1.setCell ⟨w.heap.size, 0, none⟩ (.bool n2)).setCell ⟨w.heap.size, 1, none⟩ (.slice o2 l2 c2)).setCell ⟨w.heap.size, 2, none⟩ (.slice o4 l4 c4) = Y
 rintro ⟨j0, j1, j2⟩ hY2 hY3
 exact bodyPost_ret (v := .tuple #[.agg #[.bool n2, .slice o2 l2 c2, .slice o4 l4 c4], .int .i64 0]) (by simp [results, Tryz.results78, go_sem, j0, j1, j2]) rfl
  ⟨_, _, _, _, _, _, _, rfl, rat_kept hY2 ⟨j0, j1, j2⟩, below_store3 hY3 (Nat.le_refl _) _ _ _⟩
theorem parse_text {a : Rat} (hz : Sz a 50) (s : ByteArray) (w : World) (hs : s = strOfNums (rnums a)) (hT0 : TabAt 0 Lib.deBruijn64tab w) :
  Calls Tryz.prog 78 #[.string s] w fun e w' => SomeRat w w' e (.int .i64 0) a := by
 have hb : ∀ (x : List Int), (strOfNums x).data.toList = x.map fun n => UInt8.ofNat n.toNat := fun x => rfl
 have hno : ∀ n : Nat, (47 : UInt8) ∉ (strOfNums (dnums n)).data.toList := fun n h => by
  rw [hb] at h
  obtain ⟨z, hz, e⟩ := List.mem_map.1 h
  have := (dnums_tells n n (Nat.le_refl _)).2.1 z hz
  have e2 := congrArg UInt8.toNat e
  rw [UInt8.toNat_ofNat'] at e2
  have e3 : (47 : UInt8).toNat = 47 := rfl
  omega
 have hni : ∀ v : Int, (47 : UInt8) ∉ (strOfNums (itext v)).data.toList := fun v h => by
  rw [hb] at h
  obtain ⟨z, hz, e⟩ := List.mem_map.1 h
  unfold itext at hz
  rcases List.mem_append.1 hz with h1 | h1
  ·
   have : z = 45 := by split at h1 <;> simp_all
   subst this; exact absurd e (by decide)
  ·
   exact hno v.natAbs (by rw [hb]; exact List.mem_map.2 ⟨z, h1, e⟩)
 have hl1 : (dnums a.num.natAbs).length ≤ 1024 := by have := dnums_len (n := a.num.natAbs) rfl; have := hz.1; omega
 have hl2 : (dnums a.den).length ≤ 1024 := by have := dnums_len (n := a.den) rfl; have := hz.2; omega
 have hr1 : ReadsAs (strOfNums (itext a.num)) a.num := fun X => bparse_text a.num X hl1
 refine parse_rat s a w fun X hX => ?_
 by_cases h1 : a.den = 1
 ·
  have e : s = strOfNums (itext a.num) := by rw [hs, rnums, if_pos h1]
  rw [e]
  exact read_one _ a X (hni _) h1 hr1
 ·
  have e : s.data.toList = (strOfNums (itext a.num)).data.toList ++ 47 :: (strOfNums (dnums a.den)).data.toList := by
   rw [hs, rnums, if_neg h1, hb, hb, hb]; simp
  have hr2 : ReadsAs (strOfNums (dnums a.den)) (a.den : Int) := fun X => by
   have := bparse_text (a.den : Int) X (by rw [Int.natAbs_natCast]; exact hl2)
   rw [itext_nat] at this; exact this
  have hsz0 : s.size ≤ 9223372036854775807 := by
   rw [hs, strOfNums_size, rnums, if_neg h1]
   have := dnums_len (n := a.num.natAbs) rfl
   have := hz.1
   have h3 : (itext a.num).length ≤ (dnums a.num.natAbs).length + 1 := by unfold itext; rw [List.length_append]; split <;> simp <;> omega
   simp; omega
  exact read_two s _ _ a X e (hni _) hsz0 h1 hr1 hr2 (hz.mono (by decide)) (tab_later hT0 hX)
end Go.Proofs.YtiiefpnkpfliiaaGreatDoor
namespace Go.Proofs.YtiiefpnkpfliiaaGreatDoor
open Go.RowKit
theorem eqraw_same (neg : Bool) (ao po bo qo : Option Addr) (la ca lp cp lb cb lq cq : Nat) (zs ds : List Int) (w : World) (hx : RowAt w .u64 ao la ca zs) (hx2 : RowAt w .u64 po lp cp ds) (hy : RowAt w .u64 bo lb cb zs) (hy2 : RowAt w .u64 qo lq cq ds) (hl : la ≤ 1073741824) (hl' : lp ≤ 1073741824) :
  Calls Tryz.prog 14 #[.agg #[.bool neg, .slice ao la ca, .slice po lp cp], .agg #[.bool neg, .slice bo lb cb, .slice qo lq cq]] w fun e w' => e = .returned (.bool true) ∧ Below w.heap.size w w' := by
 obtain ⟨W, hW⟩ := RTwo2.mk' w neg neg ao po bo qo la ca lp cp lb cb lq cq
 have hsz := hW.size
 have hcon1 : Calls Tryz.prog 11 #[.agg #[.bool neg, .slice ao la ca], .agg #[.bool neg, .slice bo lb cb]] W fun e w' => e = .returned (.bool true) ∧ Below W.heap.size W w' := (eqint_any neg neg ao bo la ca lb cb zs zs W (hx.later hW.below) (hy.later hW.below) (by omega)).mono fun e w' h => by simpa using h
 have hcon : ∀ X, Below W.heap.size W X → Calls Tryz.prog 53 #[.slice po lp cp, .slice qo lq cq] X fun e w' => e = .returned (.bool true) ∧ Below X.heap.size X w' := fun X h => (eqwords_any po qo lp cp lq cq ds ds X ((hx2.later hW.below).later h) ((hy2.later hW.below).later h) (by omega)).mono fun e w' k => by rw [decide_eq_true rfl] at k; exact k
 clear hx hy hx2 hy2
 go_enter Tryz.func14, Tryz.ntmps14
 go_wp2_with (first
  | (go_at_call 11; rw [← hW.eq]; refine hcon1.mono ?_; rintro e w1 ⟨rfl, hb1⟩; obtain ⟨p0, p1, p2⟩ := hW.a.later hb1 (by omega); obtain ⟨q0, q1, q2⟩ := hW.b.later hb1 (by omega))
  | (go_at_call 53; refine (hcon _ hb1).mono ?_; rintro e w2 ⟨rfl, hb2⟩))
 go_ret
 exact ⟨rfl, bnext hW.below (bnext hb1 hb2)⟩
end Go.Proofs.YtiiefpnkpfliiaaGreatDoor
namespace Go.Proofs.YtiiefpnkpfliiaaGreatDoor
open Go.RowKit
def SomeR (w w' : World) (e : Ending) (r : Rat) : Prop := ∃ neg ao l c bo lb cb, e = .returned (.agg #[.bool neg, .slice ao l c, .slice bo lb cb]) ∧ RatAt w' neg ao l c bo lb cb r ∧ Below w.heap.size w w'
structure IR2 (w W : World) (na : Bool) (ao : Option Addr) (la ca : Nat) : Prop where
 eq : W = (w.alloc (.cells #[.bool na, .slice ao la ca] 26)).alloc (.cells #[.bool false, .slice none 0 0, .slice none 0 0] 28)
 below : Below w.heap.size w W
 size : W.heap.size = w.heap.size + 2
 a : Boxed W w.heap.size na ao la ca
 r : Fresh3 W (w.heap.size + 1)
theorem IR2.mk' (w : World) (na : Bool) (ao : Option Addr) (la ca : Nat) : ∃ W, IR2 w W na ao la ca :=
 ⟨_, rfl, ((Below.refl _ _).alloc (Nat.le_refl _) _).alloc (by simp) _, by simp, ⟨by simp [go_sem], by simp [go_sem]⟩, ⟨fun j => by simp [go_sem], by simp [go_sem], by simp [go_sem], by simp [go_sem]⟩⟩
theorem qfrom_any (na : Bool) (ao : Option Addr) (la ca : Nat) (zs : List Int) (w : World) (hx : RowAt w .u64 ao la ca zs) :
  Calls Tryz.prog 26 #[.agg #[.bool na, .slice ao la ca]] w fun e w' => ∃ bo lb cb, e = .returned (.agg #[.bool na, .slice ao la ca, .slice bo lb cb]) ∧ RowAt w' .u64 ao la ca zs ∧ Own w.heap.size w' .u64 59 bo lb cb (mag 1) ∧ Below w.heap.size w w' := by
 obtain ⟨W, hT⟩ := IR2.mk' w na ao la ca
 have hsz := hT.size
 have KW : Hid (∀ w' : World, Below W.heap.size W w' → w'.cell? ⟨w.heap.size, 0, none⟩ = some (.bool na) ∧ w'.cell? ⟨w.heap.size, 1, none⟩ = some (.slice ao la ca)) := fun w' h => ⟨(h.cell (p := ⟨w.heap.size, 0, none⟩) (by show w.heap.size < _; omega)).trans hT.a.1, (h.cell (p := ⟨w.heap.size, 1, none⟩) (by show w.heap.size < _; omega)).trans hT.a.2⟩
 have KS : Hid (∀ X : World, Below W.heap.size W X → ∀ x y z, (fun w' : World => w'.cell? ⟨w.heap.size, 0, none⟩ = some (.bool na) ∧ w'.cell? ⟨w.heap.size, 1, none⟩ = some (.slice ao la ca)) (((X.setCell ⟨w.heap.size + 1, 0, none⟩ x).setCell ⟨w.heap.size + 1, 1, none⟩ y).setCell ⟨w.heap.size + 1, 2, none⟩ z)) := fun X h x y z => by
  obtain ⟨h1, h2⟩ := KW.out X h
  (try dsimp only)
  rw [cell_off (by omega), cell_off (by omega), cell_off (by omega), cell_off (by omega), cell_off (by omega), cell_off (by omega)]
  exact ⟨h1, h2⟩
 have HF : Hid (Fresh3 W (w.heap.size + 1) ∧ Below w.heap.size w W ∧ RowAt w .u64 ao la ca zs) := ⟨hT.r, hT.below, hx⟩
 clear hx
 go_enter Tryz.func26, Tryz.ntmps26
 go_upto_region 1 with fail
 rw [← hT.eq]
 clear hT
 have hzU : W.heap.size ≤ W.drew.heap.size := Nat.le_refl _
 have S0 : Step8 0 := ⟨trivial⟩
 go_region_held3 (fun w' => (w'.cell? ⟨w.heap.size, 0, none⟩ = some (.bool na) ∧ w'.cell? ⟨w.heap.size, 1, none⟩ = some (.slice ao la ca)))
  (with_reducible (first | exact KS.out _ hbF1 _ _ _ | exact KW.out _ (Below.refl _ _).drew | exact KW.out _ (by assumption) | (refine KW.out _ ?_; (repeat (first | refine below_alloc ?_ (Nat.le_refl _) | refine Below.drew ?_ | refine below_set ?_ (by omega))); (first | exact hbF1 | exact Below.refl _ _))))
  (first
   | (have _t := S0; go_at_call 63; refine with_held (S := fun w9 => Below W.heap.size W w9) (by show Below _ _ _; with_reducible ((repeat (first | refine below_alloc ?_ (Nat.le_refl _) | refine Below.drew ?_ | refine below_set ?_ (by omega))); (first | exact hbF1 | exact Below.refl _ _))) (fun hS => ?_); refine (nof_at 1 1 _ rfl (by decide)).mono ?_; rintro e f1 ⟨o1, l1, c1, rfl, ho, hb⟩; have H1 : Hid (Own W.heap.size f1 .u64 59 o1 l1 c1 (mag 1) ∧ Below W.heap.size W f1) := ⟨ho.mono hS.size, bnext hS hb⟩; clear ho; obtain ⟨k5, k2, k3, k4⟩ := HF.out.1.later (bnext hS hb) (by omega); have hbF1 : Below W.heap.size W f1 := bnext hS hb; have hzF1 := hbF1.size; clear hS hb S0; skip))
 all_goals go_wp2
 have hs1 := H1.out.2.size
 exact bodyPost_ret (v := .agg #[.bool na, .slice ao la ca, .slice o1 l1 c1]) (by simp [results, Tryz.results26, go_sem, k2, k3, k4]) rfl
  ⟨_, _, _, rfl, HF.out.2.2.later (below_store3 (bnext HF.out.2.1 H1.out.2) (by omega) _ _ _), (H1.out.1.store3 (by omega) _ _ _).mono (by omega), below_store3 (bnext HF.out.2.1 H1.out.2) (by omega) _ _ _⟩
end Go.Proofs.YtiiefpnkpfliiaaGreatDoor
namespace Go.Proofs.YtiiefpnkpfliiaaGreatDoor
open Go.RowKit
theorem cmp_parts {n m : Int} {ad bd : Nat} (ha : 0 < ad) (hb : 0 < bd) (h : cmpI n 0 ≠ cmpI m 0 ∨ cmpI n 0 = 0) : cmpI (cmpI n 0) (cmpI m 0) = cmpI (n * (bd : Int)) (m * (ad : Int)) := by
 have p1 : ∀ {x : Int} {k : Nat}, 0 < k → 0 < x → 0 < x * (k : Int) := fun hk hx => Int.mul_pos hx (by omega)
 have p2 : ∀ {x : Int} {k : Nat}, 0 < k → x < 0 → x * (k : Int) < 0 := fun hk hx => Int.mul_neg_of_neg_of_pos hx (by omega)
 rcases Int.lt_trichotomy n 0 with h1 | h1 | h1 <;> rcases Int.lt_trichotomy m 0 with h2 | h2 | h2
 ·
  exfalso; revert h; unfold cmpI; simp [h1, h2]
 ·
  subst h2; have := p2 hb h1; unfold cmpI; simp [h1, this]
 ·
  have := p2 hb h1; have := p1 ha h2; unfold cmpI; rw [if_pos (show n * (bd : Int) < m * (ad : Int) by omega), if_pos h1, if_neg (show ¬ m < 0 by omega), if_pos h2]; decide
 ·
  subst h1; have := p2 ha h2; unfold cmpI; rw [if_pos h2, Int.zero_mul, if_neg (show ¬ 0 < m * (ad : Int) by omega), if_pos this]; decide
 ·
  subst h1; subst h2; unfold cmpI; simp
 ·
  subst h1; have := p1 ha h2; unfold cmpI; rw [Int.zero_mul, if_pos this, if_neg (show ¬ m < 0 by omega), if_pos h2]; decide
 ·
  have := p1 hb h1; have := p2 ha h2; unfold cmpI; rw [if_neg (show ¬ n * (bd : Int) < m * (ad : Int) by omega), if_pos (show m * (ad : Int) < n * (bd : Int) by omega), if_neg (show ¬ n < 0 by omega), if_pos h1, if_pos h2]; decide
 ·
  subst h2; have := p1 hb h1; unfold cmpI; rw [Int.zero_mul, if_neg (show ¬ n * (bd : Int) < 0 by omega), if_pos this, if_neg (show ¬ n < 0 by omega), if_pos h1]; decide
 ·
  exfalso; revert h; unfold cmpI; rw [if_neg (show ¬ n < 0 by omega), if_pos h1, if_neg (show ¬ m < 0 by omega), if_pos h2]; decide
def cmpQ (a b : Rat) : Int := cmpI (a.num * (b.den : Int)) (b.num * (a.den : Int))
theorem cmpI_vals (n m : Int) : cmpI n m = -1 ∨ cmpI n m = 0 ∨ cmpI n m = 1 := by
 unfold cmpI
 split
 ·
  exact Or.inl rfl
 ·
  split
  ·
   exact Or.inr (Or.inr rfl)
  ·
   exact Or.inr (Or.inl rfl)
theorem isNaN_any (n : Int) (w : World) : Calls Tryz.prog 133 #[.int .i64 n] w fun e w' => e = .returned (.bool false) ∧ w' = w := by
 go_enter Tryz.func133, Tryz.ntmps133
 go_wp2
 go_ret
 exact ⟨by simp, rfl⟩
theorem compareInt_any (s t : Int) (w : World) (c : Int) (hc : cmpI s t = c) : Calls Tryz.prog 106 #[.int .i64 s, .int .i64 t] w fun e w' => e = .returned (.int .i64 c) ∧ w' = w := by
 rcases Int.lt_trichotomy s t with h | h | h
 ·
  obtain rfl : c = -1 := by rw [← hc]; unfold cmpI; rw [if_pos h]
  clear hc
  go_enter Tryz.func106, Tryz.ntmps106
  go_wp2_with (go_at_call 133; refine (isNaN_any _ _).mono ?_; rintro e x ⟨rfl, hx⟩; replace hx := hx.symm; subst hx)
  go_ret
  exact ⟨rfl, rfl⟩
 ·
  subst h
  obtain rfl : c = 0 := by rw [← hc]; unfold cmpI; rw [if_neg (by omega), if_neg (by omega)]
  clear hc
  go_enter Tryz.func106, Tryz.ntmps106
  go_wp2_with (go_at_call 133; refine (isNaN_any _ _).mono ?_; rintro e x ⟨rfl, hx⟩; replace hx := hx.symm; subst hx)
  go_ret
  exact ⟨rfl, rfl⟩
 ·
  have h1 : ¬ s < t := by omega
  obtain rfl : c = 1 := by rw [← hc]; unfold cmpI; rw [if_neg h1, if_pos h]
  clear hc
  go_enter Tryz.func106, Tryz.ntmps106
  go_wp2_with (go_at_call 133; refine (isNaN_any _ _).mono ?_; rintro e x ⟨rfl, hx⟩; replace hx := hx.symm; subst hx)
  go_ret
  exact ⟨rfl, rfl⟩
theorem compare_rat (na nb : Bool) (ao po bo qo : Option Addr) (la ca lp cp lb cb lq cq : Nat) (a b : Rat) (w : World) (hx : RatAt w na ao la ca po lp cp a) (hy : RatAt w nb bo lb cb qo lq cq b) (ha : Sz a 10000) (hb : Sz b 10000) (c : Int) (hc : cmpQ a b = c) :
  Calls Tryz.prog 74 #[.agg #[.bool na, .slice ao la ca, .slice po lp cp], .agg #[.bool nb, .slice bo lb cb, .slice qo lq cq]] w fun e w' => e = .returned (.int .i64 c) ∧ Below w.heap.size w w' := by
 obtain ⟨W, hT⟩ := RTwo2.mk' w na nb ao po bo qo la ca lp cp lb cb lq cq
 have hsz := hT.size
 have HX : Hid (RatAt W na ao la ca po lp cp a ∧ RatAt W nb bo lb cb qo lq cq b ∧ Below w.heap.size w W) := ⟨hx.later hT.below, hy.later hT.below, hT.below⟩
 have hla : la ≤ 10000 := (hx.len ha).1
 have hlp : lp ≤ 10000 := (hx.len ha).2
 have hlb : lb ≤ 10000 := (hy.len hb).1
 have hlq : lq ≤ 10000 := (hy.len hb).2
 have KW : Hid (∀ w' : World, Below W.heap.size W w' → w'.cell? ⟨w.heap.size, 0, none⟩ = some (.bool na) ∧ w'.cell? ⟨w.heap.size, 1, none⟩ = some (.slice ao la ca) ∧ w'.cell? ⟨w.heap.size, 2, none⟩ = some (.slice po lp cp) ∧ w'.cell? ⟨w.heap.size + 1, 0, none⟩ = some (.bool nb) ∧ w'.cell? ⟨w.heap.size + 1, 1, none⟩ = some (.slice bo lb cb) ∧ w'.cell? ⟨w.heap.size + 1, 2, none⟩ = some (.slice qo lq cq)) := fun w' h => ⟨(h.cell (p := ⟨w.heap.size, 0, none⟩) (by show w.heap.size < _; omega)).trans hT.a.1, (h.cell (p := ⟨w.heap.size, 1, none⟩) (by show w.heap.size < _; omega)).trans hT.a.2.1, (h.cell (p := ⟨w.heap.size, 2, none⟩) (by show w.heap.size < _; omega)).trans hT.a.2.2, (h.cell (p := ⟨w.heap.size + 1, 0, none⟩) (by show w.heap.size + 1 < _; omega)).trans hT.b.1, (h.cell (p := ⟨w.heap.size + 1, 1, none⟩) (by show w.heap.size + 1 < _; omega)).trans hT.b.2.1, (h.cell (p := ⟨w.heap.size + 1, 2, none⟩) (by show w.heap.size + 1 < _; omega)).trans hT.b.2.2⟩
 obtain ⟨s, hs⟩ : ∃ s, cmpI a.num 0 = s := ⟨_, rfl⟩
 obtain ⟨t, ht⟩ : ∃ t, cmpI b.num 0 = t := ⟨_, rfl⟩
 have hs3 : s = -1 ∨ s = 0 ∨ s = 1 := hs ▸ cmpI_vals a.num 0
 have ht3 : t = -1 ∨ t = 0 ∨ t = 1 := ht ▸ cmpI_vals b.num 0
 have HC : Hid (cmpI a.num 0 = s ∧ cmpI b.num 0 = t ∧ cmpI (a.num * (b.den : Int)) (b.num * (a.den : Int)) = c) := ⟨hs, ht, hc⟩
 have HL : Hid ((mag (a.num * (b.den : Int)).natAbs).length ≤ 30000 ∧ (mag (b.num * (a.den : Int)).natAbs).length ≤ 30000) := by
  have h2 := mul_len a.num (b.den : Int)
  have h3 := mul_len b.num (a.den : Int)
  rw [Int.natAbs_natCast] at h2 h3
  have := ha.1; have := ha.2; have := hb.1; have := hb.2
  refine ⟨?_, ?_⟩ <;> omega
 clear hx hy ha hb hs ht hc
 go_enter Tryz.func74, Tryz.ntmps74
 go_upto_region 1 with fail
 rw [← hT.eq]
 clear hT
 have hzU : W.heap.size ≤ W.drew.heap.size := Nat.le_refl _
 have S0 : Step8 0 := ⟨trivial⟩
 go_region_held3 (fun w' => (w'.cell? ⟨w.heap.size, 0, none⟩ = some (.bool na) ∧ w'.cell? ⟨w.heap.size, 1, none⟩ = some (.slice ao la ca) ∧ w'.cell? ⟨w.heap.size, 2, none⟩ = some (.slice po lp cp) ∧ w'.cell? ⟨w.heap.size + 1, 0, none⟩ = some (.bool nb) ∧ w'.cell? ⟨w.heap.size + 1, 1, none⟩ = some (.slice bo lb cb) ∧ w'.cell? ⟨w.heap.size + 1, 2, none⟩ = some (.slice qo lq cq)))
  (with_reducible (first | exact KW.out _ (Below.refl _ _).drew | exact KW.out _ (by assumption) | (refine KW.out _ ?_; (repeat (first | refine below_alloc ?_ (Nat.le_refl _) | refine Below.drew ?_ | refine below_set ?_ (by omega))); (first | exact hbF2 | exact hbF1 | exact Below.refl _ _))))
  (first
   | (have _t := S0; go_at_call 55; refine with_held (S := fun w9 => Below W.heap.size W w9) (by show Below _ _ _; with_reducible ((repeat (first | refine below_alloc ?_ (Nat.le_refl _) | refine Below.drew ?_ | refine below_set ?_ (by omega))); (first | exact hbF2 | exact hbF1 | exact Below.refl _ _))) (fun hS => ?_); refine (bsign_any na ao la ca a.num _ (HX.out.1.num.later hS) (by omega) s HC.out.1).mono ?_; rintro e f1 ⟨rfl, hb⟩; skip; have hbF1 : Below W.heap.size W f1 := bnext hS hb; have hzF1 := hbF1.size; clear hS hb S0; have S1 : Step8 1 := ⟨trivial⟩)
   | (have _t := S1; go_at_call 55; refine with_held (S := fun w9 => Below W.heap.size W w9) (by show Below _ _ _; with_reducible ((repeat (first | refine below_alloc ?_ (Nat.le_refl _) | refine Below.drew ?_ | refine below_set ?_ (by omega))); (first | exact hbF2 | exact hbF1 | exact Below.refl _ _))) (fun hS => ?_); refine with_held (S := fun w9 => Below f1.heap.size f1 w9) (by show Below _ _ _; with_reducible ((repeat (refine below_alloc ?_ (Nat.le_refl _))); exact Below.refl _ _)) (fun hS2 => ?_); refine (bsign_any nb bo lb cb b.num _ (HX.out.2.1.num.later hS) (by omega) t HC.out.2.1).mono ?_; rintro e f2 ⟨rfl, hb⟩; skip; have hbF2 : Below W.heap.size W f2 := bnext hS hb; have hzF2 := hbF2.size; clear hS hb S1; clear hS2; skip))
 obtain ⟨U, hU⟩ : ∃ U, U = f2 := ⟨_, rfl⟩
 subst hU
 have HU : Hid (RatAt U na ao la ca po lp cp a ∧ RatAt U nb bo lb cb qo lq cq b ∧ Below w.heap.size w U) := ⟨HX.out.1.later hbF2, HX.out.2.1.later hbF2, bnext HX.out.2.2 hbF2⟩
 have KU : Hid (∀ w' : World, Below U.heap.size U w' → w'.cell? ⟨w.heap.size, 0, none⟩ = some (.bool na) ∧ w'.cell? ⟨w.heap.size, 1, none⟩ = some (.slice ao la ca) ∧ w'.cell? ⟨w.heap.size, 2, none⟩ = some (.slice po lp cp) ∧ w'.cell? ⟨w.heap.size + 1, 0, none⟩ = some (.bool nb) ∧ w'.cell? ⟨w.heap.size + 1, 1, none⟩ = some (.slice bo lb cb) ∧ w'.cell? ⟨w.heap.size + 1, 2, none⟩ = some (.slice qo lq cq)) := fun w' h => KW.out w' (bnext hbF2 h)
 clear HX hbF2 hzF2 hbF1 hzF1 KW
 by_cases hq : s ≠ t ∨ s = 0
 ·
  as_aux_lemma =>
  have HR : Hid (cmpI s t = c) := by
   have h1 := cmp_parts (n := a.num) (m := b.num) (ad := a.den) (bd := b.den) a.den_pos b.den_pos (by rw [HC.out.1, HC.out.2.1]; exact hq)
   rw [HC.out.1, HC.out.2.1, HC.out.2.2] at h1; exact h1
  clear HC
  rcases hs3 with rfl | rfl | rfl <;> rcases ht3 with rfl | rfl | rfl
  all_goals first
   | (exfalso; revert hq; decide)
   | (clear hq; go_wp2_with (go_at_call 106; refine (compareInt_any _ _ _ c HR.out).mono ?_; rintro e x ⟨rfl, hx⟩; replace hx := hx.symm; subst hx); go_ret; exact ⟨rfl, HU.out.2.2⟩)
 ·
  as_aux_lemma =>
  obtain ⟨hst, hs0⟩ : s = t ∧ s ≠ 0 := ⟨Decidable.byContradiction fun e => hq (Or.inl e), fun e => hq (Or.inr e)⟩
  subst hst
  have hs0' : (s == 0) = false := by simpa using hs0
  clear hq hs3 ht3 hs0
  go_upto_region 4 with fail
  have hzU : U.heap.size ≤ U.drew.heap.size := Nat.le_refl _
  have S0 : Step8 0 := ⟨trivial⟩
  go_region_held3 (fun w' => (w'.cell? ⟨w.heap.size, 0, none⟩ = some (.bool na) ∧ w'.cell? ⟨w.heap.size, 1, none⟩ = some (.slice ao la ca) ∧ w'.cell? ⟨w.heap.size, 2, none⟩ = some (.slice po lp cp) ∧ w'.cell? ⟨w.heap.size + 1, 0, none⟩ = some (.bool nb) ∧ w'.cell? ⟨w.heap.size + 1, 1, none⟩ = some (.slice bo lb cb) ∧ w'.cell? ⟨w.heap.size + 1, 2, none⟩ = some (.slice qo lq cq)))
   (with_reducible (first | exact KU.out _ (Below.refl _ _).drew | exact KU.out _ (by assumption) | (refine KU.out _ ?_; (repeat (first | refine below_alloc ?_ (Nat.le_refl _) | refine Below.drew ?_ | refine below_set ?_ (by omega))); (first | exact hbF3 | exact hbF2 | exact hbF1 | exact Below.refl _ _))))
   (first
    | (have _t := S0; go_at_call 108; refine with_held (S := fun w9 => Below U.heap.size U w9) (by show Below _ _ _; with_reducible ((repeat (first | refine below_alloc ?_ (Nat.le_refl _) | refine Below.drew ?_ | refine below_set ?_ (by omega))); (first | exact hbF3 | exact hbF2 | exact hbF1 | exact Below.refl _ _))) (fun hS => ?_); refine (timesNat_any na ao qo la ca lq cq a.num b.den _ (HU.out.1.num.later hS) (HU.out.2.1.den.later hS) (by omega) (by omega)).mono ?_; rintro e f1 ⟨n3, o3, l3, c3, rfl, hs, ho3, hb⟩; have H1 : Hid (IntAt f1 n3 o3 l3 c3 (a.num * (b.den : Int))) := ho3.int hs; have hl3 : l3 ≤ 30000 := (by rw [ho3.row.hlen]; exact HL.out.1); clear hs ho3; have hbF1 : Below U.heap.size U f1 := bnext hS hb; have hzF1 := hbF1.size; clear hS hb S0; have S1 : Step8 1 := ⟨trivial⟩)
    | (have _t := S1; go_at_call 108; refine with_held (S := fun w9 => Below U.heap.size U w9) (by show Below _ _ _; with_reducible ((repeat (first | refine below_alloc ?_ (Nat.le_refl _) | refine Below.drew ?_ | refine below_set ?_ (by omega))); (first | exact hbF3 | exact hbF2 | exact hbF1 | exact Below.refl _ _))) (fun hS => ?_); refine with_held (S := fun w9 => Below f1.heap.size f1 w9) (by show Below _ _ _; with_reducible ((repeat (refine below_alloc ?_ (Nat.le_refl _))); exact Below.refl _ _)) (fun hS2 => ?_); refine (timesNat_any nb bo po lb cb lp cp b.num a.den _ (HU.out.2.1.num.later hS) (HU.out.1.den.later hS) (by omega) (by omega)).mono ?_; rintro e f2 ⟨n4, o4, l4, c4, rfl, hs, ho4, hb⟩; have H2 : Hid (IntAt f2 n3 o3 l3 c3 (a.num * (b.den : Int)) ∧ IntAt f2 n4 o4 l4 c4 (b.num * (a.den : Int))) := ⟨H1.out.later (bnext hS2 hb), ho4.int hs⟩; have hl4 : l4 ≤ 30000 := (by rw [ho4.row.hlen]; exact HL.out.2); clear hs ho4; have hbF2 : Below U.heap.size U f2 := bnext hS hb; have hzF2 := hbF2.size; clear hS hb S1; clear hS2; have S2 : Step8 2 := ⟨trivial⟩)
    | (have _t := S2; go_at_call 107; refine with_held (S := fun w9 => Below U.heap.size U w9) (by show Below _ _ _; with_reducible ((repeat (first | refine below_alloc ?_ (Nat.le_refl _) | refine Below.drew ?_ | refine below_set ?_ (by omega))); (first | exact hbF3 | exact hbF2 | exact hbF1 | exact Below.refl _ _))) (fun hS => ?_); refine with_held (S := fun w9 => Below f2.heap.size f2 w9) (by show Below _ _ _; with_reducible ((repeat (refine below_alloc ?_ (Nat.le_refl _))); exact Below.refl _ _)) (fun hS2 => ?_); refine (bcmp_any n3 n4 o3 o4 l3 c3 l4 c4 _ _ _ (H2.out.1.later hS2) (H2.out.2.later hS2) (by omega) (by omega) c HC.out.2.2).mono ?_; rintro e f3 ⟨rfl, hb⟩; skip; have hbF3 : Below U.heap.size U f3 := bnext hS hb; have hzF3 := hbF3.size; clear hS hb S2; clear hS2; skip))
  all_goals go_wp2
  go_ret
  exact ⟨rfl, bnext HU.out.2.2 hbF3⟩
end Go.Proofs.YtiiefpnkpfliiaaGreatDoor
namespace Go.Proofs.YtiiefpnkpfliiaaGreatDoor
open Go.RowKit
theorem cell_far {w : World} {r j b o : Nat} {v : Value} (h : b ≠ r) : (w.setCell ⟨r, j, none⟩ v).cell? ⟨b, o, none⟩ = w.cell? ⟨b, o, none⟩ := by
 simp only [World.cell?, Below.heap_setCell w ⟨r, j, none⟩ v b h]
def TwoRef (w w' : World) (e : Ending) (q r : Int) : Prop :=
 ∃ n1 ao1 l1 c1 n2 ao2 l2 c2, e = .returned (.tuple #[.agg #[.bool n1, .slice ao1 l1 c1], .agg #[.bool n2, .slice ao2 l2 c2]]) ∧ IntAt w' n1 ao1 l1 c1 q ∧ IntAt w' n2 ao2 l2 c2 r ∧ Below w.heap.size w w'
theorem floor_rest {a b q r : Int} (h : FloorOf a b q r) : FloorOf a b q (a - q * b) := by
 have e : a - q * b = r := by have := h.1; rw [Int.mul_comm] at this; omega
 rw [e]; exact h
theorem RowAt.boxed {w : World} {k : IntKind} {ao : Option Addr} {len cap r : Nat} {zs : List Int} {n : Bool} {so : Option Addr} {l c : Nat} (h : RowAt w k ao len cap zs) (hf : Boxed w r n so l c) (x y : Value) : RowAt ((w.setCell ⟨r, 0, none⟩ x).setCell ⟨r, 1, none⟩ y) k ao len cap zs := by
 refine ⟨h.hlen, h.hcap, h.hnil, ?_⟩
 rcases h.hat with h0 | ⟨b, off, h1, hlt, h2⟩
 ·
  exact Or.inl h0
 ·
  refine Or.inr ⟨b, off, h1, by simpa [World.setCell] using hlt, fun t ht => ?_⟩
  have hc := h2 t ht
  rw [setCell_ne, setCell_ne]
  ·
   exact hc
  ·
   rintro ⟨e1, e2⟩
   simp only at e1 e2
   rw [e1, e2, hf.1] at hc; cases hc
  ·
   rintro ⟨e1, e2⟩
   simp only at e1 e2
   rw [e1, e2, hf.2] at hc; cases hc
theorem boxed_far {w : World} {r s : Nat} {n : Bool} {so : Option Addr} {l c : Nat} (h : Boxed w r n so l c) (hs : r ≠ s) (x y : Value) : Boxed ((w.setCell ⟨s, 0, none⟩ x).setCell ⟨s, 1, none⟩ y) r n so l c :=
 ⟨by rw [cell_far hs, cell_far hs]; exact h.1, by rw [cell_far hs, cell_far hs]; exact h.2⟩
theorem frozen_far {w : World} {r j b o : Nat} {v : Value} : (w.setCell ⟨r, j, none⟩ v).frozen? ⟨b, o, none⟩ = w.frozen? ⟨b, o, none⟩ := by simp [go_sem]
theorem fresh_far {w : World} {r s : Nat} (h : Fresh w r) (hs : r ≠ s) (x y : Value) : Fresh ((w.setCell ⟨s, 0, none⟩ x).setCell ⟨s, 1, none⟩ y) r :=
 ⟨fun j => by rw [frozen_far, frozen_far]; exact h.1 j, by rw [cell_far hs, cell_far hs]; exact h.2.1, by rw [cell_far hs, cell_far hs]; exact h.2.2⟩
theorem boxed_new {w : World} {r : Nat} {n m : Bool} {so tp : Option Addr} {l c l' c' : Nat} (h : Boxed w r n so l c) : Boxed ((w.setCell ⟨r, 0, none⟩ (.bool m)).setCell ⟨r, 1, none⟩ (.slice tp l' c')) r m tp l' c' :=
 ⟨by simp [go_sem, h.1, h.2], by simp [go_sem, h.1, h.2]⟩
end Go.Proofs.YtiiefpnkpfliiaaGreatDoor
namespace Go.Proofs.YtiiefpnkpfliiaaGreatDoor
open Go.RowKit
theorem rclone_any (neg : Bool) (ao : Option Addr) (len cap : Nat) (v : Int) (w : World) (hx : IntAt w neg ao len cap v) (hl : len ≤ 1073741824) :
  Calls Tryz.prog 50 #[.agg #[.bool neg, .slice ao len cap]] w fun e w' => NewInt w w' e v := by
 obtain ⟨W, hT⟩ := One2.mk' w neg ao len cap
 have hsz := hT.size
 have HX : Hid (IntAt W neg ao len cap v) := hx.later hT.below
 have KW : Hid (∀ w' : World, Below W.heap.size W w' → w'.cell? ⟨w.heap.size, 0, none⟩ = some (.bool neg) ∧ w'.cell? ⟨w.heap.size, 1, none⟩ = some (.slice ao len cap)) := fun w' h => ⟨(h.cell (p := ⟨w.heap.size, 0, none⟩) (by show w.heap.size < _; omega)).trans hT.a.1, (h.cell (p := ⟨w.heap.size, 1, none⟩) (by show w.heap.size < _; omega)).trans hT.a.2⟩
 have KS : Hid (∀ X : World, Below W.heap.size W X → ∀ x y, (fun w' : World => w'.cell? ⟨w.heap.size, 0, none⟩ = some (.bool neg) ∧ w'.cell? ⟨w.heap.size, 1, none⟩ = some (.slice ao len cap)) ((X.setCell ⟨w.heap.size + 1, 0, none⟩ x).setCell ⟨w.heap.size + 1, 1, none⟩ y)) := fun X h x y => by
  obtain ⟨h1, h2⟩ := KW.out X h
  (try dsimp only)
  rw [cell_off (by omega), cell_off (by omega), cell_off (by omega), cell_off (by omega)]
  exact ⟨h1, h2⟩
 have HF : Hid (Fresh W (w.heap.size + 1) ∧ Below w.heap.size w W) := ⟨hT.r, hT.below⟩
 clear hx
 go_enter Tryz.func50, Tryz.ntmps50
 go_upto_region 1 with fail
 rw [← hT.eq]
 clear hT
 have hzU : W.heap.size ≤ W.drew.heap.size := Nat.le_refl _
 have S0 : Step8 0 := ⟨trivial⟩
 go_region_held3 (fun w' => (w'.cell? ⟨w.heap.size, 0, none⟩ = some (.bool neg) ∧ w'.cell? ⟨w.heap.size, 1, none⟩ = some (.slice ao len cap)))
  (with_reducible (first | exact KS.out _ hbF1 _ _ | exact KW.out _ (Below.refl _ _).drew | exact KW.out _ (by assumption) | (refine KW.out _ ?_; (repeat (first | refine below_alloc ?_ (Nat.le_refl _) | refine Below.drew ?_ | refine below_set ?_ (by omega))); (first | exact hbF1 | exact Below.refl _ _))))
  (first
   | (have _t := S0; go_at_call 58; refine with_held (S := fun w9 => Below W.heap.size W w9) (by show Below _ _ _; with_reducible ((repeat (first | refine below_alloc ?_ (Nat.le_refl _) | refine Below.drew ?_ | refine below_set ?_ (by omega))); (first | exact hbF1 | exact Below.refl _ _))) (fun hS => ?_); refine (cloneNat_any ao len cap v.natAbs _ (HX.out.row.later hS) hl).mono ?_; rintro e f1 ⟨o1, l1, c1, rfl, ho, hb⟩; have H1 : Hid (Own W.heap.size f1 .u64 59 o1 l1 c1 (mag v.natAbs) ∧ Below W.heap.size W f1) := ⟨ho.mono hS.size, bnext hS hb⟩; clear ho; obtain ⟨k5, k2, k3⟩ := HF.out.1.later (bnext hS hb) (by omega); have hbF1 : Below W.heap.size W f1 := bnext hS hb; have hzF1 := hbF1.size; clear hS hb S0; skip))
 all_goals go_wp2
 exact bodyPost_ret (v := .agg #[.bool neg, .slice o1 l1 c1]) (by simp [results, Tryz.results50, go_sem, k2, k3]) rfl
  ⟨_, _, _, _, rfl, HX.out.sg, (H1.out.1.store (by omega) _ _).mono (by omega), below_store (bnext HF.out.2 H1.out.2) (by omega) _ _⟩
structure RI3 (w W : World) (na : Bool) (ao po : Option Addr) (la ca lp cp : Nat) : Prop where
 eq : W = ((w.alloc (.cells #[.bool na, .slice ao la ca, .slice po lp cp] 28)).alloc (.cells #[.bool false, .slice none 0 0] 26)).alloc (.cells #[.bool false, .slice none 0 0] 26)
 below : Below w.heap.size w W
 size : W.heap.size = w.heap.size + 3
 a : Boxed3 W w.heap.size na ao la ca po lp cp
 r : Fresh W (w.heap.size + 1)
 q : Fresh W (w.heap.size + 1 + 1)
theorem RI3.mk' (w : World) (na : Bool) (ao po : Option Addr) (la ca lp cp : Nat) : ∃ W, RI3 w W na ao po la ca lp cp :=
 ⟨_, rfl, (((Below.refl _ _).alloc (Nat.le_refl _) _).alloc (by simp) _).alloc (by simp; omega) _, by simp, ⟨by simp [go_sem], by simp [go_sem], by simp [go_sem]⟩, ⟨fun j => by simp [go_sem], by simp [go_sem], by simp [go_sem]⟩, ⟨fun j => by simp [go_sem], by simp [go_sem], by simp [go_sem]⟩⟩
structure RI2 (w W : World) (na : Bool) (ao po : Option Addr) (la ca lp cp : Nat) : Prop where
 eq : W = (w.alloc (.cells #[.bool na, .slice ao la ca, .slice po lp cp] 28)).alloc (.cells #[.bool false, .slice none 0 0] 26)
 below : Below w.heap.size w W
 size : W.heap.size = w.heap.size + 2
 a : Boxed3 W w.heap.size na ao la ca po lp cp
 r : Fresh W (w.heap.size + 1)
theorem RI2.mk' (w : World) (na : Bool) (ao po : Option Addr) (la ca lp cp : Nat) : ∃ W, RI2 w W na ao po la ca lp cp :=
 ⟨_, rfl, ((Below.refl _ _).alloc (Nat.le_refl _) _).alloc (by simp) _, by simp, ⟨by simp [go_sem], by simp [go_sem], by simp [go_sem]⟩, ⟨fun j => by simp [go_sem], by simp [go_sem], by simp [go_sem]⟩⟩
theorem nw_word {w : World} {n : Nat} {z : Int} (h : mag n = [z]) : Own w.heap.size (w.alloc (.cells #[.int .u64 z] 59)) .u64 59 (some ⟨w.heap.size, 0, none⟩) 1 1 (mag n) := by
 rw [h]; exact Own.whole (Blk.new w .u64 59 [z]) (Nat.le_refl _) rfl
theorem qint_any (n : Int) (w : World) (h1 : -9223372036854775808 ≤ n) (h2 : n ≤ 9223372036854775807) :
  Calls Tryz.prog 44 #[.int .i64 n] w fun e w' => SomeR w w' e (n : Rat) := by
 obtain ⟨W, hT⟩ := R1.mk' w
 have hsz := hT.size
 go_enter Tryz.func44, Tryz.ntmps44
 go_wp2_with (first
  | (go_at_call 46; rw [← hT.eq]; refine (rfrom_any n _ h1 h2).mono ?_; rintro e w1 ⟨n1, o1, l1, c1, rfl, hs, ho, hb1⟩; have H1 : Hid (IntAt w1 n1 o1 l1 c1 n) := ho.int hs; clear hs ho)
  | (go_at_call 26; refine (qfrom_any n1 o1 l1 c1 _ _ H1.out.row).mono ?_; rintro e w2 ⟨p2, m2, k2, rfl, hr, ho, hb2⟩; have H2 : Hid (RatAt w2 n1 o1 l1 c1 p2 m2 k2 (n : Rat) ∧ Below W.heap.size W w2) := ⟨⟨⟨H1.out.sg, hr⟩, ho.row⟩, bnext hb1 hb2⟩; clear hr ho; obtain ⟨g5, g2, g3, g4⟩ := hT.r.later H2.out.2 (by omega)))
 exact bodyPost_ret (v := .agg #[.bool n1, .slice o1 l1 c1, .slice p2 m2 k2]) (by simp [results, Tryz.results44, go_sem, g2, g3, g4]) rfl
  ⟨_, _, _, _, _, _, _, rfl, rat_kept H2.out.1 ⟨g2, g3, g4⟩, below_store3 (bnext hT.below H2.out.2) (by omega) _ _ _⟩
end Go.Proofs.YtiiefpnkpfliiaaGreatDoor
