/-
  Walks: what is no rational's text; the page's reading and writing. (gen/rread.py)
-/
import Derived.Test.YtiiefpnkpfliiaaGreatDoorIJ
namespace Go.Proofs.YtiiefpnkpfliiaaGreatDoor
open Go.RowKit
set_option linter.unusedVariables false
set_option linter.unusedSimpArgs false
set_option maxRecDepth 100000 in
set_option maxHeartbeats 2000000 in
theorem read_bad1 (s x y : ByteArray) (two : Bool) (w : World) (hcut : ∀ Z, Calls Tryz.prog 137 #[.string s, .string ⟨#[47]⟩] Z fun e w' => e = .returned (.tuple #[.string x, .string y, .bool two]) ∧ Below Z.heap.size Z w') (hr : BigRefuses x) : Calls Tryz.prog 113 #[.string s] w fun e w' => RawOut w w' e (.bool false) false [] [] := by
  obtain ⟨W, hT⟩ := R1.mk' w
  have hsz := hT.size
  have HR : Hid (BigRefuses x) := hr
  clear hr
  go_enter Tryz.func113, Tryz.ntmps113
  go_wp2_with (first
    | (go_at_call 137; rw [← hT.eq]; refine (hcut _).mono ?_; rintro e w1 ⟨rfl, hb1⟩)
    | (go_at_call 138; refine (HR.out _).mono ?_; rintro e y2 ⟨rfl, hb2⟩; have hB2 : Below W.heap.size W y2 := bnext hb1 hb2; obtain ⟨k5, k2, k3, k4⟩ := hT.r.later hB2 (by omega); have hltr : w.heap.size < y2.heap.size := (by have := hB2.size; omega); have hner : w.heap.size ≠ y2.heap.size := (by omega)))
  exact bodyPost_ret (v := .tuple #[.agg #[.bool false, .slice none 0 0, .slice none 0 0], .bool false]) (by simp [results, Tryz.results113, go_sem, k2, k3, k4, hltr, hner]) rfl
    ⟨_, _, _, _, _, _, rfl, RowAt.nilRow _ _, RowAt.nilRow _ _, below_alloc (below_store3 (bnext hT.below hB2) (Nat.le_refl _) _ _ _) (Nat.le_refl _)⟩
set_option maxRecDepth 100000 in
set_option maxHeartbeats 2000000 in
theorem read_bad2 (s x y : ByteArray) (v : Int) (w : World) (hcut : ∀ Z, Calls Tryz.prog 137 #[.string s, .string ⟨#[47]⟩] Z fun e w' => e = .returned (.tuple #[.string x, .string y, .bool true]) ∧ Below Z.heap.size Z w') (hr : ReadsAs x v) (hr2 : BigRefuses y) (hl : (mag v.natAbs).length ≤ 1024) : Calls Tryz.prog 113 #[.string s] w fun e w' => RawOut w w' e (.bool false) false [] [] := by
  obtain ⟨W, hT⟩ := R1.mk' w
  have hsz := hT.size
  have HR : Hid (ReadsAs x v ∧ BigRefuses y) := ⟨hr, hr2⟩
  have HL : Hid ((mag v.natAbs).length ≤ 1024 ∧ True) := ⟨hl, trivial⟩
  clear hr hr2 hl
  go_enter Tryz.func113, Tryz.ntmps113
  go_wp2_with (first
    | (go_at_call 137; rw [← hT.eq]; refine (hcut _).mono ?_; rintro e w1 ⟨rfl, hb1⟩)
    | (go_at_call 138; have _t := H2; refine (HR.out.2 _).mono ?_; rintro e y4 ⟨rfl, hb4⟩; have hB4 : Below W.heap.size W y4 := bnext (below_alloc H2.out.2 (Nat.le_refl _)) hb4; obtain ⟨k5, k2, k3, k4⟩ := hT.r.later hB4 (by omega); have hltr : w.heap.size < y4.heap.size := (by have := hB4.size; omega); have hner : w.heap.size ≠ y4.heap.size := (by omega))
    | (go_at_call 138; refine (HR.out.1 _).mono ?_; rintro e y2 ⟨n2, o2, l2, c2, rfl, hi2, hb2⟩; have H2 : Hid (IntAt y2 n2 o2 l2 c2 v ∧ Below W.heap.size W y2) := ⟨hi2, bnext hb1 hb2⟩; have hl2 : l2 ≤ 1024 := (by rw [hi2.row.hlen]; exact HL.out.1); clear hi2 hb2))
  exact bodyPost_ret (v := .tuple #[.agg #[.bool false, .slice none 0 0, .slice none 0 0], .bool false]) (by simp [results, Tryz.results113, go_sem, k2, k3, k4, hltr, hner]) rfl
    ⟨_, _, _, _, _, _, rfl, RowAt.nilRow _ _, RowAt.nilRow _ _, below_alloc (below_store3 (bnext hT.below hB4) (Nat.le_refl _) _ _ _) (Nat.le_refl _)⟩
set_option maxRecDepth 100000 in
set_option maxHeartbeats 2000000 in
theorem read_bad3 (s x y : ByteArray) (v u : Int) (w : World) (hcut : ∀ Z, Calls Tryz.prog 137 #[.string s, .string ⟨#[47]⟩] Z fun e w' => e = .returned (.tuple #[.string x, .string y, .bool true]) ∧ Below Z.heap.size Z w') (hr : ReadsAs x v) (hr2 : ReadsAs y u) (hl : (mag v.natAbs).length ≤ 1024) (hl2 : (mag u.natAbs).length ≤ 1024) (hu : cmpI u 0 = 0) : Calls Tryz.prog 113 #[.string s] w fun e w' => RawOut w w' e (.bool false) false [] [] := by
  obtain ⟨W, hT⟩ := R1.mk' w
  have hsz := hT.size
  have HR : Hid (ReadsAs x v ∧ ReadsAs y u) := ⟨hr, hr2⟩
  have HL : Hid ((mag v.natAbs).length ≤ 1024 ∧ (mag u.natAbs).length ≤ 1024) := ⟨hl, hl2⟩
  have HS : Hid (cmpI u 0 = 0) := hu
  clear hu
  clear hr hr2 hl hl2
  go_enter Tryz.func113, Tryz.ntmps113
  go_wp2_with (first
    | (go_at_call 137; rw [← hT.eq]; refine (hcut _).mono ?_; rintro e w1 ⟨rfl, hb1⟩)
    | (go_at_call 138; have _t := H2; refine (HR.out.2 _).mono ?_; rintro e y4 ⟨n4, o4, l4, c4, rfl, hi4, hb4⟩; have H4 : Hid (IntAt y4 n2 o2 l2 c2 v ∧ IntAt y4 n4 o4 l4 c4 u ∧ Below W.heap.size W y4) := ⟨(int_alloc (o := .cells #[.bool n2, .slice o2 l2 c2] 26) H2.out.1).later hb4, hi4, bnext (below_alloc H2.out.2 (Nat.le_refl _)) hb4⟩; have hl4 : l4 ≤ 1024 := (by rw [hi4.row.hlen]; exact HL.out.2); have HV : Hid (Boxed (y4.alloc (.cells #[.bool n4, .slice o4 l4 c4] 26)) y2.heap.size n2 o2 l2 c2 ∧ Boxed (y4.alloc (.cells #[.bool n4, .slice o4 l4 c4] 26)) y4.heap.size n4 o4 l4 c4 ∧ Below W.heap.size W (y4.alloc (.cells #[.bool n4, .slice o4 l4 c4] 26))) := ⟨read_box hb4, ⟨by simp [go_sem], by simp [go_sem]⟩, below_alloc H4.out.2.2 (Nat.le_refl _)⟩; have hlt2 : y2.heap.size < y4.heap.size := (by have := hb4.size; simp at this; omega); clear hi4 hb4)
    | (go_at_call 138; refine (HR.out.1 _).mono ?_; rintro e y2 ⟨n2, o2, l2, c2, rfl, hi2, hb2⟩; have H2 : Hid (IntAt y2 n2 o2 l2 c2 v ∧ Below W.heap.size W y2) := ⟨hi2, bnext hb1 hb2⟩; have hl2 : l2 ≤ 1024 := (by rw [hi2.row.hlen]; exact HL.out.1); clear hi2 hb2)
    | (go_at_call 55; refine (bsign_any n4 o4 l4 c4 u _ (int_alloc H4.out.2.1) (by omega) _ HS.out).mono ?_; rintro e y5 ⟨rfl, hb5⟩; have hB5 : Below W.heap.size W y5 := bnext HV.out.2.2 hb5; obtain ⟨v0, v1⟩ := HV.out.1.later hb5 (by simp; omega); obtain ⟨d0, d1⟩ := HV.out.2.1.later hb5 (by simp); have H5 : Hid (IntAt y5 n2 o2 l2 c2 v ∧ IntAt y5 n4 o4 l4 c4 u) := ⟨(int_alloc H4.out.1).later hb5, (int_alloc H4.out.2.1).later hb5⟩; obtain ⟨k5, k2, k3, k4⟩ := hT.r.later hB5 (by omega)))
  exact bodyPost_ret (v := .tuple #[.agg #[.bool false, .slice none 0 0, .slice none 0 0], .bool false]) (by simp [results, Tryz.results113, go_sem, k2, k3, k4]) rfl
    ⟨_, _, _, _, _, _, rfl, RowAt.nilRow _ _, RowAt.nilRow _ _, below_store3 (bnext hT.below hB5) (Nat.le_refl _) _ _ _⟩
set_option maxRecDepth 100000 in
set_option maxHeartbeats 2000000 in
theorem read_bad3n (s x y : ByteArray) (v u : Int) (w : World) (hcut : ∀ Z, Calls Tryz.prog 137 #[.string s, .string ⟨#[47]⟩] Z fun e w' => e = .returned (.tuple #[.string x, .string y, .bool true]) ∧ Below Z.heap.size Z w') (hr : ReadsAs x v) (hr2 : ReadsAs y u) (hl : (mag v.natAbs).length ≤ 1024) (hl2 : (mag u.natAbs).length ≤ 1024) (hu : cmpI u 0 = -1) : Calls Tryz.prog 113 #[.string s] w fun e w' => RawOut w w' e (.bool false) false [] [] := by
  obtain ⟨W, hT⟩ := R1.mk' w
  have hsz := hT.size
  have HR : Hid (ReadsAs x v ∧ ReadsAs y u) := ⟨hr, hr2⟩
  have HL : Hid ((mag v.natAbs).length ≤ 1024 ∧ (mag u.natAbs).length ≤ 1024) := ⟨hl, hl2⟩
  have HS : Hid (cmpI u 0 = -1) := hu
  clear hu
  clear hr hr2 hl hl2
  go_enter Tryz.func113, Tryz.ntmps113
  go_wp2_with (first
    | (go_at_call 137; rw [← hT.eq]; refine (hcut _).mono ?_; rintro e w1 ⟨rfl, hb1⟩)
    | (go_at_call 138; have _t := H2; refine (HR.out.2 _).mono ?_; rintro e y4 ⟨n4, o4, l4, c4, rfl, hi4, hb4⟩; have H4 : Hid (IntAt y4 n2 o2 l2 c2 v ∧ IntAt y4 n4 o4 l4 c4 u ∧ Below W.heap.size W y4) := ⟨(int_alloc (o := .cells #[.bool n2, .slice o2 l2 c2] 26) H2.out.1).later hb4, hi4, bnext (below_alloc H2.out.2 (Nat.le_refl _)) hb4⟩; have hl4 : l4 ≤ 1024 := (by rw [hi4.row.hlen]; exact HL.out.2); have HV : Hid (Boxed (y4.alloc (.cells #[.bool n4, .slice o4 l4 c4] 26)) y2.heap.size n2 o2 l2 c2 ∧ Boxed (y4.alloc (.cells #[.bool n4, .slice o4 l4 c4] 26)) y4.heap.size n4 o4 l4 c4 ∧ Below W.heap.size W (y4.alloc (.cells #[.bool n4, .slice o4 l4 c4] 26))) := ⟨read_box hb4, ⟨by simp [go_sem], by simp [go_sem]⟩, below_alloc H4.out.2.2 (Nat.le_refl _)⟩; have hlt2 : y2.heap.size < y4.heap.size := (by have := hb4.size; simp at this; omega); clear hi4 hb4)
    | (go_at_call 138; refine (HR.out.1 _).mono ?_; rintro e y2 ⟨n2, o2, l2, c2, rfl, hi2, hb2⟩; have H2 : Hid (IntAt y2 n2 o2 l2 c2 v ∧ Below W.heap.size W y2) := ⟨hi2, bnext hb1 hb2⟩; have hl2 : l2 ≤ 1024 := (by rw [hi2.row.hlen]; exact HL.out.1); clear hi2 hb2)
    | (go_at_call 55; refine (bsign_any n4 o4 l4 c4 u _ (int_alloc H4.out.2.1) (by omega) _ HS.out).mono ?_; rintro e y5 ⟨rfl, hb5⟩; have hB5 : Below W.heap.size W y5 := bnext HV.out.2.2 hb5; obtain ⟨v0, v1⟩ := HV.out.1.later hb5 (by simp; omega); obtain ⟨d0, d1⟩ := HV.out.2.1.later hb5 (by simp); have H5 : Hid (IntAt y5 n2 o2 l2 c2 v ∧ IntAt y5 n4 o4 l4 c4 u) := ⟨(int_alloc H4.out.1).later hb5, (int_alloc H4.out.2.1).later hb5⟩; obtain ⟨k5, k2, k3, k4⟩ := hT.r.later hB5 (by omega)))
  exact bodyPost_ret (v := .tuple #[.agg #[.bool false, .slice none 0 0, .slice none 0 0], .bool false]) (by simp [results, Tryz.results113, go_sem, k2, k3, k4]) rfl
    ⟨_, _, _, _, _, _, rfl, RowAt.nilRow _ _, RowAt.nilRow _ _, below_store3 (bnext hT.below hB5) (Nat.le_refl _) _ _ _⟩
set_option maxRecDepth 100000 in
set_option maxHeartbeats 2000000 in
theorem read_bad4 (s x y : ByteArray) (v u : Int) (w : World) (hcut : ∀ Z, Calls Tryz.prog 137 #[.string s, .string ⟨#[47]⟩] Z fun e w' => e = .returned (.tuple #[.string x, .string y, .bool true]) ∧ Below Z.heap.size Z w') (hr : ReadsAs x v) (hr2 : ReadsAs y u) (hl : (mag v.natAbs).length ≤ 1024) (hl2 : (mag u.natAbs).length ≤ 1024) (hu : u = 1) : Calls Tryz.prog 113 #[.string s] w fun e w' => RawOut w w' e (.bool false) false [] [] := by
  obtain ⟨W, hT⟩ := R1.mk' w
  have hsz := hT.size
  have HR : Hid (ReadsAs x v ∧ ReadsAs y u) := ⟨hr, hr2⟩
  have HL : Hid ((mag v.natAbs).length ≤ 1024 ∧ (mag u.natAbs).length ≤ 1024) := ⟨hl, hl2⟩
  have HS : Hid (cmpI u 0 = 1) := by show _ = _; rw [hu]; rfl
  have HD : Hid (decide (u.natAbs = 1) = true) := by show _ = _; rw [hu]; rfl
  clear hu
  clear hr hr2 hl hl2
  go_enter Tryz.func113, Tryz.ntmps113
  go_wp2_with (first
    | (go_at_call 137; rw [← hT.eq]; refine (hcut _).mono ?_; rintro e w1 ⟨rfl, hb1⟩)
    | (go_at_call 138; have _t := H2; refine (HR.out.2 _).mono ?_; rintro e y4 ⟨n4, o4, l4, c4, rfl, hi4, hb4⟩; have H4 : Hid (IntAt y4 n2 o2 l2 c2 v ∧ IntAt y4 n4 o4 l4 c4 u ∧ Below W.heap.size W y4) := ⟨(int_alloc (o := .cells #[.bool n2, .slice o2 l2 c2] 26) H2.out.1).later hb4, hi4, bnext (below_alloc H2.out.2 (Nat.le_refl _)) hb4⟩; have hl4 : l4 ≤ 1024 := (by rw [hi4.row.hlen]; exact HL.out.2); have HV : Hid (Boxed (y4.alloc (.cells #[.bool n4, .slice o4 l4 c4] 26)) y2.heap.size n2 o2 l2 c2 ∧ Boxed (y4.alloc (.cells #[.bool n4, .slice o4 l4 c4] 26)) y4.heap.size n4 o4 l4 c4 ∧ Below W.heap.size W (y4.alloc (.cells #[.bool n4, .slice o4 l4 c4] 26))) := ⟨read_box hb4, ⟨by simp [go_sem], by simp [go_sem]⟩, below_alloc H4.out.2.2 (Nat.le_refl _)⟩; have hlt2 : y2.heap.size < y4.heap.size := (by have := hb4.size; simp at this; omega); clear hi4 hb4)
    | (go_at_call 138; refine (HR.out.1 _).mono ?_; rintro e y2 ⟨n2, o2, l2, c2, rfl, hi2, hb2⟩; have H2 : Hid (IntAt y2 n2 o2 l2 c2 v ∧ Below W.heap.size W y2) := ⟨hi2, bnext hb1 hb2⟩; have hl2 : l2 ≤ 1024 := (by rw [hi2.row.hlen]; exact HL.out.1); clear hi2 hb2)
    | (go_at_call 55; refine (bsign_any n4 o4 l4 c4 u _ (int_alloc H4.out.2.1) (by omega) _ HS.out).mono ?_; rintro e y5 ⟨rfl, hb5⟩; have hB5 : Below W.heap.size W y5 := bnext HV.out.2.2 hb5; obtain ⟨v0, v1⟩ := HV.out.1.later hb5 (by simp; omega); obtain ⟨d0, d1⟩ := HV.out.2.1.later hb5 (by simp); have H5 : Hid (IntAt y5 n2 o2 l2 c2 v ∧ IntAt y5 n4 o4 l4 c4 u) := ⟨(int_alloc H4.out.1).later hb5, (int_alloc H4.out.2.1).later hb5⟩; obtain ⟨k5, k2, k3, k4⟩ := hT.r.later hB5 (by omega))
    | (go_at_call 49; refine (isOne_any o4 l4 c4 u.natAbs _ H5.out.2.row true HD.out).mono ?_; rintro e y6 ⟨rfl, hw6⟩; replace hw6 := hw6.symm; subst hw6))
  exact bodyPost_ret (v := .tuple #[.agg #[.bool false, .slice none 0 0, .slice none 0 0], .bool false]) (by simp [results, Tryz.results113, go_sem, k2, k3, k4]) rfl
    ⟨_, _, _, _, _, _, rfl, RowAt.nilRow _ _, RowAt.nilRow _ _, below_store3 (bnext hT.below hB5) (Nat.le_refl _) _ _ _⟩
set_option maxRecDepth 100000 in
set_option maxHeartbeats 2000000 in
theorem read_bad5 (s x y : ByteArray) (v u : Int) (w : World) (hcut : ∀ Z, Calls Tryz.prog 137 #[.string s, .string ⟨#[47]⟩] Z fun e w' => e = .returned (.tuple #[.string x, .string y, .bool true]) ∧ Below Z.heap.size Z w') (hr : ReadsAs x v) (hr2 : ReadsAs y u) (hl : (mag v.natAbs).length ≤ 1024) (hl2 : (mag u.natAbs).length ≤ 1024) (hu : 1 < u) (hg : Nat.gcd v.natAbs u.natAbs ≠ 1) (hT0 : TabAt 0 Lib.deBruijn64tab w) : Calls Tryz.prog 113 #[.string s] w fun e w' => RawOut w w' e (.bool false) false [] [] := by
  obtain ⟨W, hT⟩ := R1.mk' w
  have hsz := hT.size
  have HR : Hid (ReadsAs x v ∧ ReadsAs y u) := ⟨hr, hr2⟩
  have HL : Hid ((mag v.natAbs).length ≤ 1024 ∧ (mag u.natAbs).length ≤ 1024) := ⟨hl, hl2⟩
  have HS : Hid (cmpI u 0 = 1) := cmpI_gt (by omega)
  have HD : Hid (decide (u.natAbs = 1) = false) := decide_eq_false (by omega)
  have HG : Hid (decide (Nat.gcd v.natAbs u.natAbs = 1) = false) := decide_eq_false hg
  have HP : Hid (0 < u.natAbs) := by show _ < _; omega
  have HTab : Hid (TabAt 0 Lib.deBruijn64tab W) := tab_later hT0 hT.below
  clear hu hg hT0
  clear hr hr2 hl hl2
  go_enter Tryz.func113, Tryz.ntmps113
  go_wp2_with (first
    | (go_at_call 137; rw [← hT.eq]; refine (hcut _).mono ?_; rintro e w1 ⟨rfl, hb1⟩)
    | (go_at_call 138; have _t := H2; refine (HR.out.2 _).mono ?_; rintro e y4 ⟨n4, o4, l4, c4, rfl, hi4, hb4⟩; have H4 : Hid (IntAt y4 n2 o2 l2 c2 v ∧ IntAt y4 n4 o4 l4 c4 u ∧ Below W.heap.size W y4) := ⟨(int_alloc (o := .cells #[.bool n2, .slice o2 l2 c2] 26) H2.out.1).later hb4, hi4, bnext (below_alloc H2.out.2 (Nat.le_refl _)) hb4⟩; have hl4 : l4 ≤ 1024 := (by rw [hi4.row.hlen]; exact HL.out.2); have HV : Hid (Boxed (y4.alloc (.cells #[.bool n4, .slice o4 l4 c4] 26)) y2.heap.size n2 o2 l2 c2 ∧ Boxed (y4.alloc (.cells #[.bool n4, .slice o4 l4 c4] 26)) y4.heap.size n4 o4 l4 c4 ∧ Below W.heap.size W (y4.alloc (.cells #[.bool n4, .slice o4 l4 c4] 26))) := ⟨read_box hb4, ⟨by simp [go_sem], by simp [go_sem]⟩, below_alloc H4.out.2.2 (Nat.le_refl _)⟩; have hlt2 : y2.heap.size < y4.heap.size := (by have := hb4.size; simp at this; omega); clear hi4 hb4)
    | (go_at_call 138; refine (HR.out.1 _).mono ?_; rintro e y2 ⟨n2, o2, l2, c2, rfl, hi2, hb2⟩; have H2 : Hid (IntAt y2 n2 o2 l2 c2 v ∧ Below W.heap.size W y2) := ⟨hi2, bnext hb1 hb2⟩; have hl2 : l2 ≤ 1024 := (by rw [hi2.row.hlen]; exact HL.out.1); clear hi2 hb2)
    | (go_at_call 55; refine (bsign_any n4 o4 l4 c4 u _ (int_alloc H4.out.2.1) (by omega) _ HS.out).mono ?_; rintro e y5 ⟨rfl, hb5⟩; have hB5 : Below W.heap.size W y5 := bnext HV.out.2.2 hb5; obtain ⟨v0, v1⟩ := HV.out.1.later hb5 (by simp; omega); obtain ⟨d0, d1⟩ := HV.out.2.1.later hb5 (by simp); have H5 : Hid (IntAt y5 n2 o2 l2 c2 v ∧ IntAt y5 n4 o4 l4 c4 u) := ⟨(int_alloc H4.out.1).later hb5, (int_alloc H4.out.2.1).later hb5⟩; obtain ⟨k5, k2, k3, k4⟩ := hT.r.later hB5 (by omega))
    | (go_at_call 49; refine (isOne_any o4 l4 c4 u.natAbs _ H5.out.2.row false HD.out).mono ?_; rintro e y6 ⟨rfl, hw6⟩; replace hw6 := hw6.symm; subst hw6)
    | (go_at_call 52; refine (apart_any o2 o4 l2 c2 l4 c4 v.natAbs u.natAbs _ H5.out.1.row H5.out.2.row HP.out (by omega) (by omega) (tab_later HTab.out hB5) false HG.out).mono ?_; rintro e y7 ⟨rfl, hb7⟩; clear v0 v1 d0 d1 k5 k2 k3 k4; obtain ⟨k5, k2, k3, k4⟩ := hT.r.later (bnext hB5 hb7) (by omega)))
  exact bodyPost_ret (v := .tuple #[.agg #[.bool false, .slice none 0 0, .slice none 0 0], .bool false]) (by simp [results, Tryz.results113, go_sem, k2, k3, k4]) rfl
    ⟨_, _, _, _, _, _, rfl, RowAt.nilRow _ _, RowAt.nilRow _ _, below_store3 (bnext hT.below (bnext hB5 hb7)) (Nat.le_refl _) _ _ _⟩
set_option maxRecDepth 100000 in
set_option maxHeartbeats 2000000 in
theorem parse_bad (s : ByteArray) (w : World) (hcon : ∀ X, Below w.heap.size w X → Calls Tryz.prog 113 #[.string s] X fun e w' => RawOut X w' e (.bool false) false [] []) :
    Calls Tryz.prog 78 #[.string s] w fun e w' => RawOut w w' e (.int .i64 24) false [] [] := by
  obtain ⟨W, hT⟩ := R1.mk' w
  have hsz := hT.size
  go_enter Tryz.func78, Tryz.ntmps78
  go_wp2_with (go_at_call 113; rw [← hT.eq]; refine (hcon _ hT.below).mono ?_; rintro e w1 ⟨o2, l2, c2, o4, l4, c4, rfl, hr1, hr2, hb1⟩; obtain ⟨k5, k2, k3, k4⟩ := hT.r.later hb1 (by omega))
  have hY1 := boxed_set (n := false) (o := o2) (l := l2) (c := c2) (p := o4) (m := l4) (d := c4) k2 k3 k4
  have hY3 := below_store3 (r := w.heap.size) (bnext hT.below hb1) (Nat.le_refl _) (.bool false) (.slice o2 l2 c2) (.slice o4 l4 c4)
  revert hY1 hY3
  generalize ((w1.setCell ⟨w.heap.size, 0, none⟩ (.bool false)).setCell ⟨w.heap.size, 1, none⟩ (.slice o2 l2 c2)).setCell ⟨w.heap.size, 2, none⟩ (.slice o4 l4 c4) = Y
  rintro ⟨j0, j1, j2⟩ hY3
  exact bodyPost_ret (v := .tuple #[.agg #[.bool false, .slice none 0 0, .slice none 0 0], .int .i64 24]) (by simp [results, Tryz.results78, go_sem, j0, j1, j2]) rfl
    ⟨_, _, _, _, _, _, rfl, RowAt.nilRow _ _, RowAt.nilRow _ _, below_store3 hY3 (Nat.le_refl _) _ _ _⟩
set_option maxRecDepth 100000 in
set_option maxHeartbeats 2000000 in
theorem isWhole_any (na : Bool) (ao po : Option Addr) (la ca lp cp : Nat) (d : Nat) (w : World) (hr : RowAt w .u64 po lp cp (mag d)) (b : Bool) (hb : decide (d = 1) = b) :
    Calls Tryz.prog 19 #[.agg #[.bool na, .slice ao la ca, .slice po lp cp]] w fun e w' => e = .returned (.bool b) ∧ Below w.heap.size w w' := by
  obtain ⟨W, hT⟩ := ROne1.mk' w na ao po la ca lp cp
  have HB : Hid (Below w.heap.size w (w.alloc (.cells #[.bool na, .slice ao la ca, .slice po lp cp] 28))) := hT.eq ▸ hT.below
  clear hT
  by_cases h1 : lp = 1
  · subst h1
    obtain ⟨g, off, rfl, hlt, hc⟩ := hr.get (by decide)
    have hcell := hc 0 (by decide)
    rw [one_limb hr.hlen.symm, Nat.add_zero] at hcell
    have HQ : Hid (((d : Int) == 1) = b) := by
      show _ = _
      rw [← hb]
      by_cases e : d = 1
      · subst e; rfl
      · rw [decide_eq_false e]; simp; omega
    clear hc hr hb
    go_enter Tryz.func19, Tryz.ntmps19
    go_wp2
    go_ret
    exact ⟨ret_bool HQ.out, HB.out⟩
  · have e : d ≠ 1 := fun e => by subst e; have := hr.hlen; rw [one_word] at this; exact h1 this
    obtain rfl : b = false := by rw [← hb]; exact decide_eq_false e
    have hne : ((lp : Int) == 1) = false := by simp; omega
    clear hr hb
    go_enter Tryz.func19, Tryz.ntmps19
    go_wp2
    go_ret
    exact ⟨rfl, HB.out⟩
end Go.Proofs.YtiiefpnkpfliiaaGreatDoor
