/-
  A pack of walks and facts: UH.
-/
import Derived.Test.YtojmlcignlcbhaaGreatPF12
set_option maxRecDepth 100000
set_option maxHeartbeats 40000000
set_option linter.unusedVariables false
set_option linter.unusedSimpArgs false
namespace Go.Proofs.YtojmlcignlcbhaaGreat
open Go.RowKit
def NewPO (w w' : World) (e : Ending) (p : List Int) : Prop := ∃ ao len, e = .returned (.slice ao len len) ∧ POwn w.heap.size w' ao len len p ∧ Below w.heap.size w w'
theorem joined_plus (ao bo : Option Addr) (la ca lb cb A N : Nat) (p s : List Int) (w : World) (hp : PolyAt w ao la ca p) (hs : PolyAt w bo lb cb s) (hla : la ≤ 1000) (hlb : lb ≤ 1000) (hA : A ≤ 100000) (hlp : Lim A p) (hls : Lim A s) (hN : N = max la lb) :
  Calls Tryz.prog 53 #[.slice ao la ca, .slice bo lb cb, .func (.func 54) #[] #[]] w fun e w' => NewPO w w' e (trimL (tab N fun i => dig p i + dig s i)) := by
 have HR : Hid (PolyAt w ao la ca p ∧ PolyAt w bo lb cb s ∧ Lim A p ∧ Lim A s ∧ A ≤ 100000) := ⟨hp, hs, hlp, hls, hA⟩
 have h3N : N ≤ 1000 := by omega
 have hmx : max (la : Int) (lb : Int) = (N : Int) := by omega
 clear hp hs hlp hls hA hN
 obtain ⟨F, hF⟩ : ∃ F : Nat → Int, F = fun i => dig p i + dig s i := ⟨_, rfl⟩
 have HF : Hid (∀ i, F i = dig p i + dig s i) := fun i => by rw [hF]
 rw [← hF]
 clear hF
 go_enter Tryz.func53, Tryz.ntmps53
 go_wp2_with (go_at_call 77; refine (room_any N _ (by omega)).mono ?_; rintro e w0 ⟨rfl, hB0, hg0, hb0⟩)
 obtain ⟨g, hg⟩ : ∃ g, g = w.heap.size := ⟨_, rfl⟩
 rw [← hg]
 have HG : Hid (w.heap.size ≤ g ∧ PBlkO w.heap.size w0 g (List.replicate N 0) ∧ g < w0.heap.size ∧ Below w.heap.size w w0) := by rw [hg]; exact ⟨Nat.le_refl _, hB0 _, hg0, hb0⟩
 clear hB0 hg0 hb0 hg
 go_loopw [17] (fun i wr => ∃ (k : Nat) (l : List Int), k ≤ N ∧ i = .int .i64 (k : Int) ∧ Below w.heap.size w wr ∧ g < wr.heap.size ∧ PBlkO w.heap.size wr g l ∧ FillSt N F k l) (fun i _ => N - (intOf i).toNat)
 case atStart => exact ⟨0, _, Nat.zero_le _, rfl, HG.out.2.2.2, HG.out.2.2.1, HG.out.2.1, FillSt.start N F⟩
 case round =>
  obtain ⟨k, l, hk, rfl, hbel, hgl, hPB, hst⟩ := hrel
  have HS : Hid (PBlkO w.heap.size wr g l ∧ FillSt N F k l) := ⟨hPB, hst⟩
  clear hPB hst
  by_cases hlt : k < N
  ·
   have hkl : Hid (k < l.length) := by show k < _; rw [HS.out.2.1]; exact hlt
   have z1 : (0 : Int) ≤ (k : Int) := by omega
   have z2 : (k : Int) < (N : Int) := by omega
   go_wp2_with (first
    | (go_at_call 54; refine (plplus_any n1 n2 ao1 ao2 l1 c1 l2 c2 (dig p k) (dig s k) _ H2.out.2.1 H2.out.1 (by omega) (by omega)).mono ?_; rintro e w3 ⟨n3, ao3, l3, c3, rfl, hs3, ho3, hb3⟩; have H3 : Hid (n3 = sgB (F k) ∧ Own wr.heap.size w3 .u64 74 ao3 l3 c3 (mag (F k).natAbs)) := (by rw [HF.out]; exact ⟨hs3, ho3.mono H2.out.2.2.size⟩); have hA3 : Below wr.heap.size wr w3 := bnext H2.out.2.2 hb3; have HP2 := HS.out.1.later hA3 hgl; clear hs3 ho3 hb3; obtain ⟨n0', a0', l0', c0', ⟨e0, e1⟩, _⟩ := HP2.coef k hkl.out; have hfz := HP2.soft; clear HP2)
    | (go_at_call 78; have _t := H1; refine (plat_any bo lb cb k s _ (HR.out.2.1.later (bnext hbel H1.out.2))).mono ?_; rintro e w2 ⟨n2, ao2, l2, c2, rfl, hi2, hb2⟩; have H2 : Hid (IntAt w2 n2 ao2 l2 c2 (dig s k) ∧ IntAt w2 n1 ao1 l1 c1 (dig p k) ∧ Below wr.heap.size wr w2) := ⟨hi2, H1.out.1.later hb2, bnext H1.out.2 hb2⟩; have hl2 : l2 ≤ 100000 := (by rw [hi2.lim]; exact Nat.le_trans (HR.out.2.2.2.1 k) HR.out.2.2.2.2); clear hi2 hb2)
    | (go_at_call 78; refine (plat_any ao la ca k p _ (HR.out.1.later hbel)).mono ?_; rintro e w1 ⟨n1, ao1, l1, c1, rfl, hi1, hb1⟩; have H1 : Hid (IntAt w1 n1 ao1 l1 c1 (dig p k) ∧ Below wr.heap.size wr w1) := ⟨hi1, hb1⟩; have hl1 : l1 ≤ 100000 := (by rw [hi1.lim]; exact Nat.le_trans (HR.out.2.2.1 k) HR.out.2.2.2.2); clear hi1 hb1))
   go_roundw
   case rel => exact ⟨k + 1, l.set k (F k), by omega, by go_num, ((bnext hbel hA3).setCell (p := ⟨g, k * 2, none⟩) HG.out.1 _).setCell (p := ⟨g, k * 2 + 1, none⟩) HG.out.1 _, by (have := hA3.size; simp; omega), HS.out.1.put hA3 hgl hbel.size hkl.out H3.out.1 H3.out.2, HS.out.2.step hlt⟩
   case measure => simp [intOf]; omega
  ·
   obtain rfl : k = N := by omega
   have HE : Hid (l = tab k F) := HS.out.2.done
   have HPP : Hid (PolyAt wr (some ⟨g, 0, none⟩) k k l) := HS.out.1.blk.poly HS.out.2.1.symm
   go_wp2_with (go_at_call 79; refine (trimmed_any (some ⟨g, 0, none⟩) k k l _ HPP.out (by omega)).mono ?_; rintro e w1 ⟨ao', m, hm, rfl, h0, h1, hb1⟩; have HO : Hid (POwn w.heap.size w1 ao' m m (trimL (tab k F))) := (by rw [← HE.out]; exact (HS.out.1.later hb1 hgl).trim HG.out.1 (Nat.lt_of_lt_of_le hgl hb1.size) hm h0 h1); clear hm h0 h1)
   go_ret
   exact ⟨_, _, rfl, HO.out, bnext hbel hb1⟩
theorem joined_minus (ao bo : Option Addr) (la ca lb cb A N : Nat) (p s : List Int) (w : World) (hp : PolyAt w ao la ca p) (hs : PolyAt w bo lb cb s) (hla : la ≤ 1000) (hlb : lb ≤ 1000) (hA : A ≤ 100000) (hlp : Lim A p) (hls : Lim A s) (hN : N = max la lb) :
  Calls Tryz.prog 53 #[.slice ao la ca, .slice bo lb cb, .func (.func 56) #[] #[]] w fun e w' => NewPO w w' e (trimL (tab N fun i => dig p i - dig s i)) := by
 have HR : Hid (PolyAt w ao la ca p ∧ PolyAt w bo lb cb s ∧ Lim A p ∧ Lim A s ∧ A ≤ 100000) := ⟨hp, hs, hlp, hls, hA⟩
 have h3N : N ≤ 1000 := by omega
 have hmx : max (la : Int) (lb : Int) = (N : Int) := by omega
 clear hp hs hlp hls hA hN
 obtain ⟨F, hF⟩ : ∃ F : Nat → Int, F = fun i => dig p i - dig s i := ⟨_, rfl⟩
 have HF : Hid (∀ i, F i = dig p i - dig s i) := fun i => by rw [hF]
 rw [← hF]
 clear hF
 go_enter Tryz.func53, Tryz.ntmps53
 go_wp2_with (go_at_call 77; refine (room_any N _ (by omega)).mono ?_; rintro e w0 ⟨rfl, hB0, hg0, hb0⟩)
 obtain ⟨g, hg⟩ : ∃ g, g = w.heap.size := ⟨_, rfl⟩
 rw [← hg]
 have HG : Hid (w.heap.size ≤ g ∧ PBlkO w.heap.size w0 g (List.replicate N 0) ∧ g < w0.heap.size ∧ Below w.heap.size w w0) := by rw [hg]; exact ⟨Nat.le_refl _, hB0 _, hg0, hb0⟩
 clear hB0 hg0 hb0 hg
 go_loopw [17] (fun i wr => ∃ (k : Nat) (l : List Int), k ≤ N ∧ i = .int .i64 (k : Int) ∧ Below w.heap.size w wr ∧ g < wr.heap.size ∧ PBlkO w.heap.size wr g l ∧ FillSt N F k l) (fun i _ => N - (intOf i).toNat)
 case atStart => exact ⟨0, _, Nat.zero_le _, rfl, HG.out.2.2.2, HG.out.2.2.1, HG.out.2.1, FillSt.start N F⟩
 case round =>
  obtain ⟨k, l, hk, rfl, hbel, hgl, hPB, hst⟩ := hrel
  have HS : Hid (PBlkO w.heap.size wr g l ∧ FillSt N F k l) := ⟨hPB, hst⟩
  clear hPB hst
  by_cases hlt : k < N
  ·
   have hkl : Hid (k < l.length) := by show k < _; rw [HS.out.2.1]; exact hlt
   have z1 : (0 : Int) ≤ (k : Int) := by omega
   have z2 : (k : Int) < (N : Int) := by omega
   go_wp2_with (first
    | (go_at_call 56; refine (plminus_any n1 n2 ao1 ao2 l1 c1 l2 c2 (dig p k) (dig s k) _ H2.out.2.1 H2.out.1 (by omega) (by omega)).mono ?_; rintro e w3 ⟨n3, ao3, l3, c3, rfl, hs3, ho3, hb3⟩; have H3 : Hid (n3 = sgB (F k) ∧ Own wr.heap.size w3 .u64 74 ao3 l3 c3 (mag (F k).natAbs)) := (by rw [HF.out]; exact ⟨hs3, ho3.mono H2.out.2.2.size⟩); have hA3 : Below wr.heap.size wr w3 := bnext H2.out.2.2 hb3; have HP2 := HS.out.1.later hA3 hgl; clear hs3 ho3 hb3; obtain ⟨n0', a0', l0', c0', ⟨e0, e1⟩, _⟩ := HP2.coef k hkl.out; have hfz := HP2.soft; clear HP2)
    | (go_at_call 78; have _t := H1; refine (plat_any bo lb cb k s _ (HR.out.2.1.later (bnext hbel H1.out.2))).mono ?_; rintro e w2 ⟨n2, ao2, l2, c2, rfl, hi2, hb2⟩; have H2 : Hid (IntAt w2 n2 ao2 l2 c2 (dig s k) ∧ IntAt w2 n1 ao1 l1 c1 (dig p k) ∧ Below wr.heap.size wr w2) := ⟨hi2, H1.out.1.later hb2, bnext H1.out.2 hb2⟩; have hl2 : l2 ≤ 100000 := (by rw [hi2.lim]; exact Nat.le_trans (HR.out.2.2.2.1 k) HR.out.2.2.2.2); clear hi2 hb2)
    | (go_at_call 78; refine (plat_any ao la ca k p _ (HR.out.1.later hbel)).mono ?_; rintro e w1 ⟨n1, ao1, l1, c1, rfl, hi1, hb1⟩; have H1 : Hid (IntAt w1 n1 ao1 l1 c1 (dig p k) ∧ Below wr.heap.size wr w1) := ⟨hi1, hb1⟩; have hl1 : l1 ≤ 100000 := (by rw [hi1.lim]; exact Nat.le_trans (HR.out.2.2.1 k) HR.out.2.2.2.2); clear hi1 hb1))
   go_roundw
   case rel => exact ⟨k + 1, l.set k (F k), by omega, by go_num, ((bnext hbel hA3).setCell (p := ⟨g, k * 2, none⟩) HG.out.1 _).setCell (p := ⟨g, k * 2 + 1, none⟩) HG.out.1 _, by (have := hA3.size; simp; omega), HS.out.1.put hA3 hgl hbel.size hkl.out H3.out.1 H3.out.2, HS.out.2.step hlt⟩
   case measure => simp [intOf]; omega
  ·
   obtain rfl : k = N := by omega
   have HE : Hid (l = tab k F) := HS.out.2.done
   have HPP : Hid (PolyAt wr (some ⟨g, 0, none⟩) k k l) := HS.out.1.blk.poly HS.out.2.1.symm
   go_wp2_with (go_at_call 79; refine (trimmed_any (some ⟨g, 0, none⟩) k k l _ HPP.out (by omega)).mono ?_; rintro e w1 ⟨ao', m, hm, rfl, h0, h1, hb1⟩; have HO : Hid (POwn w.heap.size w1 ao' m m (trimL (tab k F))) := (by rw [← HE.out]; exact (HS.out.1.later hb1 hgl).trim HG.out.1 (Nat.lt_of_lt_of_le hgl hb1.size) hm h0 h1); clear hm h0 h1)
   go_ret
   exact ⟨_, _, rfl, HO.out, bnext hbel hb1⟩
theorem opposite_any (ao : Option Addr) (la ca A : Nat) (p : List Int) (w : World) (hp : PolyAt w ao la ca p) (hla : la ≤ 1000) (hA : A ≤ 100000) (hlp : Lim A p) :
  Calls Tryz.prog 58 #[.slice ao la ca] w fun e w' => NewPO w w' e (trimL (tab la fun i => dig p i * -1)) := by
 have HR : Hid (PolyAt w ao la ca p ∧ Lim A p ∧ A ≤ 100000) := ⟨hp, hlp, hA⟩
 clear hp hlp hA
 obtain ⟨F, hF⟩ : ∃ F : Nat → Int, F = fun i => dig p i * -1 := ⟨_, rfl⟩
 have HF : Hid (∀ i, F i = -dig p i) := fun i => by rw [hF]; show _ * -1 = _; omega
 rw [← hF]
 clear hF
 go_enter Tryz.func58, Tryz.ntmps58
 go_wp2_with (go_at_call 77; refine (room_any la _ (by omega)).mono ?_; rintro e w0 ⟨rfl, hB0, hg0, hb0⟩)
 obtain ⟨g, hg⟩ : ∃ g, g = w.heap.size := ⟨_, rfl⟩
 rw [← hg]
 have HG : Hid (w.heap.size ≤ g ∧ PBlkO w.heap.size w0 g (List.replicate la 0) ∧ g < w0.heap.size ∧ Below w.heap.size w w0) := by rw [hg]; exact ⟨Nat.le_refl _, hB0 _, hg0, hb0⟩
 clear hB0 hg0 hb0 hg
 go_loopw [11] (fun i wr => ∃ (k : Nat) (l : List Int), k ≤ la ∧ i = .int .i64 (k : Int) ∧ Below w.heap.size w wr ∧ g < wr.heap.size ∧ PBlkO w.heap.size wr g l ∧ FillSt la F k l) (fun i _ => la - (intOf i).toNat)
 case atStart => exact ⟨0, _, Nat.zero_le _, rfl, HG.out.2.2.2, HG.out.2.2.1, HG.out.2.1, FillSt.start la F⟩
 case round =>
  obtain ⟨k, l, hk, rfl, hbel, hgl, hPB, hst⟩ := hrel
  have HS : Hid (PBlkO w.heap.size wr g l ∧ FillSt la F k l) := ⟨hPB, hst⟩
  clear hPB hst
  by_cases hlt : k < la
  ·
   have hkl : Hid (k < l.length) := by show k < _; rw [HS.out.2.1]; exact hlt
   have z1 : (0 : Int) ≤ (k : Int) := by omega
   have z2 : (k : Int) < (la : Int) := by omega
   obtain ⟨b, off, n1, ao1, l1, c1, rfl, f0, f1, hi1⟩ := (HR.out.1.later hbel).at hlt
   have hA : Below wr.heap.size wr (wr.alloc (.cells #[.bool n1, .slice ao1 l1 c1] 28)) := (Below.refl _ _).alloc (Nat.le_refl _) _
   have HI : Hid (IntAt (wr.alloc (.cells #[.bool n1, .slice ao1 l1 c1] 28)) n1 ao1 l1 c1 (dig p k)) := hi1.later hA
   have hl1 : l1 ≤ 100000 := by rw [hi1.lim]; exact Nat.le_trans (HR.out.2.1 k) HR.out.2.2
   clear hi1
   go_wp2_with (go_at_call 84; refine (bneg_any n1 ao1 l1 c1 (dig p k) _ HI.out (by omega)).mono ?_; rintro e w3 ⟨n3, ao3, l3, c3, rfl, hs3, ho3, hb3⟩; have H3 : Hid (n3 = sgB (F k) ∧ Own wr.heap.size w3 .u64 74 ao3 l3 c3 (mag (F k).natAbs)) := (by rw [HF.out]; exact ⟨hs3, ho3.mono hA.size⟩); have hA3 : Below wr.heap.size wr w3 := bnext hA hb3; have HP2 := HS.out.1.later hA3 hgl; clear hs3 ho3 hb3; obtain ⟨n0', a0', l0', c0', ⟨e0, e1⟩, _⟩ := HP2.coef k hkl.out; have hfz := HP2.soft; clear HP2)
   go_roundw
   case rel => exact ⟨k + 1, l.set k (F k), by omega, by go_num, ((bnext hbel hA3).setCell (p := ⟨g, k * 2, none⟩) HG.out.1 _).setCell (p := ⟨g, k * 2 + 1, none⟩) HG.out.1 _, by (have := hA3.size; simp; omega), HS.out.1.put hA3 hgl hbel.size hkl.out H3.out.1 H3.out.2, HS.out.2.step hlt⟩
   case measure => simp [intOf]; omega
  ·
   obtain rfl : k = la := by omega
   have HE : Hid (l = tab k F) := HS.out.2.done
   have HPP : Hid (PolyAt wr (some ⟨g, 0, none⟩) k k l) := HS.out.1.blk.poly HS.out.2.1.symm
   go_wp2_with (go_at_call 79; refine (trimmed_any (some ⟨g, 0, none⟩) k k l _ HPP.out (by omega)).mono ?_; rintro e w1 ⟨ao', m, hm, rfl, h0, h1, hb1⟩; have HO : Hid (POwn w.heap.size w1 ao' m m (trimL (tab k F))) := (by rw [← HE.out]; exact (HS.out.1.later hb1 hgl).trim HG.out.1 (Nat.lt_of_lt_of_le hgl hb1.size) hm h0 h1); clear hm h0 h1)
   go_ret
   exact ⟨_, _, rfl, HO.out, bnext hbel hb1⟩
theorem scaled_any (ao : Option Addr) (la ca A : Nat) (p : List Int) (n : Bool) (co : Option Addr) (lc cc : Nat) (c : Int) (w : World) (hp : PolyAt w ao la ca p) (hv : IntAt w n co lc cc c) (hla : la ≤ 1000) (hA : A ≤ 100000) (hlp : Lim A p) (hlc : lc ≤ 100000) :
  Calls Tryz.prog 60 #[.slice ao la ca, .agg #[.bool n, .slice co lc cc]] w fun e w' => NewPO w w' e (trimL (tab la fun i => dig p i * c)) := by
 obtain ⟨W, hW⟩ : ∃ W, W = w.alloc (.cells #[.bool n, .slice co lc cc] 28) := ⟨_, rfl⟩
 have HW : Hid (Below w.heap.size w W ∧ Boxed W w.heap.size n co lc cc ∧ w.heap.size < W.heap.size) := by rw [hW]; exact ⟨(Below.refl _ _).alloc (Nat.le_refl _) _, ⟨by simp [go_sem], by simp [go_sem]⟩, by simp⟩
 have HR : Hid (PolyAt W ao la ca p ∧ IntAt W n co lc cc c ∧ Lim A p ∧ A ≤ 100000) := ⟨hp.later HW.out.1, hv.later HW.out.1, hlp, hA⟩
 clear hp hv hlp hA
 obtain ⟨F, hF⟩ : ∃ F : Nat → Int, F = fun i => dig p i * c := ⟨_, rfl⟩
 have HF : Hid (∀ i, F i = dig p i * c) := fun i => by rw [hF]
 rw [← hF]
 clear hF
 go_enter Tryz.func60, Tryz.ntmps60
 go_wp2_with (go_at_call 77; rw [← hW]; clear hW; refine (room_any la _ (by omega)).mono ?_; rintro e w0 ⟨rfl, hB0, hg0, hb0⟩)
 obtain ⟨g, hg⟩ : ∃ g, g = W.heap.size := ⟨_, rfl⟩
 rw [← hg]
 have HG : Hid (W.heap.size ≤ g ∧ PBlkO W.heap.size w0 g (List.replicate la 0) ∧ g < w0.heap.size ∧ Below W.heap.size W w0) := by rw [hg]; exact ⟨Nat.le_refl _, hB0 _, hg0, hb0⟩
 clear hB0 hg0 hb0 hg
 go_loopw [13] (fun i wr => ∃ (k : Nat) (l : List Int), k ≤ la ∧ i = .int .i64 (k : Int) ∧ Below W.heap.size W wr ∧ g < wr.heap.size ∧ PBlkO W.heap.size wr g l ∧ FillSt la F k l) (fun i _ => la - (intOf i).toNat)
 case atStart => exact ⟨0, _, Nat.zero_le _, rfl, HG.out.2.2.2, HG.out.2.2.1, HG.out.2.1, FillSt.start la F⟩
 case round =>
  obtain ⟨k, l, hk, rfl, hbel, hgl, hPB, hst⟩ := hrel
  have HS : Hid (PBlkO W.heap.size wr g l ∧ FillSt la F k l) := ⟨hPB, hst⟩
  clear hPB hst
  by_cases hlt : k < la
  ·
   have hkl : Hid (k < l.length) := by show k < _; rw [HS.out.2.1]; exact hlt
   have z1 : (0 : Int) ≤ (k : Int) := by omega
   have z2 : (k : Int) < (la : Int) := by omega
   obtain ⟨b, off, n1, ao1, l1, c1, rfl, f0, f1, hi1⟩ := (HR.out.1.later hbel).at hlt
   have hA : Below wr.heap.size wr (wr.alloc (.cells #[.bool n1, .slice ao1 l1 c1] 28)) := (Below.refl _ _).alloc (Nat.le_refl _) _
   have HI : Hid (IntAt (wr.alloc (.cells #[.bool n1, .slice ao1 l1 c1] 28)) n1 ao1 l1 c1 (dig p k) ∧ IntAt (wr.alloc (.cells #[.bool n1, .slice ao1 l1 c1] 28)) n co lc cc c) := ⟨hi1.later hA, (HR.out.2.1.later hbel).later hA⟩
   have hl1 : l1 ≤ 100000 := by rw [hi1.lim]; exact Nat.le_trans (HR.out.2.2.1 k) HR.out.2.2.2
   obtain ⟨q0, q1⟩ := (HW.out.2.1.later hbel HW.out.2.2).later hA (Nat.lt_of_lt_of_le HW.out.2.2 hbel.size)
   clear hi1
   go_wp2_with (go_at_call 83; refine (pltimes_any n1 n ao1 co l1 c1 lc cc (dig p k) c _ HI.out.1 HI.out.2 (by omega) (by omega)).mono ?_; rintro e w3 ⟨n3, ao3, l3, c3, rfl, hs3, ho3, hb3⟩; have H3 : Hid (n3 = sgB (F k) ∧ Own wr.heap.size w3 .u64 74 ao3 l3 c3 (mag (F k).natAbs)) := (by rw [HF.out]; exact ⟨hs3, ho3.mono hA.size⟩); have hA3 : Below wr.heap.size wr w3 := bnext hA hb3; have HP2 := HS.out.1.later hA3 hgl; clear hs3 ho3 hb3; obtain ⟨n0', a0', l0', c0', ⟨e0, e1⟩, _⟩ := HP2.coef k hkl.out; have hfz := HP2.soft; clear HP2)
   go_roundw
   case rel => exact ⟨k + 1, l.set k (F k), by omega, by go_num, ((bnext hbel hA3).setCell (p := ⟨g, k * 2, none⟩) HG.out.1 _).setCell (p := ⟨g, k * 2 + 1, none⟩) HG.out.1 _, by (have := hA3.size; simp; omega), HS.out.1.put hA3 hgl hbel.size hkl.out H3.out.1 H3.out.2, HS.out.2.step hlt⟩
   case measure => simp [intOf]; omega
  ·
   obtain rfl : k = la := by omega
   have HE : Hid (l = tab k F) := HS.out.2.done
   have HPP : Hid (PolyAt wr (some ⟨g, 0, none⟩) k k l) := HS.out.1.blk.poly HS.out.2.1.symm
   go_wp2_with (go_at_call 79; refine (trimmed_any (some ⟨g, 0, none⟩) k k l _ HPP.out (by omega)).mono ?_; rintro e w1 ⟨ao', m, hm, rfl, h0, h1, hb1⟩; have HO : Hid (POwn W.heap.size w1 ao' m m (trimL (tab k F))) := (by rw [← HE.out]; exact (HS.out.1.later hb1 hgl).trim HG.out.1 (Nat.lt_of_lt_of_le hgl hb1.size) hm h0 h1); clear hm h0 h1)
   go_ret
   exact ⟨_, _, rfl, HO.out.mono (Nat.le_of_lt HW.out.2.2), bnext HW.out.1 (bnext hbel hb1)⟩
theorem derivative_any (ao : Option Addr) (la ca A : Nat) (p : List Int) (w : World) (hp : PolyAt w ao la ca p) (hla : la ≤ 1000) (hA : A ≤ 100000) (hlp : Lim A p) :
  Calls Tryz.prog 59 #[.slice ao la ca] w fun e w' => NewPO w w' e (trimL (tab (la - 1) (derF p))) := by
 have HR : Hid (PolyAt w ao la ca p ∧ Lim A p ∧ A ≤ 100000) := ⟨hp, hlp, hA⟩
 clear hp hlp hA
 rcases Nat.eq_zero_or_pos la with h0 | h0
 ·
  subst h0
  go_enter Tryz.func59, Tryz.ntmps59
  go_wp2
  go_ret
  exact ⟨_, _, rfl, POwn.nil _ _, Below.refl _ _⟩
 obtain ⟨N, rfl⟩ : ∃ N, la = N + 1 := ⟨la - 1, by omega⟩
 have hn : (((N + 1 : Nat) : Int) == 0) = false := by simp; omega
 have hki : ((N + 1 : Nat) : Int) - 1 = (N : Int) := by omega
 have HNN : Hid (N + 1 - 1 = N) := Nat.add_sub_cancel ..
 obtain ⟨F, hF⟩ : ∃ F : Nat → Int, F = derF p := ⟨_, rfl⟩
 clear h0
 go_enter Tryz.func59, Tryz.ntmps59
 go_wp2_with (go_at_call 77; refine (room_any N _ (by omega)).mono ?_; rintro e w0 ⟨rfl, hB0, hg0, hb0⟩)
 obtain ⟨g, hg⟩ : ∃ g, g = w.heap.size := ⟨_, rfl⟩
 rw [← hg]
 have HG : Hid (w.heap.size ≤ g ∧ PBlkO w.heap.size w0 g (List.replicate N 0) ∧ g < w0.heap.size ∧ Below w.heap.size w w0) := by rw [hg]; exact ⟨Nat.le_refl _, hB0 _, hg0, hb0⟩
 have HF : Hid (F = derF p) := hF
 clear hB0 hg0 hb0 hg hki hF
 go_loopw [14] (fun i wr => ∃ (k : Nat) (l : List Int), k ≤ N ∧ i = .int .i64 (k : Int) ∧ Below w.heap.size w wr ∧ g < wr.heap.size ∧ PBlkO w.heap.size wr g l ∧ FillSt N F k l) (fun i _ => N - (intOf i).toNat)
 case atStart => exact ⟨0, _, Nat.zero_le _, rfl, HG.out.2.2.2, HG.out.2.2.1, HG.out.2.1, FillSt.start N F⟩
 case round =>
  obtain ⟨k, l, hk, rfl, hbel, hgl, hPB, hst⟩ := hrel
  have HS : Hid (PBlkO w.heap.size wr g l ∧ FillSt N F k l) := ⟨hPB, hst⟩
  clear hPB hst
  by_cases hlt : k < N
  ·
   have hkl : Hid (k < l.length) := by show k < _; rw [HS.out.2.1]; exact hlt
   obtain ⟨b, off, n1, ao1, l1, c1, rfl, f0', f1', hi1⟩ := HR.out.1.at (show k + 1 < N + 1 by omega)
   have KS : Hid (∀ w', Below w.heap.size w w' → w'.cell? ⟨b, off + (k + 1) * 2, none⟩ = some (.bool n1) ∧ w'.cell? ⟨b, off + (k + 1) * 2 + 1, none⟩ = some (.slice ao1 l1 c1)) := fun w' hb => ⟨(hb.cell (p := ⟨b, off + (k + 1) * 2, none⟩) (cell_lt f0')).trans f0', (hb.cell (p := ⟨b, off + (k + 1) * 2 + 1, none⟩) (cell_lt f1')).trans f1'⟩
   have HI : Hid (IntAt wr n1 ao1 l1 c1 (dig p (k + 1))) := hi1.later hbel
   have hl1 : l1 ≤ 100000 := by rw [hi1.lim]; exact Nat.le_trans (HR.out.2.1 _) HR.out.2.2
   have z1 : (0 : Int) ≤ (k : Int) := by omega
   have z2 : (k : Int) < (N : Int) := by omega
   have z3 : (0 : Int) ≤ (k : Int) + 1 := by omega
   have z4 : (k : Int) + 1 < ((N + 1 : Nat) : Int) := by omega
   have z5 : IntKind.i64.wrap ((k : Int) + 1) = (k : Int) + 1 := by rw [IntKind.wrap_i64]; omega
   have z6 : ((k : Int) + 1).toNat = k + 1 := by omega
   clear hi1 f0' f1'
   go_wp2
   refine wp_region_noPanic ?_
   refine wp_region_held_drew (S := fun w' => (w'.cell? ⟨b, off + (k + 1) * 2, none⟩ = some (.bool n1) ∧ w'.cell? ⟨b, off + (k + 1) * 2 + 1, none⟩ = some (.slice ao1 l1 c1))) (by kernel_rfl) (by (try dsimp only); exact KS.out _ hbel.drew) (fun hHeld => ?_)
   refine wpAnyH_take (i := 0) (oi := Oper.mk (some 17) _ _ _ _ _) (v := ?_) rfl (by decide +kernel) (by decide +kernel) (by decide +kernel) (fun _ _ _ h => h) (Or.inl ⟨by rfl, ?_⟩) (by assumption) ?_
   rotate_left
   ·
    (intro w hSw; (try dsimp only at hSw); go_simp <;> (try with_reducible rfl))
   (try simp only [Act.put, List.setIfInBounds_toArray, List.set_cons_zero, List.set_cons_succ])
   refine wpAnyH_take (i := 1) (oi := Oper.mk (some 18) _ _ _ _ _) (v := ?_) rfl (by decide +kernel) (by decide +kernel) (by decide +kernel) (fun _ _ _ h => h) (Or.inl ⟨by rfl, ?_⟩) (by assumption) ?_
   rotate_left
   ·
    (intro w hSw; (try dsimp only at hSw); go_simp <;> (try with_reducible rfl))
   (try simp only [Act.put, List.setIfInBounds_toArray, List.set_cons_zero, List.set_cons_succ])
   refine wpAnyH_take (i := 2) (oi := Oper.mk (some 19) _ _ _ _ _) (v := ?_) rfl (by decide +kernel) (by decide +kernel) (by decide +kernel) (fun _ _ _ h => h) (Or.inl ⟨by rfl, ?_⟩) (by assumption) ?_
   rotate_left
   ·
    (intro w hSw; (try dsimp only at hSw); go_simp <;> (try with_reducible rfl))
   (try simp only [Act.put, List.setIfInBounds_toArray, List.set_cons_zero, List.set_cons_succ])
   refine wpAnyH_take (i := 3) (oi := Oper.mk (some 20) _ _ _ _ _) (v := ?_) rfl (by decide +kernel) (by decide +kernel) (by decide +kernel) (fun _ _ _ h => h) (Or.inl ⟨by rfl, ?_⟩) (by assumption) ?_
   rotate_left
   ·
    (intro w hSw; (try dsimp only at hSw); go_simp <;> (try with_reducible rfl))
   (try simp only [Act.put, List.setIfInBounds_toArray, List.set_cons_zero, List.set_cons_succ])
   refine wpAnyH_take (i := 4) (oi := Oper.mk (some 21) _ _ _ _ _) (v := ?_) rfl (by decide +kernel) (by decide +kernel) (by decide +kernel) (fun _ _ _ h => h) (Or.inl ⟨by rfl, ?_⟩) (by assumption) ?_
   rotate_left
   ·
    (intro w hSw; (try dsimp only at hSw); go_simp <;> (try with_reducible rfl))
   (try simp only [Act.put, List.setIfInBounds_toArray, List.set_cons_zero, List.set_cons_succ])
   refine wpAnyH_take (i := 5) (oi := Oper.mk (some 22) _ _ _ _ _) (v := ?_) rfl (by decide +kernel) (by decide +kernel) (by decide +kernel) (fun _ _ _ h => h) (Or.inl ⟨by rfl, ?_⟩) (by assumption) ?_
   rotate_left
   ·
    (intro w hSw; (try dsimp only at hSw); go_simp <;> (try with_reducible rfl))
   (try simp only [Act.put, List.setIfInBounds_toArray, List.set_cons_zero, List.set_cons_succ])
   refine wpAnyH_take (i := 6) (oi := Oper.mk (some 23) _ _ _ _ _) (v := ?_) rfl (by decide +kernel) (by decide +kernel) (by decide +kernel) (fun _ _ _ h => h) (Or.inl ⟨by rfl, ?_⟩) (by assumption) ?_
   rotate_left
   ·
    (intro w hSw; (try dsimp only at hSw); go_simp <;> (try with_reducible rfl))
   (try simp only [Act.put, List.setIfInBounds_toArray, List.set_cons_zero, List.set_cons_succ])
   refine wpAnyH_take (i := 7) (oi := Oper.mk (some 24) _ _ _ _ _) (v := ?_) rfl (by decide +kernel) (by decide +kernel) (by decide +kernel) (fun _ _ _ h => h) (Or.inl ⟨by rfl, ?_⟩) (by assumption) ?_
   rotate_left
   ·
    (intro w hSw; (try dsimp only at hSw); go_simp <;> (try with_reducible rfl))
   (try simp only [Act.put, List.setIfInBounds_toArray, List.set_cons_zero, List.set_cons_succ])
   refine wpAnyH_take (i := 8) (oi := Oper.mk (some 25) _ _ _ _ _) (v := ?_) rfl (by decide +kernel) (by decide +kernel) (by decide +kernel) (fun _ _ _ h => h) (Or.inl ⟨by rfl, ?_⟩) (by assumption) ?_
   rotate_left
   ·
    (intro w hSw; (try dsimp only at hSw); go_simp <;> (try with_reducible rfl))
   (try simp only [Act.put, List.setIfInBounds_toArray, List.set_cons_zero, List.set_cons_succ])
   refine wpAnyH_ready (rs := [9]) (by decide +kernel) (by simp) ?_
   refine AllReadyH.cons (o := Oper.mk (some 26) _ _ _ _ _) rfl (fun K hK => ?_) AllReadyH.nil
   go_simp
   (go_at_call 85; refine (from_any ((k : Int) + 1) _ (by omega) (by omega)).mono ?_; rintro e w2 ⟨n2, ao2, l2, c2, rfl, hs2, ho2, hb2'⟩; have hb2 : Below wr.heap.size wr w2 := bnext (Below.refl _ _).drew hb2'; have H2 : Hid (IntAt w2 n2 ao2 l2 c2 ((k : Int) + 1) ∧ IntAt w2 n1 ao1 l1 c1 (dig p (k + 1))) := ⟨ho2.int hs2, HI.out.later hb2⟩; have hl2 : l2 ≤ 100000 := (by rw [(ho2.int hs2).lim]; exact Nat.le_trans (lim_small _ (by omega)) (by decide)); clear hs2 ho2 hb2')
   (try go_wp2_with fail)
   clear hHeld
   refine hK.out _ _ (by (try dsimp only); exact KS.out _ (bnext hbel hb2)) (fun hHeld => ?_)
   clear hK K
   (try simp only [Act.put, List.setIfInBounds_toArray, List.set_cons_zero, List.set_cons_succ])
   refine wpAnyH_ready (rs := [10]) (by decide +kernel) (by simp) ?_
   refine AllReadyH.cons (o := Oper.mk (some 27) _ _ _ _ _) rfl (fun K hK => ?_) AllReadyH.nil
   go_simp
   (go_at_call 83; refine (pltimes_any n1 n2 ao1 ao2 l1 c1 l2 c2 (dig p (k + 1)) ((k : Int) + 1) _ H2.out.2 H2.out.1 (by omega) (by omega)).mono ?_; rintro e w3 ⟨n3, ao3, l3, c3, rfl, hs3, ho3, hb3⟩; have H3 : Hid (n3 = sgB (derF p k) ∧ Own wr.heap.size w3 .u64 74 ao3 l3 c3 (mag (derF p k).natAbs)) := ⟨hs3, ho3.mono hb2.size⟩; have hA3 : Below wr.heap.size wr w3 := bnext hb2 hb3; have HP2 := HS.out.1.later hA3 hgl; clear hs3 ho3 hb3; obtain ⟨n0', a0', l0', c0', ⟨e0, e1⟩, _⟩ := HP2.coef k hkl.out; have hfz := HP2.soft; clear HP2)
   (try go_wp2_with fail)
   clear hHeld
   refine hK.out _ _ (by (try dsimp only); exact KS.out _ (bnext hbel hA3)) (fun hHeld => ?_)
   clear hK K
   (try simp only [Act.put, List.setIfInBounds_toArray, List.set_cons_zero, List.set_cons_succ])
   refine wpAnyH_take (i := 11) (oi := Oper.mk (some 28) _ _ _ _ _) (v := ?_) rfl (by decide +kernel) (by decide +kernel) (by decide +kernel) (fun _ _ _ h => h) (Or.inl ⟨by rfl, ?_⟩) (by assumption) ?_
   rotate_left
   ·
    (intro w hSw; (try dsimp only at hSw); go_simp <;> (try with_reducible rfl))
   (try simp only [Act.put, List.setIfInBounds_toArray, List.set_cons_zero, List.set_cons_succ])
   refine wpAnyH_ready (rs := [12]) (by decide +kernel) (by simp) ?_
   refine AllReadyH.cons (o := Oper.mk none _ _ _ _ _) rfl (fun K hK => ?_) AllReadyH.nil
   go_simp
   clear hHeld
   refine hK.out _ _ (by (try dsimp only); exact KS.out _ (((bnext hbel hA3).setCell (p := ⟨g, k * 2, none⟩) HG.out.1 _).setCell (p := ⟨g, k * 2 + 1, none⟩) HG.out.1 _)) (fun hHeld => ?_)
   clear hK K
   (try simp only [Act.put, List.setIfInBounds_toArray, List.set_cons_zero, List.set_cons_succ])
   refine wpAnyH_done (by decide +kernel) ?_ _
   refine NoPanic.normal ?_
   go_wp2
   go_roundw
   case rel => exact ⟨k + 1, l.set k (F k), by omega, by go_num, ((bnext hbel hA3).setCell (p := ⟨g, k * 2, none⟩) HG.out.1 _).setCell (p := ⟨g, k * 2 + 1, none⟩) HG.out.1 _, by (have := hA3.size; simp; omega), HS.out.1.put hA3 hgl hbel.size hkl.out (by rw [HF.out]; exact H3.out.1) (by rw [HF.out]; exact H3.out.2), HS.out.2.step hlt⟩
   case measure => simp [intOf]; omega
  ·
   obtain rfl : k = N := by omega
   have HE : Hid (l = tab k F) := HS.out.2.done
   have HPP : Hid (PolyAt wr (some ⟨g, 0, none⟩) k k l) := HS.out.1.blk.poly HS.out.2.1.symm
   go_wp2_with (go_at_call 79; refine (trimmed_any (some ⟨g, 0, none⟩) k k l _ HPP.out (by omega)).mono ?_; rintro e w1 ⟨ao', m, hm, rfl, h0, h1, hb1⟩; have HO : Hid (POwn w.heap.size w1 ao' m m (trimL (tab k F))) := (by rw [← HE.out]; exact (HS.out.1.later hb1 hgl).trim HG.out.1 (Nat.lt_of_lt_of_le hgl hb1.size) hm h0 h1); clear hm h0 h1)
   go_ret
   exact ⟨_, _, rfl, by rw [HNN.out, ← HF.out]; exact HO.out, bnext hbel hb1⟩
end Go.Proofs.YtojmlcignlcbhaaGreat
