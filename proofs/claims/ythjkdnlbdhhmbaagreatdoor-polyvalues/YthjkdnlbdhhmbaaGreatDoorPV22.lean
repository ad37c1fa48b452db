/-
  A pack of walks and facts: OB.
-/
import Derived.Test.YthjkdnlbdhhmbaaGreatDoorPV01
import Derived.Test.YthjkdnlbdhhmbaaGreatDoorPV21
set_option maxRecDepth 100000
set_option maxHeartbeats 40000000
set_option linter.unusedVariables false
set_option linter.unusedSimpArgs false
namespace Go.Proofs.YthjkdnlbdhhmbaaGreatDoor
open Go.RowKit
def loI (x : Nat → Int) : Nat → Int
 | 0 => x 0
 | k + 1 => if x k < loI x k then x k else loI x k
def hiI (x : Nat → Int) : Nat → Int
 | 0 => x 0
 | k + 1 => if hiI x k < x k then x k else hiI x k
theorem cmpI_leN {a b : Int} (h : a ≤ b) : ∃ c, cmpI a b = c ∧ ¬ 0 < c := by
 rcases Int.lt_or_eq_of_le h with h | h
 ·
  exact ⟨_, cmpI_lt h, by decide⟩
 ·
  exact ⟨_, cmpI_eq h, by decide⟩
def VarB (w : World) (r : Nat) (v : Int) : Prop := ∃ n o l c, Bx w r [.bool n, .slice o l c] ∧ IntAt w n o l c v
theorem VarB.later {w w' : World} {r : Nat} {v : Int} (h : VarB w r v) (hb : Below w.heap.size w w') : VarB w' r v := by
 obtain ⟨n, o, l, c, h1, h2⟩ := h
 exact ⟨n, o, l, c, h1.later hb h1.lt, h2.later hb⟩
theorem Bx.set1 {w : World} {r j : Nat} {v x : Value} {vs : List Value} (h : Bx w r vs) (hj : vs[j]? = some x) : Bx (w.setCell ⟨r, j, none⟩ v) r (vs.set j v) := by
 refine ⟨fun i u hi => ?_, fun i => frozen_off.trans (h.2 i)⟩
 by_cases e : j = i
 ·
  subst e
  have hl : j < vs.length := (List.getElem?_eq_some_iff.1 hj).1
  rw [List.getElem?_set_self hl] at hi
  cases hi
  exact set_hit (h.1 j x hj)
 ·
  rw [List.getElem?_set_ne e] at hi
  exact (setCell_ne (fun q => e q.2.symm)).trans (h.1 i u hi)
theorem VarB.put {w : World} {r : Nat} {n : Bool} {o : Option Addr} {l c : Nat} {v u : Int} (h : VarB w r u) (hi : IntAt w n o l c v) : VarB ((w.setCell ⟨r, 0, none⟩ (.bool n)).setCell ⟨r, 1, none⟩ (.slice o l c)) r v := by
 obtain ⟨n0, o0, l0, c0, h1, h2⟩ := h
 exact ⟨n, o, l, c, (h1.set1 (j := 0) (v := .bool n) rfl).set1 (j := 1) (v := .slice o l c) rfl, hi.cellKept (h1.1 0 _ rfl) (fun z e => by cases e) _ |>.cellKept (u := .slice o0 l0 c0) (by rw [setCell_ne (fun q => by cases q.2)]; exact h1.1 1 _ rfl) (fun z e => by cases e) _⟩
theorem VarB.other {w : World} {r s : Nat} {u v : Int} {x y : Value} (h : VarB w r v) (hs : VarB w s u) (hne : r ≠ s) : VarB ((w.setCell ⟨s, 0, none⟩ x).setCell ⟨s, 1, none⟩ y) r v := by
 obtain ⟨n, o, l, c, h1, h2⟩ := h
 obtain ⟨n0, o0, l0, c0, h3, h4⟩ := hs
 exact ⟨n, o, l, c, (h1.off (ws := [x]) hne 0).off (ws := [y]) hne 1, h2.cellKept (h3.1 0 _ rfl) (fun z e => by cases e) _ |>.cellKept (u := .slice o0 l0 c0) (by rw [setCell_ne (fun q => by cases q.2)]; exact h3.1 1 _ rfl) (fun z e => by cases e) _⟩
theorem IntAt.other {w : World} {s : Nat} {u v : Int} {x y : Value} {n : Bool} {o : Option Addr} {l c : Nat} (h : IntAt w n o l c v) (hs : VarB w s u) : IntAt ((w.setCell ⟨s, 0, none⟩ x).setCell ⟨s, 1, none⟩ y) n o l c v := by
 obtain ⟨n0, o0, l0, c0, h3, h4⟩ := hs
 exact h.cellKept (h3.1 0 _ rfl) (fun z e => by cases e) _ |>.cellKept (u := .slice o0 l0 c0) (by rw [setCell_ne (fun q => by cases q.2)]; exact h3.1 1 _ rfl) (fun z e => by cases e) _
theorem threeBx {w W : World} {A B C : List Value} {t1 t2 t3 : TypeId} (hW : W = ((w.alloc (.cells A.toArray t1)).alloc (.cells B.toArray t2)).alloc (.cells C.toArray t3)) (hA : 0 < A.length) (hB : 0 < B.length) (hC : 0 < C.length) :
  Below w.heap.size w W ∧ W.heap.size = w.heap.size + 3 ∧ Bx W w.heap.size A ∧ Bx W (w.heap.size + 1) B ∧ Bx W (w.heap.size + 1 + 1) C := by
 obtain ⟨X, hX⟩ : ∃ X, X = w.alloc (.cells A.toArray t1) := ⟨_, rfl⟩
 obtain ⟨Y, hY⟩ : ∃ Y, Y = X.alloc (.cells B.toArray t2) := ⟨_, rfl⟩
 rw [← hX, ← hY] at hW
 have x1 := Bx.new w A t1
 have x2 := Bx.new X B t2
 have x3 := Bx.new Y C t3
 rw [← hX] at x1
 rw [← hY] at x2
 rw [← hW] at x3
 have sX : X.heap.size = w.heap.size + 1 := by rw [hX]; simp
 have sY : Y.heap.size = w.heap.size + 1 + 1 := by rw [hY]; simp [sX]
 have bX : Below w.heap.size w X := by rw [hX]; exact (Below.refl _ _).alloc (Nat.le_refl _) _
 have bY : Below X.heap.size X Y := by rw [hY]; exact (Below.refl _ _).alloc (Nat.le_refl _) _
 have bW : Below Y.heap.size Y W := by rw [hW]; exact (Below.refl _ _).alloc (Nat.le_refl _) _
 rw [sX] at x2
 rw [sY] at x3
 have ltA : ∀ {W : World} {r : Nat} {L : List Value}, Bx W r L → 0 < L.length → r < W.heap.size := fun {W r L} h hl => by
  match L, hl with
  | v :: _, _ => exact cell_lt (h.1 0 v rfl)
 exact ⟨bnext (bnext bX bY) bW, by rw [hW]; simp [sY], x1.later (bnext bY bW) (ltA x1 hA), x2.later bW (ltA x2 hB), x3⟩
def TokE (n : Nat) : Prop := True
theorem extremes_any (n0 n1 n2 n3 : Bool) (o0 o1 o2 o3 : Option Addr) (l0 c0 l1 c1 l2 c2 l3 c3 : Nat) (x0 x1 x2 x3 : Int) (w : World) (h0 : IntAt w n0 o0 l0 c0 x0) (hl0 : l0 ≤ 1000000) (h1 : IntAt w n1 o1 l1 c1 x1) (hl1 : l1 ≤ 1000000) (h2 : IntAt w n2 o2 l2 c2 x2) (hl2 : l2 ≤ 1000000) (h3 : IntAt w n3 o3 l3 c3 x3) (hl3 : l3 ≤ 1000000) :
  Calls Tryz.prog 60 #[.agg #[.bool n0, .slice o0 l0 c0, .bool n1, .slice o1 l1 c1, .bool n2, .slice o2 l2 c2, .bool n3, .slice o3 l3 c3]] w fun e w' => ∃ na ao la ca nb bo lb cb, e = .returned (.tuple #[.agg #[.bool na, .slice ao la ca], .agg #[.bool nb, .slice bo lb cb]]) ∧ IntAt w' na ao la ca (loI (fun k => dig [x0, x1, x2, x3] k) 4) ∧ IntAt w' nb bo lb cb (hiI (fun k => dig [x0, x1, x2, x3] k) 4) ∧ Below w.heap.size w w' := by
 obtain ⟨x, hx⟩ : ∃ x : Nat → Int, x = (fun k => dig [x0, x1, x2, x3] k) := ⟨_, rfl⟩
 rw [← hx]
 have HXV : Hid (x 0 = x0 ∧ x 1 = x1 ∧ x 2 = x2 ∧ x 3 = x3) := by rw [hx]; exact ⟨rfl, rfl, rfl, rfl⟩
 obtain ⟨W, hW⟩ : ∃ W, W = ((w.alloc (.cells #[.bool n0, .slice o0 l0 c0, .bool n1, .slice o1 l1 c1, .bool n2, .slice o2 l2 c2, .bool n3, .slice o3 l3 c3] 89)).alloc (.cells #[.bool false, .slice none 0 0] 28)).alloc (.cells #[.bool false, .slice none 0 0] 28) := ⟨_, rfl⟩
 have h4 := threeBx (A := [.bool n0, .slice o0 l0 c0, .bool n1, .slice o1 l1 c1, .bool n2, .slice o2 l2 c2, .bool n3, .slice o3 l3 c3]) (B := [.bool false, .slice none 0 0]) (C := [.bool false, .slice none 0 0]) hW (by simp) (by simp) (by simp)
 have HB : Hid (Below w.heap.size w W ∧ W.heap.size = w.heap.size + 3 ∧ Bx W w.heap.size [.bool n0, .slice o0 l0 c0, .bool n1, .slice o1 l1 c1, .bool n2, .slice o2 l2 c2, .bool n3, .slice o3 l3 c3]) := ⟨h4.1, h4.2.1, h4.2.2.1⟩
 have HV0 : Hid (VarB W (w.heap.size + 1) 0 ∧ VarB W (w.heap.size + 1 + 1) 0) := ⟨⟨_, _, _, _, h4.2.2.2.1, ⟨rfl, RowAt.nilRow _ _⟩⟩, ⟨_, _, _, _, h4.2.2.2.2, ⟨rfl, RowAt.nilRow _ _⟩⟩⟩
 have HI : Hid (IntAt w n0 o0 l0 c0 x0 ∧ IntAt w n1 o1 l1 c1 x1 ∧ IntAt w n2 o2 l2 c2 x2 ∧ IntAt w n3 o3 l3 c3 x3) := ⟨h0, h1, h2, h3⟩
 have HL : Hid (l0 ≤ 1000000 ∧ l1 ≤ 1000000 ∧ l2 ≤ 1000000 ∧ l3 ≤ 1000000) := ⟨hl0, hl1, hl2, hl3⟩
 have a0 := h4.2.2.1.1 0 _ rfl
 have a1 := h4.2.2.1.1 1 _ rfl
 have a2 := h4.2.2.1.1 2 _ rfl
 have a3 := h4.2.2.1.1 3 _ rfl
 have a4 := h4.2.2.1.1 4 _ rfl
 have a5 := h4.2.2.1.1 5 _ rfl
 have a6 := h4.2.2.1.1 6 _ rfl
 have a7 := h4.2.2.1.1 7 _ rfl
 have b0 := h4.2.2.2.1.1 0 _ rfl
 have b1 := h4.2.2.2.1.1 1 _ rfl
 have bf := h4.2.2.2.1.2
 have d0 := h4.2.2.2.2.1 0 _ rfl
 have d1 := h4.2.2.2.2.1 1 _ rfl
 have df := h4.2.2.2.2.2
 have HWE : Hid (W = ((w.alloc (.cells #[.bool n0, .slice o0 l0 c0, .bool n1, .slice o1 l1 c1, .bool n2, .slice o2 l2 c2, .bool n3, .slice o3 l3 c3] 89)).alloc (.cells #[.bool false, .slice none 0 0] 28)).alloc (.cells #[.bool false, .slice none 0 0] 28)) := hW
 clear hW h4 h0 h1 h2 h3 hl0 hl1 hl2 hl3 hx
 go_enter Tryz.func60, Tryz.ntmps60
 go_wp2
 rw [← HWE.out]
 go_region
 go_wp2
 obtain ⟨V, hV⟩ : ∃ V, V = ((((W.setCell ⟨w.heap.size + 1, 0, none⟩ (.bool n0)).setCell ⟨w.heap.size + 1, 1, none⟩ (.slice o0 l0 c0)).setCell ⟨w.heap.size + 1 + 1, 0, none⟩ (.bool n0)).setCell ⟨w.heap.size + 1 + 1, 1, none⟩ (.slice o0 l0 c0)).drew := ⟨_, rfl⟩
 have HS0 : Hid (VarB V (w.heap.size + 1) (loI x 0) ∧ VarB V (w.heap.size + 1 + 1) (hiI x 0) ∧ Below w.heap.size w V ∧ lim (loI x 0) ≤ 1000000 ∧ lim (hiI x 0) ≤ 1000000) := by
  have i0 : IntAt W n0 o0 l0 c0 x0 := HI.out.1.later HB.out.1
  have v1 : VarB _ (w.heap.size + 1) x0 := HV0.out.1.put i0
  have v2 : VarB _ (w.heap.size + 1 + 1) 0 := HV0.out.2.other (x := .bool n0) (y := .slice o0 l0 c0) HV0.out.1 (by omega)
  have i1 : IntAt _ n0 o0 l0 c0 x0 := i0.other (x := .bool n0) (y := .slice o0 l0 c0) HV0.out.1
  have v3 := v2.put i1
  have v4 := v1.other (x := .bool n0) (y := .slice o0 l0 c0) v2 (by omega)
  rw [hV]
  have e : loI x 0 = x0 := HXV.out.1
  have e2 : hiI x 0 = x0 := HXV.out.1
  have hll : lim x0 ≤ 1000000 := by rw [← HI.out.1.lim]; exact HL.out.1
  rw [e, e2]
  exact ⟨v4.later (Below.refl _ _).drew, v3.later (Below.refl _ _).drew, (below_store (below_store HB.out.1 (by omega) _ _) (by omega) _ _).drew, hll, hll⟩
 have HWS : Hid (W.heap.size = w.heap.size + 3) := HB.out.2.1
 rw [← hV]
 clear hV a0 a1 a2 a3 a4 a5 a6 a7 b0 b1 bf d0 d1 df HV0 HB HWE
 go_loopw [11] (fun i wr => ∃ k : Nat, k ≤ 4 ∧ i = .int .i64 (k : Int) ∧ Hid (VarB wr (w.heap.size + 1) (loI x k) ∧ VarB wr (w.heap.size + 1 + 1) (hiI x k) ∧ Below w.heap.size w wr ∧ lim (loI x k) ≤ 1000000 ∧ lim (hiI x k) ≤ 1000000)) (fun i _ => 4 - (intOf i).toNat)
 case atStart => exact ⟨0, by omega, rfl, HS0.out⟩
 case round =>
  obtain ⟨k, hk, rfl, HS⟩ := hrel
  by_cases h4 : k = 4
  ·
   subst h4
   obtain ⟨⟨nl, ol, ll, cl, hxl, hil⟩, ⟨nh, oh, lh, ch, hxh, hih⟩, hbel, _⟩ := HS.out
   have HF : Hid ((IntAt wr nl ol ll cl (loI x 4) ∧ IntAt wr nh oh lh ch (hiI x 4) ∧ Below w.heap.size w wr) ∧ Bx wr (w.heap.size + 1) [.bool nl, .slice ol ll cl] ∧ Bx wr (w.heap.size + 1 + 1) [.bool nh, .slice oh lh ch]) := ⟨⟨hil, hih, hbel⟩, hxl, hxh⟩
   have p0 := hxl.1 0 _ rfl
   have p1 := hxl.1 1 _ rfl
   have pf := hxl.2
   have q0 := hxh.1 0 _ rfl
   have q1 := hxh.1 1 _ rfl
   have qf := hxh.2
   clear hxl hil hxh hih hbel HS
   go_wp2
   go_region
   go_wp2
   have v1 : VarB wr (w.heap.size + 1) (loI x 4) := ⟨_, _, _, _, HF.out.2.1, HF.out.1.1⟩
   have v2 : VarB wr (w.heap.size + 1 + 1) (hiI x 4) := ⟨_, _, _, _, HF.out.2.2, HF.out.1.2.1⟩
   have v3 : VarB _ (w.heap.size + 1 + 1) (hiI x 4) := v2.other (x := .bool nl) (y := .slice ol ll cl) v1 (by omega)
   have j1 := (HF.out.1.1.other (x := .bool nl) (y := .slice ol ll cl) v1).other (x := .bool nh) (y := .slice oh lh ch) v3
   have j2 := (HF.out.1.2.1.other (x := .bool nl) (y := .slice ol ll cl) v1).other (x := .bool nh) (y := .slice oh lh ch) v3
   exact bodyPost_ret (v := .tuple #[.agg #[.bool nl, .slice ol ll cl], .agg #[.bool nh, .slice oh lh ch]]) (by simp [results, Tryz.results60, go_sem, p0, p1, q0, q1, pf, qf]) rfl
    ⟨_, _, _, _, _, _, _, _, rfl, j1.later (Below.refl _ _).drew, j2.later (Below.refl _ _).drew, (below_store (r := w.heap.size + 1 + 1) (below_store (r := w.heap.size + 1) HF.out.1.2.2 (by omega) _ _) (by omega) _ _).drew⟩
  ·
   rcases (show k = 0 ∨ k = 1 ∨ k = 2 ∨ k = 3 by omega) with rfl | rfl | rfl | rfl
   ·
    obtain ⟨⟨nl, ol, ll, cl, hxl, hil⟩, ⟨nh, oh, lh, ch, hxh, hih⟩, hbel, hll, hlh⟩ := HS.out
    have HJ : Hid (IntAt wr nl ol ll cl (loI x 0) ∧ IntAt wr nh oh lh ch (hiI x 0) ∧ IntAt wr n0 o0 l0 c0 (x 0) ∧ Below w.heap.size w wr ∧ lim (loI x 0) ≤ 1000000 ∧ lim (hiI x 0) ≤ 1000000 ∧ lim (x 0) ≤ 1000000) := by
     have e : x 0 = x0 := HXV.out.1
     rw [e]
     exact ⟨hil, hih, HI.out.1.later hbel, hbel, hll, hlh, by rw [← HI.out.1.lim]; exact HL.out.1⟩
    have hl1 : ll ≤ 1000000 := by rw [hil.lim]; exact hll
    have hl2 : lh ≤ 1000000 := by rw [hih.lim]; exact hlh
    have hl3 : l0 ≤ 1000000 := HL.out.1
    have p0 := hxl.1 0 _ rfl
    have p1 := hxl.1 1 _ rfl
    have plt : w.heap.size + 1 < wr.heap.size := hxl.lt
    obtain ⟨U, hU⟩ : ∃ U, U = wr.alloc (.cells #[.bool n0, .slice o0 l0 c0] 28) := ⟨_, rfl⟩
    have hbU : Below wr.heap.size wr U := by rw [hU]; exact (Below.refl _ _).alloc (Nat.le_refl _) _
    obtain ⟨r5, hr5⟩ : ∃ r5, r5 = wr.heap.size := ⟨_, rfl⟩
    have HU : Hid (Bx U r5 [.bool n0, .slice o0 l0 c0] ∧ Below wr.heap.size wr U ∧ Bx U (w.heap.size + 1) [.bool nl, .slice ol ll cl] ∧ Bx U (w.heap.size + 1 + 1) [.bool nh, .slice oh lh ch]) := ⟨by rw [hU, hr5]; exact Bx.new _ _ _, hbU, hxl.later hbU hxl.lt, hxh.later hbU hxh.lt⟩
    have HUE : Hid (U = wr.alloc (.cells #[.bool n0, .slice o0 l0 c0] 28)) := hU
    have hne1 : r5 ≠ w.heap.size + 1 := by have := hxl.lt; omega
    have hne2 : r5 ≠ w.heap.size + 1 + 1 := by have := hxh.lt; omega
    have HR5 : Hid (r5 = wr.heap.size) := hr5
    clear hil hih hbel hll hlh hU hbU hr5 HS
    have T1 : TokE 1 := trivial
    have hidx : ∀ w, (Instr.index 89 (.agg #[.bool n0, .slice o0 l0 c0, .bool n1, .slice o1 l1 c1, .bool n2, .slice o2 l2 c2, .bool n3, .slice o3 l3 c3]) (.int .i64 0)).run Tryz.prog w = .ok (.agg #[.bool n0, .slice o0 l0 c0]) w := fun _ => by kernel_rfl
    by_cases hb1 : x 0 < loI x 0
    ·
     have hc1 := cmpI_lt hb1
     have HV1 : Hid (loI x 1 = x 0) := if_pos hb1
     clear hb1
     by_cases hb2 : hiI x 0 < x 0
     ·
      have hc2 := cmpI_gt hb2
      have HV2 : Hid (hiI x 1 = x 0) := if_pos hb2
      clear hb2
      go_wp2_with (first
       | (go_at_call 93; have _t := (T2 : TokE 2); obtain ⟨Y, hY⟩ : ∃ Y, Y = (w5.setCell ⟨w.heap.size + 1, 0, none⟩ (.bool n0)).setCell ⟨w.heap.size + 1, 1, none⟩ (.slice o0 l0 c0) := ⟨_, rfl⟩; rw [← hY]; have vl : VarB Y (w.heap.size + 1) (loI x 1) := (by rw [hY, HV1.out]; exact VarB.put ⟨_, _, _, _, H5.out.2.2.1, HJ.out.1.later (bnext HU.out.2.1 H5.out.1)⟩ (HJ.out.2.2.1.later (bnext HU.out.2.1 H5.out.1))); have i1 : IntAt Y n0 o0 l0 c0 (x 0) := (by rw [hY]; exact IntAt.other (HJ.out.2.2.1.later (bnext HU.out.2.1 H5.out.1)) ⟨_, _, _, _, H5.out.2.2.1, HJ.out.1.later (bnext HU.out.2.1 H5.out.1)⟩); have i2 : IntAt Y nh oh lh ch (hiI x 0) := (by rw [hY]; exact IntAt.other (HJ.out.2.1.later (bnext HU.out.2.1 H5.out.1)) ⟨_, _, _, _, H5.out.2.2.1, HJ.out.1.later (bnext HU.out.2.1 H5.out.1)⟩); have yh : Bx Y (w.heap.size + 1 + 1) [.bool nh, .slice oh lh ch] := (by rw [hY]; exact (H5.out.2.2.2.off (ws := [.bool n0]) (by omega) 0).off (ws := [.slice o0 l0 c0]) (by omega) 1); have y5 : Bx Y r5 [.bool n0, .slice o0 l0 c0] := (by rw [hY]; exact (H5.out.2.1.off (ws := [.bool n0]) hne1 0).off (ws := [.slice o0 l0 c0]) hne1 1); have bY : Below w.heap.size w Y := (by rw [hY]; exact below_store (bnext HJ.out.2.2.2.1 (bnext HU.out.2.1 H5.out.1)) (by omega) _ _); refine (bcmp_any n0 nh o0 oh l0 c0 lh ch (x 0) (hiI x 0) _ i1 i2 (by omega) (by omega) _ hc2).mono ?_; rintro e w6 ⟨rfl, hb6⟩; have H6 : Hid (VarB w6 (w.heap.size + 1) (loI x 1) ∧ IntAt w6 n0 o0 l0 c0 (x 0) ∧ IntAt w6 nh oh lh ch (hiI x 0) ∧ Bx w6 (w.heap.size + 1 + 1) [.bool nh, .slice oh lh ch] ∧ Below w.heap.size w w6) := ⟨vl.later hb6, i1.later hb6, i2.later hb6, yh.later hb6 yh.lt, bnext bY hb6⟩; have f2 := (y5.later hb6 y5.lt).1 0 _ rfl; have f3 := (y5.later hb6 y5.lt).1 1 _ rfl; clear T2 _t vl i1 i2 yh y5 bY hb6 hY f0 f1 p0 p1 pf q0 q1; have q0 := H6.out.2.2.2.1.1 0 _ rfl; have q1 := H6.out.2.2.2.1.1 1 _ rfl; have qf := H6.out.2.2.2.1.2)
       | (go_at_call 93; have _t := (T1 : TokE 1); rw [← HUE.out]; (try simp only [← HR5.out]); refine (bcmp_any n0 nl o0 ol l0 c0 ll cl (x 0) (loI x 0) U (HJ.out.2.2.1.later HU.out.2.1) (HJ.out.1.later HU.out.2.1) (by omega) (by omega) _ hc1).mono ?_; rintro e w5 ⟨rfl, hb5⟩; have H5 : Hid (Below U.heap.size U w5 ∧ Bx w5 r5 [.bool n0, .slice o0 l0 c0] ∧ Bx w5 (w.heap.size + 1) [.bool nl, .slice ol ll cl] ∧ Bx w5 (w.heap.size + 1 + 1) [.bool nh, .slice oh lh ch]) := ⟨hb5, HU.out.1.later hb5 HU.out.1.lt, HU.out.2.2.1.later hb5 HU.out.2.2.1.lt, HU.out.2.2.2.later hb5 HU.out.2.2.2.lt⟩; clear hb5 T1 _t p0 p1 plt; have T2 : TokE 2 := trivial; have f0 := H5.out.2.1.1 0 _ rfl; have f1 := H5.out.2.1.1 1 _ rfl; have p0 := H5.out.2.2.1.1 0 _ rfl; have p1 := H5.out.2.2.1.1 1 _ rfl; have pf := H5.out.2.2.1.2; have q0 := H5.out.2.2.2.1 0 _ rfl; have q1 := H5.out.2.2.2.1 1 _ rfl))
      go_roundw
      case rel => exact ⟨1, by omega, by go_num, H6.out.1.other ⟨_, _, _, _, H6.out.2.2.2.1, H6.out.2.2.1⟩ (by omega), by rw [HV2.out]; exact VarB.put ⟨_, _, _, _, H6.out.2.2.2.1, H6.out.2.2.1⟩ H6.out.2.1, below_store H6.out.2.2.2.2 (by omega) _ _, by rw [HV1.out]; exact HJ.out.2.2.2.2.2.2, by rw [HV2.out]; exact HJ.out.2.2.2.2.2.2⟩
      case measure => simp [intOf]
     ·
      obtain ⟨d2, hc2, hn2⟩ := cmpI_leN (show x 0 ≤ hiI x 0 by omega)
      have HV2 : Hid (hiI x 1 = hiI x 0) := if_neg hb2
      clear hb2
      go_wp2_with (first
       | (go_at_call 93; have _t := (T2 : TokE 2); obtain ⟨Y, hY⟩ : ∃ Y, Y = (w5.setCell ⟨w.heap.size + 1, 0, none⟩ (.bool n0)).setCell ⟨w.heap.size + 1, 1, none⟩ (.slice o0 l0 c0) := ⟨_, rfl⟩; rw [← hY]; have vl : VarB Y (w.heap.size + 1) (loI x 1) := (by rw [hY, HV1.out]; exact VarB.put ⟨_, _, _, _, H5.out.2.2.1, HJ.out.1.later (bnext HU.out.2.1 H5.out.1)⟩ (HJ.out.2.2.1.later (bnext HU.out.2.1 H5.out.1))); have i1 : IntAt Y n0 o0 l0 c0 (x 0) := (by rw [hY]; exact IntAt.other (HJ.out.2.2.1.later (bnext HU.out.2.1 H5.out.1)) ⟨_, _, _, _, H5.out.2.2.1, HJ.out.1.later (bnext HU.out.2.1 H5.out.1)⟩); have i2 : IntAt Y nh oh lh ch (hiI x 0) := (by rw [hY]; exact IntAt.other (HJ.out.2.1.later (bnext HU.out.2.1 H5.out.1)) ⟨_, _, _, _, H5.out.2.2.1, HJ.out.1.later (bnext HU.out.2.1 H5.out.1)⟩); have yh : Bx Y (w.heap.size + 1 + 1) [.bool nh, .slice oh lh ch] := (by rw [hY]; exact (H5.out.2.2.2.off (ws := [.bool n0]) (by omega) 0).off (ws := [.slice o0 l0 c0]) (by omega) 1); have y5 : Bx Y r5 [.bool n0, .slice o0 l0 c0] := (by rw [hY]; exact (H5.out.2.1.off (ws := [.bool n0]) hne1 0).off (ws := [.slice o0 l0 c0]) hne1 1); have bY : Below w.heap.size w Y := (by rw [hY]; exact below_store (bnext HJ.out.2.2.2.1 (bnext HU.out.2.1 H5.out.1)) (by omega) _ _); refine (bcmp_any n0 nh o0 oh l0 c0 lh ch (x 0) (hiI x 0) _ i1 i2 (by omega) (by omega) _ hc2).mono ?_; rintro e w6 ⟨rfl, hb6⟩; have H6 : Hid (VarB w6 (w.heap.size + 1) (loI x 1) ∧ IntAt w6 n0 o0 l0 c0 (x 0) ∧ IntAt w6 nh oh lh ch (hiI x 0) ∧ Bx w6 (w.heap.size + 1 + 1) [.bool nh, .slice oh lh ch] ∧ Below w.heap.size w w6) := ⟨vl.later hb6, i1.later hb6, i2.later hb6, yh.later hb6 yh.lt, bnext bY hb6⟩; have f2 := (y5.later hb6 y5.lt).1 0 _ rfl; have f3 := (y5.later hb6 y5.lt).1 1 _ rfl; clear T2 _t vl i1 i2 yh y5 bY hb6 hY f0 f1 p0 p1 pf q0 q1; have q0 := H6.out.2.2.2.1.1 0 _ rfl; have q1 := H6.out.2.2.2.1.1 1 _ rfl; have qf := H6.out.2.2.2.1.2)
       | (go_at_call 93; have _t := (T1 : TokE 1); rw [← HUE.out]; (try simp only [← HR5.out]); refine (bcmp_any n0 nl o0 ol l0 c0 ll cl (x 0) (loI x 0) U (HJ.out.2.2.1.later HU.out.2.1) (HJ.out.1.later HU.out.2.1) (by omega) (by omega) _ hc1).mono ?_; rintro e w5 ⟨rfl, hb5⟩; have H5 : Hid (Below U.heap.size U w5 ∧ Bx w5 r5 [.bool n0, .slice o0 l0 c0] ∧ Bx w5 (w.heap.size + 1) [.bool nl, .slice ol ll cl] ∧ Bx w5 (w.heap.size + 1 + 1) [.bool nh, .slice oh lh ch]) := ⟨hb5, HU.out.1.later hb5 HU.out.1.lt, HU.out.2.2.1.later hb5 HU.out.2.2.1.lt, HU.out.2.2.2.later hb5 HU.out.2.2.2.lt⟩; clear hb5 T1 _t p0 p1 plt; have T2 : TokE 2 := trivial; have f0 := H5.out.2.1.1 0 _ rfl; have f1 := H5.out.2.1.1 1 _ rfl; have p0 := H5.out.2.2.1.1 0 _ rfl; have p1 := H5.out.2.2.1.1 1 _ rfl; have pf := H5.out.2.2.1.2; have q0 := H5.out.2.2.2.1 0 _ rfl; have q1 := H5.out.2.2.2.1 1 _ rfl))
      go_roundw
      case rel => exact ⟨1, by omega, by go_num, H6.out.1, by rw [HV2.out]; exact ⟨_, _, _, _, H6.out.2.2.2.1, H6.out.2.2.1⟩, H6.out.2.2.2.2, by rw [HV1.out]; exact HJ.out.2.2.2.2.2.2, by rw [HV2.out]; exact HJ.out.2.2.2.2.2.1⟩
      case measure => simp [intOf]
    ·
     obtain ⟨d1, hc1, hn1⟩ := cmpI_ge (show loI x 0 ≤ x 0 by omega)
     have hm1 : ¬ d1 < 0 := by omega
     have HV1 : Hid (loI x 1 = loI x 0) := if_neg hb1
     clear hb1 hn1
     by_cases hb2 : hiI x 0 < x 0
     ·
      have hc2 := cmpI_gt hb2
      have HV2 : Hid (hiI x 1 = x 0) := if_pos hb2
      clear hb2
      go_wp2_with (first
       | (go_at_call 93; have _t := (T2 : TokE 2); obtain ⟨Y, hY⟩ : ∃ Y, Y = w5 := ⟨_, rfl⟩; have vl : VarB Y (w.heap.size + 1) (loI x 1) := (by rw [hY, HV1.out]; exact ⟨_, _, _, _, H5.out.2.2.1, HJ.out.1.later (bnext HU.out.2.1 H5.out.1)⟩); have i1 : IntAt Y n0 o0 l0 c0 (x 0) := (by rw [hY]; exact HJ.out.2.2.1.later (bnext HU.out.2.1 H5.out.1)); have i2 : IntAt Y nh oh lh ch (hiI x 0) := (by rw [hY]; exact HJ.out.2.1.later (bnext HU.out.2.1 H5.out.1)); have yh : Bx Y (w.heap.size + 1 + 1) [.bool nh, .slice oh lh ch] := (by rw [hY]; exact H5.out.2.2.2); have y5 : Bx Y r5 [.bool n0, .slice o0 l0 c0] := (by rw [hY]; exact H5.out.2.1); have bY : Below w.heap.size w Y := (by rw [hY]; exact bnext HJ.out.2.2.2.1 (bnext HU.out.2.1 H5.out.1)); subst hY; refine (bcmp_any n0 nh o0 oh l0 c0 lh ch (x 0) (hiI x 0) _ i1 i2 (by omega) (by omega) _ hc2).mono ?_; rintro e w6 ⟨rfl, hb6⟩; have H6 : Hid (VarB w6 (w.heap.size + 1) (loI x 1) ∧ IntAt w6 n0 o0 l0 c0 (x 0) ∧ IntAt w6 nh oh lh ch (hiI x 0) ∧ Bx w6 (w.heap.size + 1 + 1) [.bool nh, .slice oh lh ch] ∧ Below w.heap.size w w6) := ⟨vl.later hb6, i1.later hb6, i2.later hb6, yh.later hb6 yh.lt, bnext bY hb6⟩; have f2 := (y5.later hb6 y5.lt).1 0 _ rfl; have f3 := (y5.later hb6 y5.lt).1 1 _ rfl; clear T2 _t vl i1 i2 yh y5 bY hb6 f0 f1 p0 p1 pf q0 q1; have q0 := H6.out.2.2.2.1.1 0 _ rfl; have q1 := H6.out.2.2.2.1.1 1 _ rfl; have qf := H6.out.2.2.2.1.2)
       | (go_at_call 93; have _t := (T1 : TokE 1); rw [← HUE.out]; (try simp only [← HR5.out]); refine (bcmp_any n0 nl o0 ol l0 c0 ll cl (x 0) (loI x 0) U (HJ.out.2.2.1.later HU.out.2.1) (HJ.out.1.later HU.out.2.1) (by omega) (by omega) _ hc1).mono ?_; rintro e w5 ⟨rfl, hb5⟩; have H5 : Hid (Below U.heap.size U w5 ∧ Bx w5 r5 [.bool n0, .slice o0 l0 c0] ∧ Bx w5 (w.heap.size + 1) [.bool nl, .slice ol ll cl] ∧ Bx w5 (w.heap.size + 1 + 1) [.bool nh, .slice oh lh ch]) := ⟨hb5, HU.out.1.later hb5 HU.out.1.lt, HU.out.2.2.1.later hb5 HU.out.2.2.1.lt, HU.out.2.2.2.later hb5 HU.out.2.2.2.lt⟩; clear hb5 T1 _t p0 p1 plt; have T2 : TokE 2 := trivial; have f0 := H5.out.2.1.1 0 _ rfl; have f1 := H5.out.2.1.1 1 _ rfl; have p0 := H5.out.2.2.1.1 0 _ rfl; have p1 := H5.out.2.2.1.1 1 _ rfl; have pf := H5.out.2.2.1.2; have q0 := H5.out.2.2.2.1 0 _ rfl; have q1 := H5.out.2.2.2.1 1 _ rfl))
      go_roundw
      case rel => exact ⟨1, by omega, by go_num, H6.out.1.other ⟨_, _, _, _, H6.out.2.2.2.1, H6.out.2.2.1⟩ (by omega), by rw [HV2.out]; exact VarB.put ⟨_, _, _, _, H6.out.2.2.2.1, H6.out.2.2.1⟩ H6.out.2.1, below_store H6.out.2.2.2.2 (by omega) _ _, by rw [HV1.out]; exact HJ.out.2.2.2.2.1, by rw [HV2.out]; exact HJ.out.2.2.2.2.2.2⟩
      case measure => simp [intOf]
     ·
      obtain ⟨d2, hc2, hn2⟩ := cmpI_leN (show x 0 ≤ hiI x 0 by omega)
      have HV2 : Hid (hiI x 1 = hiI x 0) := if_neg hb2
      clear hb2
      go_wp2_with (first
       | (go_at_call 93; have _t := (T2 : TokE 2); obtain ⟨Y, hY⟩ : ∃ Y, Y = w5 := ⟨_, rfl⟩; have vl : VarB Y (w.heap.size + 1) (loI x 1) := (by rw [hY, HV1.out]; exact ⟨_, _, _, _, H5.out.2.2.1, HJ.out.1.later (bnext HU.out.2.1 H5.out.1)⟩); have i1 : IntAt Y n0 o0 l0 c0 (x 0) := (by rw [hY]; exact HJ.out.2.2.1.later (bnext HU.out.2.1 H5.out.1)); have i2 : IntAt Y nh oh lh ch (hiI x 0) := (by rw [hY]; exact HJ.out.2.1.later (bnext HU.out.2.1 H5.out.1)); have yh : Bx Y (w.heap.size + 1 + 1) [.bool nh, .slice oh lh ch] := (by rw [hY]; exact H5.out.2.2.2); have y5 : Bx Y r5 [.bool n0, .slice o0 l0 c0] := (by rw [hY]; exact H5.out.2.1); have bY : Below w.heap.size w Y := (by rw [hY]; exact bnext HJ.out.2.2.2.1 (bnext HU.out.2.1 H5.out.1)); subst hY; refine (bcmp_any n0 nh o0 oh l0 c0 lh ch (x 0) (hiI x 0) _ i1 i2 (by omega) (by omega) _ hc2).mono ?_; rintro e w6 ⟨rfl, hb6⟩; have H6 : Hid (VarB w6 (w.heap.size + 1) (loI x 1) ∧ IntAt w6 n0 o0 l0 c0 (x 0) ∧ IntAt w6 nh oh lh ch (hiI x 0) ∧ Bx w6 (w.heap.size + 1 + 1) [.bool nh, .slice oh lh ch] ∧ Below w.heap.size w w6) := ⟨vl.later hb6, i1.later hb6, i2.later hb6, yh.later hb6 yh.lt, bnext bY hb6⟩; have f2 := (y5.later hb6 y5.lt).1 0 _ rfl; have f3 := (y5.later hb6 y5.lt).1 1 _ rfl; clear T2 _t vl i1 i2 yh y5 bY hb6 f0 f1 p0 p1 pf q0 q1; have q0 := H6.out.2.2.2.1.1 0 _ rfl; have q1 := H6.out.2.2.2.1.1 1 _ rfl; have qf := H6.out.2.2.2.1.2)
       | (go_at_call 93; have _t := (T1 : TokE 1); rw [← HUE.out]; (try simp only [← HR5.out]); refine (bcmp_any n0 nl o0 ol l0 c0 ll cl (x 0) (loI x 0) U (HJ.out.2.2.1.later HU.out.2.1) (HJ.out.1.later HU.out.2.1) (by omega) (by omega) _ hc1).mono ?_; rintro e w5 ⟨rfl, hb5⟩; have H5 : Hid (Below U.heap.size U w5 ∧ Bx w5 r5 [.bool n0, .slice o0 l0 c0] ∧ Bx w5 (w.heap.size + 1) [.bool nl, .slice ol ll cl] ∧ Bx w5 (w.heap.size + 1 + 1) [.bool nh, .slice oh lh ch]) := ⟨hb5, HU.out.1.later hb5 HU.out.1.lt, HU.out.2.2.1.later hb5 HU.out.2.2.1.lt, HU.out.2.2.2.later hb5 HU.out.2.2.2.lt⟩; clear hb5 T1 _t p0 p1 plt; have T2 : TokE 2 := trivial; have f0 := H5.out.2.1.1 0 _ rfl; have f1 := H5.out.2.1.1 1 _ rfl; have p0 := H5.out.2.2.1.1 0 _ rfl; have p1 := H5.out.2.2.1.1 1 _ rfl; have pf := H5.out.2.2.1.2; have q0 := H5.out.2.2.2.1 0 _ rfl; have q1 := H5.out.2.2.2.1 1 _ rfl))
      go_roundw
      case rel => exact ⟨1, by omega, by go_num, H6.out.1, by rw [HV2.out]; exact ⟨_, _, _, _, H6.out.2.2.2.1, H6.out.2.2.1⟩, H6.out.2.2.2.2, by rw [HV1.out]; exact HJ.out.2.2.2.2.1, by rw [HV2.out]; exact HJ.out.2.2.2.2.2.1⟩
      case measure => simp [intOf]
   ·
    obtain ⟨⟨nl, ol, ll, cl, hxl, hil⟩, ⟨nh, oh, lh, ch, hxh, hih⟩, hbel, hll, hlh⟩ := HS.out
    have HJ : Hid (IntAt wr nl ol ll cl (loI x 1) ∧ IntAt wr nh oh lh ch (hiI x 1) ∧ IntAt wr n1 o1 l1 c1 (x 1) ∧ Below w.heap.size w wr ∧ lim (loI x 1) ≤ 1000000 ∧ lim (hiI x 1) ≤ 1000000 ∧ lim (x 1) ≤ 1000000) := by
     have e : x 1 = x1 := HXV.out.2.1
     rw [e]
     exact ⟨hil, hih, HI.out.2.1.later hbel, hbel, hll, hlh, by rw [← HI.out.2.1.lim]; exact HL.out.2.1⟩
    have hl1 : ll ≤ 1000000 := by rw [hil.lim]; exact hll
    have hl2 : lh ≤ 1000000 := by rw [hih.lim]; exact hlh
    have hl3 : l1 ≤ 1000000 := HL.out.2.1
    have p0 := hxl.1 0 _ rfl
    have p1 := hxl.1 1 _ rfl
    have plt : w.heap.size + 1 < wr.heap.size := hxl.lt
    obtain ⟨U, hU⟩ : ∃ U, U = wr.alloc (.cells #[.bool n1, .slice o1 l1 c1] 28) := ⟨_, rfl⟩
    have hbU : Below wr.heap.size wr U := by rw [hU]; exact (Below.refl _ _).alloc (Nat.le_refl _) _
    obtain ⟨r5, hr5⟩ : ∃ r5, r5 = wr.heap.size := ⟨_, rfl⟩
    have HU : Hid (Bx U r5 [.bool n1, .slice o1 l1 c1] ∧ Below wr.heap.size wr U ∧ Bx U (w.heap.size + 1) [.bool nl, .slice ol ll cl] ∧ Bx U (w.heap.size + 1 + 1) [.bool nh, .slice oh lh ch]) := ⟨by rw [hU, hr5]; exact Bx.new _ _ _, hbU, hxl.later hbU hxl.lt, hxh.later hbU hxh.lt⟩
    have HUE : Hid (U = wr.alloc (.cells #[.bool n1, .slice o1 l1 c1] 28)) := hU
    have hne1 : r5 ≠ w.heap.size + 1 := by have := hxl.lt; omega
    have hne2 : r5 ≠ w.heap.size + 1 + 1 := by have := hxh.lt; omega
    have HR5 : Hid (r5 = wr.heap.size) := hr5
    clear hil hih hbel hll hlh hU hbU hr5 HS
    have T1 : TokE 1 := trivial
    have hidx : ∀ w, (Instr.index 89 (.agg #[.bool n0, .slice o0 l0 c0, .bool n1, .slice o1 l1 c1, .bool n2, .slice o2 l2 c2, .bool n3, .slice o3 l3 c3]) (.int .i64 1)).run Tryz.prog w = .ok (.agg #[.bool n1, .slice o1 l1 c1]) w := fun _ => by kernel_rfl
    by_cases hb1 : x 1 < loI x 1
    ·
     have hc1 := cmpI_lt hb1
     have HV1 : Hid (loI x 2 = x 1) := if_pos hb1
     clear hb1
     by_cases hb2 : hiI x 1 < x 1
     ·
      have hc2 := cmpI_gt hb2
      have HV2 : Hid (hiI x 2 = x 1) := if_pos hb2
      clear hb2
      go_wp2_with (first
       | (go_at_call 93; have _t := (T2 : TokE 2); obtain ⟨Y, hY⟩ : ∃ Y, Y = (w5.setCell ⟨w.heap.size + 1, 0, none⟩ (.bool n1)).setCell ⟨w.heap.size + 1, 1, none⟩ (.slice o1 l1 c1) := ⟨_, rfl⟩; rw [← hY]; have vl : VarB Y (w.heap.size + 1) (loI x 2) := (by rw [hY, HV1.out]; exact VarB.put ⟨_, _, _, _, H5.out.2.2.1, HJ.out.1.later (bnext HU.out.2.1 H5.out.1)⟩ (HJ.out.2.2.1.later (bnext HU.out.2.1 H5.out.1))); have i1 : IntAt Y n1 o1 l1 c1 (x 1) := (by rw [hY]; exact IntAt.other (HJ.out.2.2.1.later (bnext HU.out.2.1 H5.out.1)) ⟨_, _, _, _, H5.out.2.2.1, HJ.out.1.later (bnext HU.out.2.1 H5.out.1)⟩); have i2 : IntAt Y nh oh lh ch (hiI x 1) := (by rw [hY]; exact IntAt.other (HJ.out.2.1.later (bnext HU.out.2.1 H5.out.1)) ⟨_, _, _, _, H5.out.2.2.1, HJ.out.1.later (bnext HU.out.2.1 H5.out.1)⟩); have yh : Bx Y (w.heap.size + 1 + 1) [.bool nh, .slice oh lh ch] := (by rw [hY]; exact (H5.out.2.2.2.off (ws := [.bool n1]) (by omega) 0).off (ws := [.slice o1 l1 c1]) (by omega) 1); have y5 : Bx Y r5 [.bool n1, .slice o1 l1 c1] := (by rw [hY]; exact (H5.out.2.1.off (ws := [.bool n1]) hne1 0).off (ws := [.slice o1 l1 c1]) hne1 1); have bY : Below w.heap.size w Y := (by rw [hY]; exact below_store (bnext HJ.out.2.2.2.1 (bnext HU.out.2.1 H5.out.1)) (by omega) _ _); refine (bcmp_any n1 nh o1 oh l1 c1 lh ch (x 1) (hiI x 1) _ i1 i2 (by omega) (by omega) _ hc2).mono ?_; rintro e w6 ⟨rfl, hb6⟩; have H6 : Hid (VarB w6 (w.heap.size + 1) (loI x 2) ∧ IntAt w6 n1 o1 l1 c1 (x 1) ∧ IntAt w6 nh oh lh ch (hiI x 1) ∧ Bx w6 (w.heap.size + 1 + 1) [.bool nh, .slice oh lh ch] ∧ Below w.heap.size w w6) := ⟨vl.later hb6, i1.later hb6, i2.later hb6, yh.later hb6 yh.lt, bnext bY hb6⟩; have f2 := (y5.later hb6 y5.lt).1 0 _ rfl; have f3 := (y5.later hb6 y5.lt).1 1 _ rfl; clear T2 _t vl i1 i2 yh y5 bY hb6 hY f0 f1 p0 p1 pf q0 q1; have q0 := H6.out.2.2.2.1.1 0 _ rfl; have q1 := H6.out.2.2.2.1.1 1 _ rfl; have qf := H6.out.2.2.2.1.2)
       | (go_at_call 93; have _t := (T1 : TokE 1); rw [← HUE.out]; (try simp only [← HR5.out]); refine (bcmp_any n1 nl o1 ol l1 c1 ll cl (x 1) (loI x 1) U (HJ.out.2.2.1.later HU.out.2.1) (HJ.out.1.later HU.out.2.1) (by omega) (by omega) _ hc1).mono ?_; rintro e w5 ⟨rfl, hb5⟩; have H5 : Hid (Below U.heap.size U w5 ∧ Bx w5 r5 [.bool n1, .slice o1 l1 c1] ∧ Bx w5 (w.heap.size + 1) [.bool nl, .slice ol ll cl] ∧ Bx w5 (w.heap.size + 1 + 1) [.bool nh, .slice oh lh ch]) := ⟨hb5, HU.out.1.later hb5 HU.out.1.lt, HU.out.2.2.1.later hb5 HU.out.2.2.1.lt, HU.out.2.2.2.later hb5 HU.out.2.2.2.lt⟩; clear hb5 T1 _t p0 p1 plt; have T2 : TokE 2 := trivial; have f0 := H5.out.2.1.1 0 _ rfl; have f1 := H5.out.2.1.1 1 _ rfl; have p0 := H5.out.2.2.1.1 0 _ rfl; have p1 := H5.out.2.2.1.1 1 _ rfl; have pf := H5.out.2.2.1.2; have q0 := H5.out.2.2.2.1 0 _ rfl; have q1 := H5.out.2.2.2.1 1 _ rfl))
      go_roundw
      case rel => exact ⟨2, by omega, by go_num, H6.out.1.other ⟨_, _, _, _, H6.out.2.2.2.1, H6.out.2.2.1⟩ (by omega), by rw [HV2.out]; exact VarB.put ⟨_, _, _, _, H6.out.2.2.2.1, H6.out.2.2.1⟩ H6.out.2.1, below_store H6.out.2.2.2.2 (by omega) _ _, by rw [HV1.out]; exact HJ.out.2.2.2.2.2.2, by rw [HV2.out]; exact HJ.out.2.2.2.2.2.2⟩
      case measure => simp [intOf]
     ·
      obtain ⟨d2, hc2, hn2⟩ := cmpI_leN (show x 1 ≤ hiI x 1 by omega)
      have HV2 : Hid (hiI x 2 = hiI x 1) := if_neg hb2
      clear hb2
      go_wp2_with (first
       | (go_at_call 93; have _t := (T2 : TokE 2); obtain ⟨Y, hY⟩ : ∃ Y, Y = (w5.setCell ⟨w.heap.size + 1, 0, none⟩ (.bool n1)).setCell ⟨w.heap.size + 1, 1, none⟩ (.slice o1 l1 c1) := ⟨_, rfl⟩; rw [← hY]; have vl : VarB Y (w.heap.size + 1) (loI x 2) := (by rw [hY, HV1.out]; exact VarB.put ⟨_, _, _, _, H5.out.2.2.1, HJ.out.1.later (bnext HU.out.2.1 H5.out.1)⟩ (HJ.out.2.2.1.later (bnext HU.out.2.1 H5.out.1))); have i1 : IntAt Y n1 o1 l1 c1 (x 1) := (by rw [hY]; exact IntAt.other (HJ.out.2.2.1.later (bnext HU.out.2.1 H5.out.1)) ⟨_, _, _, _, H5.out.2.2.1, HJ.out.1.later (bnext HU.out.2.1 H5.out.1)⟩); have i2 : IntAt Y nh oh lh ch (hiI x 1) := (by rw [hY]; exact IntAt.other (HJ.out.2.1.later (bnext HU.out.2.1 H5.out.1)) ⟨_, _, _, _, H5.out.2.2.1, HJ.out.1.later (bnext HU.out.2.1 H5.out.1)⟩); have yh : Bx Y (w.heap.size + 1 + 1) [.bool nh, .slice oh lh ch] := (by rw [hY]; exact (H5.out.2.2.2.off (ws := [.bool n1]) (by omega) 0).off (ws := [.slice o1 l1 c1]) (by omega) 1); have y5 : Bx Y r5 [.bool n1, .slice o1 l1 c1] := (by rw [hY]; exact (H5.out.2.1.off (ws := [.bool n1]) hne1 0).off (ws := [.slice o1 l1 c1]) hne1 1); have bY : Below w.heap.size w Y := (by rw [hY]; exact below_store (bnext HJ.out.2.2.2.1 (bnext HU.out.2.1 H5.out.1)) (by omega) _ _); refine (bcmp_any n1 nh o1 oh l1 c1 lh ch (x 1) (hiI x 1) _ i1 i2 (by omega) (by omega) _ hc2).mono ?_; rintro e w6 ⟨rfl, hb6⟩; have H6 : Hid (VarB w6 (w.heap.size + 1) (loI x 2) ∧ IntAt w6 n1 o1 l1 c1 (x 1) ∧ IntAt w6 nh oh lh ch (hiI x 1) ∧ Bx w6 (w.heap.size + 1 + 1) [.bool nh, .slice oh lh ch] ∧ Below w.heap.size w w6) := ⟨vl.later hb6, i1.later hb6, i2.later hb6, yh.later hb6 yh.lt, bnext bY hb6⟩; have f2 := (y5.later hb6 y5.lt).1 0 _ rfl; have f3 := (y5.later hb6 y5.lt).1 1 _ rfl; clear T2 _t vl i1 i2 yh y5 bY hb6 hY f0 f1 p0 p1 pf q0 q1; have q0 := H6.out.2.2.2.1.1 0 _ rfl; have q1 := H6.out.2.2.2.1.1 1 _ rfl; have qf := H6.out.2.2.2.1.2)
       | (go_at_call 93; have _t := (T1 : TokE 1); rw [← HUE.out]; (try simp only [← HR5.out]); refine (bcmp_any n1 nl o1 ol l1 c1 ll cl (x 1) (loI x 1) U (HJ.out.2.2.1.later HU.out.2.1) (HJ.out.1.later HU.out.2.1) (by omega) (by omega) _ hc1).mono ?_; rintro e w5 ⟨rfl, hb5⟩; have H5 : Hid (Below U.heap.size U w5 ∧ Bx w5 r5 [.bool n1, .slice o1 l1 c1] ∧ Bx w5 (w.heap.size + 1) [.bool nl, .slice ol ll cl] ∧ Bx w5 (w.heap.size + 1 + 1) [.bool nh, .slice oh lh ch]) := ⟨hb5, HU.out.1.later hb5 HU.out.1.lt, HU.out.2.2.1.later hb5 HU.out.2.2.1.lt, HU.out.2.2.2.later hb5 HU.out.2.2.2.lt⟩; clear hb5 T1 _t p0 p1 plt; have T2 : TokE 2 := trivial; have f0 := H5.out.2.1.1 0 _ rfl; have f1 := H5.out.2.1.1 1 _ rfl; have p0 := H5.out.2.2.1.1 0 _ rfl; have p1 := H5.out.2.2.1.1 1 _ rfl; have pf := H5.out.2.2.1.2; have q0 := H5.out.2.2.2.1 0 _ rfl; have q1 := H5.out.2.2.2.1 1 _ rfl))
      go_roundw
      case rel => exact ⟨2, by omega, by go_num, H6.out.1, by rw [HV2.out]; exact ⟨_, _, _, _, H6.out.2.2.2.1, H6.out.2.2.1⟩, H6.out.2.2.2.2, by rw [HV1.out]; exact HJ.out.2.2.2.2.2.2, by rw [HV2.out]; exact HJ.out.2.2.2.2.2.1⟩
      case measure => simp [intOf]
    ·
     obtain ⟨d1, hc1, hn1⟩ := cmpI_ge (show loI x 1 ≤ x 1 by omega)
     have hm1 : ¬ d1 < 0 := by omega
     have HV1 : Hid (loI x 2 = loI x 1) := if_neg hb1
     clear hb1 hn1
     by_cases hb2 : hiI x 1 < x 1
     ·
      have hc2 := cmpI_gt hb2
      have HV2 : Hid (hiI x 2 = x 1) := if_pos hb2
      clear hb2
      go_wp2_with (first
       | (go_at_call 93; have _t := (T2 : TokE 2); obtain ⟨Y, hY⟩ : ∃ Y, Y = w5 := ⟨_, rfl⟩; have vl : VarB Y (w.heap.size + 1) (loI x 2) := (by rw [hY, HV1.out]; exact ⟨_, _, _, _, H5.out.2.2.1, HJ.out.1.later (bnext HU.out.2.1 H5.out.1)⟩); have i1 : IntAt Y n1 o1 l1 c1 (x 1) := (by rw [hY]; exact HJ.out.2.2.1.later (bnext HU.out.2.1 H5.out.1)); have i2 : IntAt Y nh oh lh ch (hiI x 1) := (by rw [hY]; exact HJ.out.2.1.later (bnext HU.out.2.1 H5.out.1)); have yh : Bx Y (w.heap.size + 1 + 1) [.bool nh, .slice oh lh ch] := (by rw [hY]; exact H5.out.2.2.2); have y5 : Bx Y r5 [.bool n1, .slice o1 l1 c1] := (by rw [hY]; exact H5.out.2.1); have bY : Below w.heap.size w Y := (by rw [hY]; exact bnext HJ.out.2.2.2.1 (bnext HU.out.2.1 H5.out.1)); subst hY; refine (bcmp_any n1 nh o1 oh l1 c1 lh ch (x 1) (hiI x 1) _ i1 i2 (by omega) (by omega) _ hc2).mono ?_; rintro e w6 ⟨rfl, hb6⟩; have H6 : Hid (VarB w6 (w.heap.size + 1) (loI x 2) ∧ IntAt w6 n1 o1 l1 c1 (x 1) ∧ IntAt w6 nh oh lh ch (hiI x 1) ∧ Bx w6 (w.heap.size + 1 + 1) [.bool nh, .slice oh lh ch] ∧ Below w.heap.size w w6) := ⟨vl.later hb6, i1.later hb6, i2.later hb6, yh.later hb6 yh.lt, bnext bY hb6⟩; have f2 := (y5.later hb6 y5.lt).1 0 _ rfl; have f3 := (y5.later hb6 y5.lt).1 1 _ rfl; clear T2 _t vl i1 i2 yh y5 bY hb6 f0 f1 p0 p1 pf q0 q1; have q0 := H6.out.2.2.2.1.1 0 _ rfl; have q1 := H6.out.2.2.2.1.1 1 _ rfl; have qf := H6.out.2.2.2.1.2)
       | (go_at_call 93; have _t := (T1 : TokE 1); rw [← HUE.out]; (try simp only [← HR5.out]); refine (bcmp_any n1 nl o1 ol l1 c1 ll cl (x 1) (loI x 1) U (HJ.out.2.2.1.later HU.out.2.1) (HJ.out.1.later HU.out.2.1) (by omega) (by omega) _ hc1).mono ?_; rintro e w5 ⟨rfl, hb5⟩; have H5 : Hid (Below U.heap.size U w5 ∧ Bx w5 r5 [.bool n1, .slice o1 l1 c1] ∧ Bx w5 (w.heap.size + 1) [.bool nl, .slice ol ll cl] ∧ Bx w5 (w.heap.size + 1 + 1) [.bool nh, .slice oh lh ch]) := ⟨hb5, HU.out.1.later hb5 HU.out.1.lt, HU.out.2.2.1.later hb5 HU.out.2.2.1.lt, HU.out.2.2.2.later hb5 HU.out.2.2.2.lt⟩; clear hb5 T1 _t p0 p1 plt; have T2 : TokE 2 := trivial; have f0 := H5.out.2.1.1 0 _ rfl; have f1 := H5.out.2.1.1 1 _ rfl; have p0 := H5.out.2.2.1.1 0 _ rfl; have p1 := H5.out.2.2.1.1 1 _ rfl; have pf := H5.out.2.2.1.2; have q0 := H5.out.2.2.2.1 0 _ rfl; have q1 := H5.out.2.2.2.1 1 _ rfl))
      go_roundw
      case rel => exact ⟨2, by omega, by go_num, H6.out.1.other ⟨_, _, _, _, H6.out.2.2.2.1, H6.out.2.2.1⟩ (by omega), by rw [HV2.out]; exact VarB.put ⟨_, _, _, _, H6.out.2.2.2.1, H6.out.2.2.1⟩ H6.out.2.1, below_store H6.out.2.2.2.2 (by omega) _ _, by rw [HV1.out]; exact HJ.out.2.2.2.2.1, by rw [HV2.out]; exact HJ.out.2.2.2.2.2.2⟩
      case measure => simp [intOf]
     ·
      obtain ⟨d2, hc2, hn2⟩ := cmpI_leN (show x 1 ≤ hiI x 1 by omega)
      have HV2 : Hid (hiI x 2 = hiI x 1) := if_neg hb2
      clear hb2
      go_wp2_with (first
       | (go_at_call 93; have _t := (T2 : TokE 2); obtain ⟨Y, hY⟩ : ∃ Y, Y = w5 := ⟨_, rfl⟩; have vl : VarB Y (w.heap.size + 1) (loI x 2) := (by rw [hY, HV1.out]; exact ⟨_, _, _, _, H5.out.2.2.1, HJ.out.1.later (bnext HU.out.2.1 H5.out.1)⟩); have i1 : IntAt Y n1 o1 l1 c1 (x 1) := (by rw [hY]; exact HJ.out.2.2.1.later (bnext HU.out.2.1 H5.out.1)); have i2 : IntAt Y nh oh lh ch (hiI x 1) := (by rw [hY]; exact HJ.out.2.1.later (bnext HU.out.2.1 H5.out.1)); have yh : Bx Y (w.heap.size + 1 + 1) [.bool nh, .slice oh lh ch] := (by rw [hY]; exact H5.out.2.2.2); have y5 : Bx Y r5 [.bool n1, .slice o1 l1 c1] := (by rw [hY]; exact H5.out.2.1); have bY : Below w.heap.size w Y := (by rw [hY]; exact bnext HJ.out.2.2.2.1 (bnext HU.out.2.1 H5.out.1)); subst hY; refine (bcmp_any n1 nh o1 oh l1 c1 lh ch (x 1) (hiI x 1) _ i1 i2 (by omega) (by omega) _ hc2).mono ?_; rintro e w6 ⟨rfl, hb6⟩; have H6 : Hid (VarB w6 (w.heap.size + 1) (loI x 2) ∧ IntAt w6 n1 o1 l1 c1 (x 1) ∧ IntAt w6 nh oh lh ch (hiI x 1) ∧ Bx w6 (w.heap.size + 1 + 1) [.bool nh, .slice oh lh ch] ∧ Below w.heap.size w w6) := ⟨vl.later hb6, i1.later hb6, i2.later hb6, yh.later hb6 yh.lt, bnext bY hb6⟩; have f2 := (y5.later hb6 y5.lt).1 0 _ rfl; have f3 := (y5.later hb6 y5.lt).1 1 _ rfl; clear T2 _t vl i1 i2 yh y5 bY hb6 f0 f1 p0 p1 pf q0 q1; have q0 := H6.out.2.2.2.1.1 0 _ rfl; have q1 := H6.out.2.2.2.1.1 1 _ rfl; have qf := H6.out.2.2.2.1.2)
       | (go_at_call 93; have _t := (T1 : TokE 1); rw [← HUE.out]; (try simp only [← HR5.out]); refine (bcmp_any n1 nl o1 ol l1 c1 ll cl (x 1) (loI x 1) U (HJ.out.2.2.1.later HU.out.2.1) (HJ.out.1.later HU.out.2.1) (by omega) (by omega) _ hc1).mono ?_; rintro e w5 ⟨rfl, hb5⟩; have H5 : Hid (Below U.heap.size U w5 ∧ Bx w5 r5 [.bool n1, .slice o1 l1 c1] ∧ Bx w5 (w.heap.size + 1) [.bool nl, .slice ol ll cl] ∧ Bx w5 (w.heap.size + 1 + 1) [.bool nh, .slice oh lh ch]) := ⟨hb5, HU.out.1.later hb5 HU.out.1.lt, HU.out.2.2.1.later hb5 HU.out.2.2.1.lt, HU.out.2.2.2.later hb5 HU.out.2.2.2.lt⟩; clear hb5 T1 _t p0 p1 plt; have T2 : TokE 2 := trivial; have f0 := H5.out.2.1.1 0 _ rfl; have f1 := H5.out.2.1.1 1 _ rfl; have p0 := H5.out.2.2.1.1 0 _ rfl; have p1 := H5.out.2.2.1.1 1 _ rfl; have pf := H5.out.2.2.1.2; have q0 := H5.out.2.2.2.1 0 _ rfl; have q1 := H5.out.2.2.2.1 1 _ rfl))
      go_roundw
      case rel => exact ⟨2, by omega, by go_num, H6.out.1, by rw [HV2.out]; exact ⟨_, _, _, _, H6.out.2.2.2.1, H6.out.2.2.1⟩, H6.out.2.2.2.2, by rw [HV1.out]; exact HJ.out.2.2.2.2.1, by rw [HV2.out]; exact HJ.out.2.2.2.2.2.1⟩
      case measure => simp [intOf]
   ·
    obtain ⟨⟨nl, ol, ll, cl, hxl, hil⟩, ⟨nh, oh, lh, ch, hxh, hih⟩, hbel, hll, hlh⟩ := HS.out
    have HJ : Hid (IntAt wr nl ol ll cl (loI x 2) ∧ IntAt wr nh oh lh ch (hiI x 2) ∧ IntAt wr n2 o2 l2 c2 (x 2) ∧ Below w.heap.size w wr ∧ lim (loI x 2) ≤ 1000000 ∧ lim (hiI x 2) ≤ 1000000 ∧ lim (x 2) ≤ 1000000) := by
     have e : x 2 = x2 := HXV.out.2.2.1
     rw [e]
     exact ⟨hil, hih, HI.out.2.2.1.later hbel, hbel, hll, hlh, by rw [← HI.out.2.2.1.lim]; exact HL.out.2.2.1⟩
    have hl1 : ll ≤ 1000000 := by rw [hil.lim]; exact hll
    have hl2 : lh ≤ 1000000 := by rw [hih.lim]; exact hlh
    have hl3 : l2 ≤ 1000000 := HL.out.2.2.1
    have p0 := hxl.1 0 _ rfl
    have p1 := hxl.1 1 _ rfl
    have plt : w.heap.size + 1 < wr.heap.size := hxl.lt
    obtain ⟨U, hU⟩ : ∃ U, U = wr.alloc (.cells #[.bool n2, .slice o2 l2 c2] 28) := ⟨_, rfl⟩
    have hbU : Below wr.heap.size wr U := by rw [hU]; exact (Below.refl _ _).alloc (Nat.le_refl _) _
    obtain ⟨r5, hr5⟩ : ∃ r5, r5 = wr.heap.size := ⟨_, rfl⟩
    have HU : Hid (Bx U r5 [.bool n2, .slice o2 l2 c2] ∧ Below wr.heap.size wr U ∧ Bx U (w.heap.size + 1) [.bool nl, .slice ol ll cl] ∧ Bx U (w.heap.size + 1 + 1) [.bool nh, .slice oh lh ch]) := ⟨by rw [hU, hr5]; exact Bx.new _ _ _, hbU, hxl.later hbU hxl.lt, hxh.later hbU hxh.lt⟩
    have HUE : Hid (U = wr.alloc (.cells #[.bool n2, .slice o2 l2 c2] 28)) := hU
    have hne1 : r5 ≠ w.heap.size + 1 := by have := hxl.lt; omega
    have hne2 : r5 ≠ w.heap.size + 1 + 1 := by have := hxh.lt; omega
    have HR5 : Hid (r5 = wr.heap.size) := hr5
    clear hil hih hbel hll hlh hU hbU hr5 HS
    have T1 : TokE 1 := trivial
    have hidx : ∀ w, (Instr.index 89 (.agg #[.bool n0, .slice o0 l0 c0, .bool n1, .slice o1 l1 c1, .bool n2, .slice o2 l2 c2, .bool n3, .slice o3 l3 c3]) (.int .i64 2)).run Tryz.prog w = .ok (.agg #[.bool n2, .slice o2 l2 c2]) w := fun _ => by kernel_rfl
    by_cases hb1 : x 2 < loI x 2
    ·
     have hc1 := cmpI_lt hb1
     have HV1 : Hid (loI x 3 = x 2) := if_pos hb1
     clear hb1
     by_cases hb2 : hiI x 2 < x 2
     ·
      have hc2 := cmpI_gt hb2
      have HV2 : Hid (hiI x 3 = x 2) := if_pos hb2
      clear hb2
      go_wp2_with (first
       | (go_at_call 93; have _t := (T2 : TokE 2); obtain ⟨Y, hY⟩ : ∃ Y, Y = (w5.setCell ⟨w.heap.size + 1, 0, none⟩ (.bool n2)).setCell ⟨w.heap.size + 1, 1, none⟩ (.slice o2 l2 c2) := ⟨_, rfl⟩; rw [← hY]; have vl : VarB Y (w.heap.size + 1) (loI x 3) := (by rw [hY, HV1.out]; exact VarB.put ⟨_, _, _, _, H5.out.2.2.1, HJ.out.1.later (bnext HU.out.2.1 H5.out.1)⟩ (HJ.out.2.2.1.later (bnext HU.out.2.1 H5.out.1))); have i1 : IntAt Y n2 o2 l2 c2 (x 2) := (by rw [hY]; exact IntAt.other (HJ.out.2.2.1.later (bnext HU.out.2.1 H5.out.1)) ⟨_, _, _, _, H5.out.2.2.1, HJ.out.1.later (bnext HU.out.2.1 H5.out.1)⟩); have i2 : IntAt Y nh oh lh ch (hiI x 2) := (by rw [hY]; exact IntAt.other (HJ.out.2.1.later (bnext HU.out.2.1 H5.out.1)) ⟨_, _, _, _, H5.out.2.2.1, HJ.out.1.later (bnext HU.out.2.1 H5.out.1)⟩); have yh : Bx Y (w.heap.size + 1 + 1) [.bool nh, .slice oh lh ch] := (by rw [hY]; exact (H5.out.2.2.2.off (ws := [.bool n2]) (by omega) 0).off (ws := [.slice o2 l2 c2]) (by omega) 1); have y5 : Bx Y r5 [.bool n2, .slice o2 l2 c2] := (by rw [hY]; exact (H5.out.2.1.off (ws := [.bool n2]) hne1 0).off (ws := [.slice o2 l2 c2]) hne1 1); have bY : Below w.heap.size w Y := (by rw [hY]; exact below_store (bnext HJ.out.2.2.2.1 (bnext HU.out.2.1 H5.out.1)) (by omega) _ _); refine (bcmp_any n2 nh o2 oh l2 c2 lh ch (x 2) (hiI x 2) _ i1 i2 (by omega) (by omega) _ hc2).mono ?_; rintro e w6 ⟨rfl, hb6⟩; have H6 : Hid (VarB w6 (w.heap.size + 1) (loI x 3) ∧ IntAt w6 n2 o2 l2 c2 (x 2) ∧ IntAt w6 nh oh lh ch (hiI x 2) ∧ Bx w6 (w.heap.size + 1 + 1) [.bool nh, .slice oh lh ch] ∧ Below w.heap.size w w6) := ⟨vl.later hb6, i1.later hb6, i2.later hb6, yh.later hb6 yh.lt, bnext bY hb6⟩; have f2 := (y5.later hb6 y5.lt).1 0 _ rfl; have f3 := (y5.later hb6 y5.lt).1 1 _ rfl; clear T2 _t vl i1 i2 yh y5 bY hb6 hY f0 f1 p0 p1 pf q0 q1; have q0 := H6.out.2.2.2.1.1 0 _ rfl; have q1 := H6.out.2.2.2.1.1 1 _ rfl; have qf := H6.out.2.2.2.1.2)
       | (go_at_call 93; have _t := (T1 : TokE 1); rw [← HUE.out]; (try simp only [← HR5.out]); refine (bcmp_any n2 nl o2 ol l2 c2 ll cl (x 2) (loI x 2) U (HJ.out.2.2.1.later HU.out.2.1) (HJ.out.1.later HU.out.2.1) (by omega) (by omega) _ hc1).mono ?_; rintro e w5 ⟨rfl, hb5⟩; have H5 : Hid (Below U.heap.size U w5 ∧ Bx w5 r5 [.bool n2, .slice o2 l2 c2] ∧ Bx w5 (w.heap.size + 1) [.bool nl, .slice ol ll cl] ∧ Bx w5 (w.heap.size + 1 + 1) [.bool nh, .slice oh lh ch]) := ⟨hb5, HU.out.1.later hb5 HU.out.1.lt, HU.out.2.2.1.later hb5 HU.out.2.2.1.lt, HU.out.2.2.2.later hb5 HU.out.2.2.2.lt⟩; clear hb5 T1 _t p0 p1 plt; have T2 : TokE 2 := trivial; have f0 := H5.out.2.1.1 0 _ rfl; have f1 := H5.out.2.1.1 1 _ rfl; have p0 := H5.out.2.2.1.1 0 _ rfl; have p1 := H5.out.2.2.1.1 1 _ rfl; have pf := H5.out.2.2.1.2; have q0 := H5.out.2.2.2.1 0 _ rfl; have q1 := H5.out.2.2.2.1 1 _ rfl))
      go_roundw
      case rel => exact ⟨3, by omega, by go_num, H6.out.1.other ⟨_, _, _, _, H6.out.2.2.2.1, H6.out.2.2.1⟩ (by omega), by rw [HV2.out]; exact VarB.put ⟨_, _, _, _, H6.out.2.2.2.1, H6.out.2.2.1⟩ H6.out.2.1, below_store H6.out.2.2.2.2 (by omega) _ _, by rw [HV1.out]; exact HJ.out.2.2.2.2.2.2, by rw [HV2.out]; exact HJ.out.2.2.2.2.2.2⟩
      case measure => simp [intOf]
     ·
      obtain ⟨d2, hc2, hn2⟩ := cmpI_leN (show x 2 ≤ hiI x 2 by omega)
      have HV2 : Hid (hiI x 3 = hiI x 2) := if_neg hb2
      clear hb2
      go_wp2_with (first
       | (go_at_call 93; have _t := (T2 : TokE 2); obtain ⟨Y, hY⟩ : ∃ Y, Y = (w5.setCell ⟨w.heap.size + 1, 0, none⟩ (.bool n2)).setCell ⟨w.heap.size + 1, 1, none⟩ (.slice o2 l2 c2) := ⟨_, rfl⟩; rw [← hY]; have vl : VarB Y (w.heap.size + 1) (loI x 3) := (by rw [hY, HV1.out]; exact VarB.put ⟨_, _, _, _, H5.out.2.2.1, HJ.out.1.later (bnext HU.out.2.1 H5.out.1)⟩ (HJ.out.2.2.1.later (bnext HU.out.2.1 H5.out.1))); have i1 : IntAt Y n2 o2 l2 c2 (x 2) := (by rw [hY]; exact IntAt.other (HJ.out.2.2.1.later (bnext HU.out.2.1 H5.out.1)) ⟨_, _, _, _, H5.out.2.2.1, HJ.out.1.later (bnext HU.out.2.1 H5.out.1)⟩); have i2 : IntAt Y nh oh lh ch (hiI x 2) := (by rw [hY]; exact IntAt.other (HJ.out.2.1.later (bnext HU.out.2.1 H5.out.1)) ⟨_, _, _, _, H5.out.2.2.1, HJ.out.1.later (bnext HU.out.2.1 H5.out.1)⟩); have yh : Bx Y (w.heap.size + 1 + 1) [.bool nh, .slice oh lh ch] := (by rw [hY]; exact (H5.out.2.2.2.off (ws := [.bool n2]) (by omega) 0).off (ws := [.slice o2 l2 c2]) (by omega) 1); have y5 : Bx Y r5 [.bool n2, .slice o2 l2 c2] := (by rw [hY]; exact (H5.out.2.1.off (ws := [.bool n2]) hne1 0).off (ws := [.slice o2 l2 c2]) hne1 1); have bY : Below w.heap.size w Y := (by rw [hY]; exact below_store (bnext HJ.out.2.2.2.1 (bnext HU.out.2.1 H5.out.1)) (by omega) _ _); refine (bcmp_any n2 nh o2 oh l2 c2 lh ch (x 2) (hiI x 2) _ i1 i2 (by omega) (by omega) _ hc2).mono ?_; rintro e w6 ⟨rfl, hb6⟩; have H6 : Hid (VarB w6 (w.heap.size + 1) (loI x 3) ∧ IntAt w6 n2 o2 l2 c2 (x 2) ∧ IntAt w6 nh oh lh ch (hiI x 2) ∧ Bx w6 (w.heap.size + 1 + 1) [.bool nh, .slice oh lh ch] ∧ Below w.heap.size w w6) := ⟨vl.later hb6, i1.later hb6, i2.later hb6, yh.later hb6 yh.lt, bnext bY hb6⟩; have f2 := (y5.later hb6 y5.lt).1 0 _ rfl; have f3 := (y5.later hb6 y5.lt).1 1 _ rfl; clear T2 _t vl i1 i2 yh y5 bY hb6 hY f0 f1 p0 p1 pf q0 q1; have q0 := H6.out.2.2.2.1.1 0 _ rfl; have q1 := H6.out.2.2.2.1.1 1 _ rfl; have qf := H6.out.2.2.2.1.2)
       | (go_at_call 93; have _t := (T1 : TokE 1); rw [← HUE.out]; (try simp only [← HR5.out]); refine (bcmp_any n2 nl o2 ol l2 c2 ll cl (x 2) (loI x 2) U (HJ.out.2.2.1.later HU.out.2.1) (HJ.out.1.later HU.out.2.1) (by omega) (by omega) _ hc1).mono ?_; rintro e w5 ⟨rfl, hb5⟩; have H5 : Hid (Below U.heap.size U w5 ∧ Bx w5 r5 [.bool n2, .slice o2 l2 c2] ∧ Bx w5 (w.heap.size + 1) [.bool nl, .slice ol ll cl] ∧ Bx w5 (w.heap.size + 1 + 1) [.bool nh, .slice oh lh ch]) := ⟨hb5, HU.out.1.later hb5 HU.out.1.lt, HU.out.2.2.1.later hb5 HU.out.2.2.1.lt, HU.out.2.2.2.later hb5 HU.out.2.2.2.lt⟩; clear hb5 T1 _t p0 p1 plt; have T2 : TokE 2 := trivial; have f0 := H5.out.2.1.1 0 _ rfl; have f1 := H5.out.2.1.1 1 _ rfl; have p0 := H5.out.2.2.1.1 0 _ rfl; have p1 := H5.out.2.2.1.1 1 _ rfl; have pf := H5.out.2.2.1.2; have q0 := H5.out.2.2.2.1 0 _ rfl; have q1 := H5.out.2.2.2.1 1 _ rfl))
      go_roundw
      case rel => exact ⟨3, by omega, by go_num, H6.out.1, by rw [HV2.out]; exact ⟨_, _, _, _, H6.out.2.2.2.1, H6.out.2.2.1⟩, H6.out.2.2.2.2, by rw [HV1.out]; exact HJ.out.2.2.2.2.2.2, by rw [HV2.out]; exact HJ.out.2.2.2.2.2.1⟩
      case measure => simp [intOf]
    ·
     obtain ⟨d1, hc1, hn1⟩ := cmpI_ge (show loI x 2 ≤ x 2 by omega)
     have hm1 : ¬ d1 < 0 := by omega
     have HV1 : Hid (loI x 3 = loI x 2) := if_neg hb1
     clear hb1 hn1
     by_cases hb2 : hiI x 2 < x 2
     ·
      have hc2 := cmpI_gt hb2
      have HV2 : Hid (hiI x 3 = x 2) := if_pos hb2
      clear hb2
      go_wp2_with (first
       | (go_at_call 93; have _t := (T2 : TokE 2); obtain ⟨Y, hY⟩ : ∃ Y, Y = w5 := ⟨_, rfl⟩; have vl : VarB Y (w.heap.size + 1) (loI x 3) := (by rw [hY, HV1.out]; exact ⟨_, _, _, _, H5.out.2.2.1, HJ.out.1.later (bnext HU.out.2.1 H5.out.1)⟩); have i1 : IntAt Y n2 o2 l2 c2 (x 2) := (by rw [hY]; exact HJ.out.2.2.1.later (bnext HU.out.2.1 H5.out.1)); have i2 : IntAt Y nh oh lh ch (hiI x 2) := (by rw [hY]; exact HJ.out.2.1.later (bnext HU.out.2.1 H5.out.1)); have yh : Bx Y (w.heap.size + 1 + 1) [.bool nh, .slice oh lh ch] := (by rw [hY]; exact H5.out.2.2.2); have y5 : Bx Y r5 [.bool n2, .slice o2 l2 c2] := (by rw [hY]; exact H5.out.2.1); have bY : Below w.heap.size w Y := (by rw [hY]; exact bnext HJ.out.2.2.2.1 (bnext HU.out.2.1 H5.out.1)); subst hY; refine (bcmp_any n2 nh o2 oh l2 c2 lh ch (x 2) (hiI x 2) _ i1 i2 (by omega) (by omega) _ hc2).mono ?_; rintro e w6 ⟨rfl, hb6⟩; have H6 : Hid (VarB w6 (w.heap.size + 1) (loI x 3) ∧ IntAt w6 n2 o2 l2 c2 (x 2) ∧ IntAt w6 nh oh lh ch (hiI x 2) ∧ Bx w6 (w.heap.size + 1 + 1) [.bool nh, .slice oh lh ch] ∧ Below w.heap.size w w6) := ⟨vl.later hb6, i1.later hb6, i2.later hb6, yh.later hb6 yh.lt, bnext bY hb6⟩; have f2 := (y5.later hb6 y5.lt).1 0 _ rfl; have f3 := (y5.later hb6 y5.lt).1 1 _ rfl; clear T2 _t vl i1 i2 yh y5 bY hb6 f0 f1 p0 p1 pf q0 q1; have q0 := H6.out.2.2.2.1.1 0 _ rfl; have q1 := H6.out.2.2.2.1.1 1 _ rfl; have qf := H6.out.2.2.2.1.2)
       | (go_at_call 93; have _t := (T1 : TokE 1); rw [← HUE.out]; (try simp only [← HR5.out]); refine (bcmp_any n2 nl o2 ol l2 c2 ll cl (x 2) (loI x 2) U (HJ.out.2.2.1.later HU.out.2.1) (HJ.out.1.later HU.out.2.1) (by omega) (by omega) _ hc1).mono ?_; rintro e w5 ⟨rfl, hb5⟩; have H5 : Hid (Below U.heap.size U w5 ∧ Bx w5 r5 [.bool n2, .slice o2 l2 c2] ∧ Bx w5 (w.heap.size + 1) [.bool nl, .slice ol ll cl] ∧ Bx w5 (w.heap.size + 1 + 1) [.bool nh, .slice oh lh ch]) := ⟨hb5, HU.out.1.later hb5 HU.out.1.lt, HU.out.2.2.1.later hb5 HU.out.2.2.1.lt, HU.out.2.2.2.later hb5 HU.out.2.2.2.lt⟩; clear hb5 T1 _t p0 p1 plt; have T2 : TokE 2 := trivial; have f0 := H5.out.2.1.1 0 _ rfl; have f1 := H5.out.2.1.1 1 _ rfl; have p0 := H5.out.2.2.1.1 0 _ rfl; have p1 := H5.out.2.2.1.1 1 _ rfl; have pf := H5.out.2.2.1.2; have q0 := H5.out.2.2.2.1 0 _ rfl; have q1 := H5.out.2.2.2.1 1 _ rfl))
      go_roundw
      case rel => exact ⟨3, by omega, by go_num, H6.out.1.other ⟨_, _, _, _, H6.out.2.2.2.1, H6.out.2.2.1⟩ (by omega), by rw [HV2.out]; exact VarB.put ⟨_, _, _, _, H6.out.2.2.2.1, H6.out.2.2.1⟩ H6.out.2.1, below_store H6.out.2.2.2.2 (by omega) _ _, by rw [HV1.out]; exact HJ.out.2.2.2.2.1, by rw [HV2.out]; exact HJ.out.2.2.2.2.2.2⟩
      case measure => simp [intOf]
     ·
      obtain ⟨d2, hc2, hn2⟩ := cmpI_leN (show x 2 ≤ hiI x 2 by omega)
      have HV2 : Hid (hiI x 3 = hiI x 2) := if_neg hb2
      clear hb2
      go_wp2_with (first
       | (go_at_call 93; have _t := (T2 : TokE 2); obtain ⟨Y, hY⟩ : ∃ Y, Y = w5 := ⟨_, rfl⟩; have vl : VarB Y (w.heap.size + 1) (loI x 3) := (by rw [hY, HV1.out]; exact ⟨_, _, _, _, H5.out.2.2.1, HJ.out.1.later (bnext HU.out.2.1 H5.out.1)⟩); have i1 : IntAt Y n2 o2 l2 c2 (x 2) := (by rw [hY]; exact HJ.out.2.2.1.later (bnext HU.out.2.1 H5.out.1)); have i2 : IntAt Y nh oh lh ch (hiI x 2) := (by rw [hY]; exact HJ.out.2.1.later (bnext HU.out.2.1 H5.out.1)); have yh : Bx Y (w.heap.size + 1 + 1) [.bool nh, .slice oh lh ch] := (by rw [hY]; exact H5.out.2.2.2); have y5 : Bx Y r5 [.bool n2, .slice o2 l2 c2] := (by rw [hY]; exact H5.out.2.1); have bY : Below w.heap.size w Y := (by rw [hY]; exact bnext HJ.out.2.2.2.1 (bnext HU.out.2.1 H5.out.1)); subst hY; refine (bcmp_any n2 nh o2 oh l2 c2 lh ch (x 2) (hiI x 2) _ i1 i2 (by omega) (by omega) _ hc2).mono ?_; rintro e w6 ⟨rfl, hb6⟩; have H6 : Hid (VarB w6 (w.heap.size + 1) (loI x 3) ∧ IntAt w6 n2 o2 l2 c2 (x 2) ∧ IntAt w6 nh oh lh ch (hiI x 2) ∧ Bx w6 (w.heap.size + 1 + 1) [.bool nh, .slice oh lh ch] ∧ Below w.heap.size w w6) := ⟨vl.later hb6, i1.later hb6, i2.later hb6, yh.later hb6 yh.lt, bnext bY hb6⟩; have f2 := (y5.later hb6 y5.lt).1 0 _ rfl; have f3 := (y5.later hb6 y5.lt).1 1 _ rfl; clear T2 _t vl i1 i2 yh y5 bY hb6 f0 f1 p0 p1 pf q0 q1; have q0 := H6.out.2.2.2.1.1 0 _ rfl; have q1 := H6.out.2.2.2.1.1 1 _ rfl; have qf := H6.out.2.2.2.1.2)
       | (go_at_call 93; have _t := (T1 : TokE 1); rw [← HUE.out]; (try simp only [← HR5.out]); refine (bcmp_any n2 nl o2 ol l2 c2 ll cl (x 2) (loI x 2) U (HJ.out.2.2.1.later HU.out.2.1) (HJ.out.1.later HU.out.2.1) (by omega) (by omega) _ hc1).mono ?_; rintro e w5 ⟨rfl, hb5⟩; have H5 : Hid (Below U.heap.size U w5 ∧ Bx w5 r5 [.bool n2, .slice o2 l2 c2] ∧ Bx w5 (w.heap.size + 1) [.bool nl, .slice ol ll cl] ∧ Bx w5 (w.heap.size + 1 + 1) [.bool nh, .slice oh lh ch]) := ⟨hb5, HU.out.1.later hb5 HU.out.1.lt, HU.out.2.2.1.later hb5 HU.out.2.2.1.lt, HU.out.2.2.2.later hb5 HU.out.2.2.2.lt⟩; clear hb5 T1 _t p0 p1 plt; have T2 : TokE 2 := trivial; have f0 := H5.out.2.1.1 0 _ rfl; have f1 := H5.out.2.1.1 1 _ rfl; have p0 := H5.out.2.2.1.1 0 _ rfl; have p1 := H5.out.2.2.1.1 1 _ rfl; have pf := H5.out.2.2.1.2; have q0 := H5.out.2.2.2.1 0 _ rfl; have q1 := H5.out.2.2.2.1 1 _ rfl))
      go_roundw
      case rel => exact ⟨3, by omega, by go_num, H6.out.1, by rw [HV2.out]; exact ⟨_, _, _, _, H6.out.2.2.2.1, H6.out.2.2.1⟩, H6.out.2.2.2.2, by rw [HV1.out]; exact HJ.out.2.2.2.2.1, by rw [HV2.out]; exact HJ.out.2.2.2.2.2.1⟩
      case measure => simp [intOf]
   ·
    obtain ⟨⟨nl, ol, ll, cl, hxl, hil⟩, ⟨nh, oh, lh, ch, hxh, hih⟩, hbel, hll, hlh⟩ := HS.out
    have HJ : Hid (IntAt wr nl ol ll cl (loI x 3) ∧ IntAt wr nh oh lh ch (hiI x 3) ∧ IntAt wr n3 o3 l3 c3 (x 3) ∧ Below w.heap.size w wr ∧ lim (loI x 3) ≤ 1000000 ∧ lim (hiI x 3) ≤ 1000000 ∧ lim (x 3) ≤ 1000000) := by
     have e : x 3 = x3 := HXV.out.2.2.2
     rw [e]
     exact ⟨hil, hih, HI.out.2.2.2.later hbel, hbel, hll, hlh, by rw [← HI.out.2.2.2.lim]; exact HL.out.2.2.2⟩
    have hl1 : ll ≤ 1000000 := by rw [hil.lim]; exact hll
    have hl2 : lh ≤ 1000000 := by rw [hih.lim]; exact hlh
    have hl3 : l3 ≤ 1000000 := HL.out.2.2.2
    have p0 := hxl.1 0 _ rfl
    have p1 := hxl.1 1 _ rfl
    have plt : w.heap.size + 1 < wr.heap.size := hxl.lt
    obtain ⟨U, hU⟩ : ∃ U, U = wr.alloc (.cells #[.bool n3, .slice o3 l3 c3] 28) := ⟨_, rfl⟩
    have hbU : Below wr.heap.size wr U := by rw [hU]; exact (Below.refl _ _).alloc (Nat.le_refl _) _
    obtain ⟨r5, hr5⟩ : ∃ r5, r5 = wr.heap.size := ⟨_, rfl⟩
    have HU : Hid (Bx U r5 [.bool n3, .slice o3 l3 c3] ∧ Below wr.heap.size wr U ∧ Bx U (w.heap.size + 1) [.bool nl, .slice ol ll cl] ∧ Bx U (w.heap.size + 1 + 1) [.bool nh, .slice oh lh ch]) := ⟨by rw [hU, hr5]; exact Bx.new _ _ _, hbU, hxl.later hbU hxl.lt, hxh.later hbU hxh.lt⟩
    have HUE : Hid (U = wr.alloc (.cells #[.bool n3, .slice o3 l3 c3] 28)) := hU
    have hne1 : r5 ≠ w.heap.size + 1 := by have := hxl.lt; omega
    have hne2 : r5 ≠ w.heap.size + 1 + 1 := by have := hxh.lt; omega
    have HR5 : Hid (r5 = wr.heap.size) := hr5
    clear hil hih hbel hll hlh hU hbU hr5 HS
    have T1 : TokE 1 := trivial
    have hidx : ∀ w, (Instr.index 89 (.agg #[.bool n0, .slice o0 l0 c0, .bool n1, .slice o1 l1 c1, .bool n2, .slice o2 l2 c2, .bool n3, .slice o3 l3 c3]) (.int .i64 3)).run Tryz.prog w = .ok (.agg #[.bool n3, .slice o3 l3 c3]) w := fun _ => by kernel_rfl
    by_cases hb1 : x 3 < loI x 3
    ·
     have hc1 := cmpI_lt hb1
     have HV1 : Hid (loI x 4 = x 3) := if_pos hb1
     clear hb1
     by_cases hb2 : hiI x 3 < x 3
     ·
      have hc2 := cmpI_gt hb2
      have HV2 : Hid (hiI x 4 = x 3) := if_pos hb2
      clear hb2
      go_wp2_with (first
       | (go_at_call 93; have _t := (T2 : TokE 2); obtain ⟨Y, hY⟩ : ∃ Y, Y = (w5.setCell ⟨w.heap.size + 1, 0, none⟩ (.bool n3)).setCell ⟨w.heap.size + 1, 1, none⟩ (.slice o3 l3 c3) := ⟨_, rfl⟩; rw [← hY]; have vl : VarB Y (w.heap.size + 1) (loI x 4) := (by rw [hY, HV1.out]; exact VarB.put ⟨_, _, _, _, H5.out.2.2.1, HJ.out.1.later (bnext HU.out.2.1 H5.out.1)⟩ (HJ.out.2.2.1.later (bnext HU.out.2.1 H5.out.1))); have i1 : IntAt Y n3 o3 l3 c3 (x 3) := (by rw [hY]; exact IntAt.other (HJ.out.2.2.1.later (bnext HU.out.2.1 H5.out.1)) ⟨_, _, _, _, H5.out.2.2.1, HJ.out.1.later (bnext HU.out.2.1 H5.out.1)⟩); have i2 : IntAt Y nh oh lh ch (hiI x 3) := (by rw [hY]; exact IntAt.other (HJ.out.2.1.later (bnext HU.out.2.1 H5.out.1)) ⟨_, _, _, _, H5.out.2.2.1, HJ.out.1.later (bnext HU.out.2.1 H5.out.1)⟩); have yh : Bx Y (w.heap.size + 1 + 1) [.bool nh, .slice oh lh ch] := (by rw [hY]; exact (H5.out.2.2.2.off (ws := [.bool n3]) (by omega) 0).off (ws := [.slice o3 l3 c3]) (by omega) 1); have y5 : Bx Y r5 [.bool n3, .slice o3 l3 c3] := (by rw [hY]; exact (H5.out.2.1.off (ws := [.bool n3]) hne1 0).off (ws := [.slice o3 l3 c3]) hne1 1); have bY : Below w.heap.size w Y := (by rw [hY]; exact below_store (bnext HJ.out.2.2.2.1 (bnext HU.out.2.1 H5.out.1)) (by omega) _ _); refine (bcmp_any n3 nh o3 oh l3 c3 lh ch (x 3) (hiI x 3) _ i1 i2 (by omega) (by omega) _ hc2).mono ?_; rintro e w6 ⟨rfl, hb6⟩; have H6 : Hid (VarB w6 (w.heap.size + 1) (loI x 4) ∧ IntAt w6 n3 o3 l3 c3 (x 3) ∧ IntAt w6 nh oh lh ch (hiI x 3) ∧ Bx w6 (w.heap.size + 1 + 1) [.bool nh, .slice oh lh ch] ∧ Below w.heap.size w w6) := ⟨vl.later hb6, i1.later hb6, i2.later hb6, yh.later hb6 yh.lt, bnext bY hb6⟩; have f2 := (y5.later hb6 y5.lt).1 0 _ rfl; have f3 := (y5.later hb6 y5.lt).1 1 _ rfl; clear T2 _t vl i1 i2 yh y5 bY hb6 hY f0 f1 p0 p1 pf q0 q1; have q0 := H6.out.2.2.2.1.1 0 _ rfl; have q1 := H6.out.2.2.2.1.1 1 _ rfl; have qf := H6.out.2.2.2.1.2)
       | (go_at_call 93; have _t := (T1 : TokE 1); rw [← HUE.out]; (try simp only [← HR5.out]); refine (bcmp_any n3 nl o3 ol l3 c3 ll cl (x 3) (loI x 3) U (HJ.out.2.2.1.later HU.out.2.1) (HJ.out.1.later HU.out.2.1) (by omega) (by omega) _ hc1).mono ?_; rintro e w5 ⟨rfl, hb5⟩; have H5 : Hid (Below U.heap.size U w5 ∧ Bx w5 r5 [.bool n3, .slice o3 l3 c3] ∧ Bx w5 (w.heap.size + 1) [.bool nl, .slice ol ll cl] ∧ Bx w5 (w.heap.size + 1 + 1) [.bool nh, .slice oh lh ch]) := ⟨hb5, HU.out.1.later hb5 HU.out.1.lt, HU.out.2.2.1.later hb5 HU.out.2.2.1.lt, HU.out.2.2.2.later hb5 HU.out.2.2.2.lt⟩; clear hb5 T1 _t p0 p1 plt; have T2 : TokE 2 := trivial; have f0 := H5.out.2.1.1 0 _ rfl; have f1 := H5.out.2.1.1 1 _ rfl; have p0 := H5.out.2.2.1.1 0 _ rfl; have p1 := H5.out.2.2.1.1 1 _ rfl; have pf := H5.out.2.2.1.2; have q0 := H5.out.2.2.2.1 0 _ rfl; have q1 := H5.out.2.2.2.1 1 _ rfl))
      go_roundw
      case rel => exact ⟨4, by omega, by go_num, H6.out.1.other ⟨_, _, _, _, H6.out.2.2.2.1, H6.out.2.2.1⟩ (by omega), by rw [HV2.out]; exact VarB.put ⟨_, _, _, _, H6.out.2.2.2.1, H6.out.2.2.1⟩ H6.out.2.1, below_store H6.out.2.2.2.2 (by omega) _ _, by rw [HV1.out]; exact HJ.out.2.2.2.2.2.2, by rw [HV2.out]; exact HJ.out.2.2.2.2.2.2⟩
      case measure => simp [intOf]
     ·
      obtain ⟨d2, hc2, hn2⟩ := cmpI_leN (show x 3 ≤ hiI x 3 by omega)
      have HV2 : Hid (hiI x 4 = hiI x 3) := if_neg hb2
      clear hb2
      go_wp2_with (first
       | (go_at_call 93; have _t := (T2 : TokE 2); obtain ⟨Y, hY⟩ : ∃ Y, Y = (w5.setCell ⟨w.heap.size + 1, 0, none⟩ (.bool n3)).setCell ⟨w.heap.size + 1, 1, none⟩ (.slice o3 l3 c3) := ⟨_, rfl⟩; rw [← hY]; have vl : VarB Y (w.heap.size + 1) (loI x 4) := (by rw [hY, HV1.out]; exact VarB.put ⟨_, _, _, _, H5.out.2.2.1, HJ.out.1.later (bnext HU.out.2.1 H5.out.1)⟩ (HJ.out.2.2.1.later (bnext HU.out.2.1 H5.out.1))); have i1 : IntAt Y n3 o3 l3 c3 (x 3) := (by rw [hY]; exact IntAt.other (HJ.out.2.2.1.later (bnext HU.out.2.1 H5.out.1)) ⟨_, _, _, _, H5.out.2.2.1, HJ.out.1.later (bnext HU.out.2.1 H5.out.1)⟩); have i2 : IntAt Y nh oh lh ch (hiI x 3) := (by rw [hY]; exact IntAt.other (HJ.out.2.1.later (bnext HU.out.2.1 H5.out.1)) ⟨_, _, _, _, H5.out.2.2.1, HJ.out.1.later (bnext HU.out.2.1 H5.out.1)⟩); have yh : Bx Y (w.heap.size + 1 + 1) [.bool nh, .slice oh lh ch] := (by rw [hY]; exact (H5.out.2.2.2.off (ws := [.bool n3]) (by omega) 0).off (ws := [.slice o3 l3 c3]) (by omega) 1); have y5 : Bx Y r5 [.bool n3, .slice o3 l3 c3] := (by rw [hY]; exact (H5.out.2.1.off (ws := [.bool n3]) hne1 0).off (ws := [.slice o3 l3 c3]) hne1 1); have bY : Below w.heap.size w Y := (by rw [hY]; exact below_store (bnext HJ.out.2.2.2.1 (bnext HU.out.2.1 H5.out.1)) (by omega) _ _); refine (bcmp_any n3 nh o3 oh l3 c3 lh ch (x 3) (hiI x 3) _ i1 i2 (by omega) (by omega) _ hc2).mono ?_; rintro e w6 ⟨rfl, hb6⟩; have H6 : Hid (VarB w6 (w.heap.size + 1) (loI x 4) ∧ IntAt w6 n3 o3 l3 c3 (x 3) ∧ IntAt w6 nh oh lh ch (hiI x 3) ∧ Bx w6 (w.heap.size + 1 + 1) [.bool nh, .slice oh lh ch] ∧ Below w.heap.size w w6) := ⟨vl.later hb6, i1.later hb6, i2.later hb6, yh.later hb6 yh.lt, bnext bY hb6⟩; have f2 := (y5.later hb6 y5.lt).1 0 _ rfl; have f3 := (y5.later hb6 y5.lt).1 1 _ rfl; clear T2 _t vl i1 i2 yh y5 bY hb6 hY f0 f1 p0 p1 pf q0 q1; have q0 := H6.out.2.2.2.1.1 0 _ rfl; have q1 := H6.out.2.2.2.1.1 1 _ rfl; have qf := H6.out.2.2.2.1.2)
       | (go_at_call 93; have _t := (T1 : TokE 1); rw [← HUE.out]; (try simp only [← HR5.out]); refine (bcmp_any n3 nl o3 ol l3 c3 ll cl (x 3) (loI x 3) U (HJ.out.2.2.1.later HU.out.2.1) (HJ.out.1.later HU.out.2.1) (by omega) (by omega) _ hc1).mono ?_; rintro e w5 ⟨rfl, hb5⟩; have H5 : Hid (Below U.heap.size U w5 ∧ Bx w5 r5 [.bool n3, .slice o3 l3 c3] ∧ Bx w5 (w.heap.size + 1) [.bool nl, .slice ol ll cl] ∧ Bx w5 (w.heap.size + 1 + 1) [.bool nh, .slice oh lh ch]) := ⟨hb5, HU.out.1.later hb5 HU.out.1.lt, HU.out.2.2.1.later hb5 HU.out.2.2.1.lt, HU.out.2.2.2.later hb5 HU.out.2.2.2.lt⟩; clear hb5 T1 _t p0 p1 plt; have T2 : TokE 2 := trivial; have f0 := H5.out.2.1.1 0 _ rfl; have f1 := H5.out.2.1.1 1 _ rfl; have p0 := H5.out.2.2.1.1 0 _ rfl; have p1 := H5.out.2.2.1.1 1 _ rfl; have pf := H5.out.2.2.1.2; have q0 := H5.out.2.2.2.1 0 _ rfl; have q1 := H5.out.2.2.2.1 1 _ rfl))
      go_roundw
      case rel => exact ⟨4, by omega, by go_num, H6.out.1, by rw [HV2.out]; exact ⟨_, _, _, _, H6.out.2.2.2.1, H6.out.2.2.1⟩, H6.out.2.2.2.2, by rw [HV1.out]; exact HJ.out.2.2.2.2.2.2, by rw [HV2.out]; exact HJ.out.2.2.2.2.2.1⟩
      case measure => simp [intOf]
    ·
     obtain ⟨d1, hc1, hn1⟩ := cmpI_ge (show loI x 3 ≤ x 3 by omega)
     have hm1 : ¬ d1 < 0 := by omega
     have HV1 : Hid (loI x 4 = loI x 3) := if_neg hb1
     clear hb1 hn1
     by_cases hb2 : hiI x 3 < x 3
     ·
      have hc2 := cmpI_gt hb2
      have HV2 : Hid (hiI x 4 = x 3) := if_pos hb2
      clear hb2
      go_wp2_with (first
       | (go_at_call 93; have _t := (T2 : TokE 2); obtain ⟨Y, hY⟩ : ∃ Y, Y = w5 := ⟨_, rfl⟩; have vl : VarB Y (w.heap.size + 1) (loI x 4) := (by rw [hY, HV1.out]; exact ⟨_, _, _, _, H5.out.2.2.1, HJ.out.1.later (bnext HU.out.2.1 H5.out.1)⟩); have i1 : IntAt Y n3 o3 l3 c3 (x 3) := (by rw [hY]; exact HJ.out.2.2.1.later (bnext HU.out.2.1 H5.out.1)); have i2 : IntAt Y nh oh lh ch (hiI x 3) := (by rw [hY]; exact HJ.out.2.1.later (bnext HU.out.2.1 H5.out.1)); have yh : Bx Y (w.heap.size + 1 + 1) [.bool nh, .slice oh lh ch] := (by rw [hY]; exact H5.out.2.2.2); have y5 : Bx Y r5 [.bool n3, .slice o3 l3 c3] := (by rw [hY]; exact H5.out.2.1); have bY : Below w.heap.size w Y := (by rw [hY]; exact bnext HJ.out.2.2.2.1 (bnext HU.out.2.1 H5.out.1)); subst hY; refine (bcmp_any n3 nh o3 oh l3 c3 lh ch (x 3) (hiI x 3) _ i1 i2 (by omega) (by omega) _ hc2).mono ?_; rintro e w6 ⟨rfl, hb6⟩; have H6 : Hid (VarB w6 (w.heap.size + 1) (loI x 4) ∧ IntAt w6 n3 o3 l3 c3 (x 3) ∧ IntAt w6 nh oh lh ch (hiI x 3) ∧ Bx w6 (w.heap.size + 1 + 1) [.bool nh, .slice oh lh ch] ∧ Below w.heap.size w w6) := ⟨vl.later hb6, i1.later hb6, i2.later hb6, yh.later hb6 yh.lt, bnext bY hb6⟩; have f2 := (y5.later hb6 y5.lt).1 0 _ rfl; have f3 := (y5.later hb6 y5.lt).1 1 _ rfl; clear T2 _t vl i1 i2 yh y5 bY hb6 f0 f1 p0 p1 pf q0 q1; have q0 := H6.out.2.2.2.1.1 0 _ rfl; have q1 := H6.out.2.2.2.1.1 1 _ rfl; have qf := H6.out.2.2.2.1.2)
       | (go_at_call 93; have _t := (T1 : TokE 1); rw [← HUE.out]; (try simp only [← HR5.out]); refine (bcmp_any n3 nl o3 ol l3 c3 ll cl (x 3) (loI x 3) U (HJ.out.2.2.1.later HU.out.2.1) (HJ.out.1.later HU.out.2.1) (by omega) (by omega) _ hc1).mono ?_; rintro e w5 ⟨rfl, hb5⟩; have H5 : Hid (Below U.heap.size U w5 ∧ Bx w5 r5 [.bool n3, .slice o3 l3 c3] ∧ Bx w5 (w.heap.size + 1) [.bool nl, .slice ol ll cl] ∧ Bx w5 (w.heap.size + 1 + 1) [.bool nh, .slice oh lh ch]) := ⟨hb5, HU.out.1.later hb5 HU.out.1.lt, HU.out.2.2.1.later hb5 HU.out.2.2.1.lt, HU.out.2.2.2.later hb5 HU.out.2.2.2.lt⟩; clear hb5 T1 _t p0 p1 plt; have T2 : TokE 2 := trivial; have f0 := H5.out.2.1.1 0 _ rfl; have f1 := H5.out.2.1.1 1 _ rfl; have p0 := H5.out.2.2.1.1 0 _ rfl; have p1 := H5.out.2.2.1.1 1 _ rfl; have pf := H5.out.2.2.1.2; have q0 := H5.out.2.2.2.1 0 _ rfl; have q1 := H5.out.2.2.2.1 1 _ rfl))
      go_roundw
      case rel => exact ⟨4, by omega, by go_num, H6.out.1.other ⟨_, _, _, _, H6.out.2.2.2.1, H6.out.2.2.1⟩ (by omega), by rw [HV2.out]; exact VarB.put ⟨_, _, _, _, H6.out.2.2.2.1, H6.out.2.2.1⟩ H6.out.2.1, below_store H6.out.2.2.2.2 (by omega) _ _, by rw [HV1.out]; exact HJ.out.2.2.2.2.1, by rw [HV2.out]; exact HJ.out.2.2.2.2.2.2⟩
      case measure => simp [intOf]
     ·
      obtain ⟨d2, hc2, hn2⟩ := cmpI_leN (show x 3 ≤ hiI x 3 by omega)
      have HV2 : Hid (hiI x 4 = hiI x 3) := if_neg hb2
      clear hb2
      go_wp2_with (first
       | (go_at_call 93; have _t := (T2 : TokE 2); obtain ⟨Y, hY⟩ : ∃ Y, Y = w5 := ⟨_, rfl⟩; have vl : VarB Y (w.heap.size + 1) (loI x 4) := (by rw [hY, HV1.out]; exact ⟨_, _, _, _, H5.out.2.2.1, HJ.out.1.later (bnext HU.out.2.1 H5.out.1)⟩); have i1 : IntAt Y n3 o3 l3 c3 (x 3) := (by rw [hY]; exact HJ.out.2.2.1.later (bnext HU.out.2.1 H5.out.1)); have i2 : IntAt Y nh oh lh ch (hiI x 3) := (by rw [hY]; exact HJ.out.2.1.later (bnext HU.out.2.1 H5.out.1)); have yh : Bx Y (w.heap.size + 1 + 1) [.bool nh, .slice oh lh ch] := (by rw [hY]; exact H5.out.2.2.2); have y5 : Bx Y r5 [.bool n3, .slice o3 l3 c3] := (by rw [hY]; exact H5.out.2.1); have bY : Below w.heap.size w Y := (by rw [hY]; exact bnext HJ.out.2.2.2.1 (bnext HU.out.2.1 H5.out.1)); subst hY; refine (bcmp_any n3 nh o3 oh l3 c3 lh ch (x 3) (hiI x 3) _ i1 i2 (by omega) (by omega) _ hc2).mono ?_; rintro e w6 ⟨rfl, hb6⟩; have H6 : Hid (VarB w6 (w.heap.size + 1) (loI x 4) ∧ IntAt w6 n3 o3 l3 c3 (x 3) ∧ IntAt w6 nh oh lh ch (hiI x 3) ∧ Bx w6 (w.heap.size + 1 + 1) [.bool nh, .slice oh lh ch] ∧ Below w.heap.size w w6) := ⟨vl.later hb6, i1.later hb6, i2.later hb6, yh.later hb6 yh.lt, bnext bY hb6⟩; have f2 := (y5.later hb6 y5.lt).1 0 _ rfl; have f3 := (y5.later hb6 y5.lt).1 1 _ rfl; clear T2 _t vl i1 i2 yh y5 bY hb6 f0 f1 p0 p1 pf q0 q1; have q0 := H6.out.2.2.2.1.1 0 _ rfl; have q1 := H6.out.2.2.2.1.1 1 _ rfl; have qf := H6.out.2.2.2.1.2)
       | (go_at_call 93; have _t := (T1 : TokE 1); rw [← HUE.out]; (try simp only [← HR5.out]); refine (bcmp_any n3 nl o3 ol l3 c3 ll cl (x 3) (loI x 3) U (HJ.out.2.2.1.later HU.out.2.1) (HJ.out.1.later HU.out.2.1) (by omega) (by omega) _ hc1).mono ?_; rintro e w5 ⟨rfl, hb5⟩; have H5 : Hid (Below U.heap.size U w5 ∧ Bx w5 r5 [.bool n3, .slice o3 l3 c3] ∧ Bx w5 (w.heap.size + 1) [.bool nl, .slice ol ll cl] ∧ Bx w5 (w.heap.size + 1 + 1) [.bool nh, .slice oh lh ch]) := ⟨hb5, HU.out.1.later hb5 HU.out.1.lt, HU.out.2.2.1.later hb5 HU.out.2.2.1.lt, HU.out.2.2.2.later hb5 HU.out.2.2.2.lt⟩; clear hb5 T1 _t p0 p1 plt; have T2 : TokE 2 := trivial; have f0 := H5.out.2.1.1 0 _ rfl; have f1 := H5.out.2.1.1 1 _ rfl; have p0 := H5.out.2.2.1.1 0 _ rfl; have p1 := H5.out.2.2.1.1 1 _ rfl; have pf := H5.out.2.2.1.2; have q0 := H5.out.2.2.2.1 0 _ rfl; have q1 := H5.out.2.2.2.1 1 _ rfl))
      go_roundw
      case rel => exact ⟨4, by omega, by go_num, H6.out.1, by rw [HV2.out]; exact ⟨_, _, _, _, H6.out.2.2.2.1, H6.out.2.2.1⟩, H6.out.2.2.2.2, by rw [HV1.out]; exact HJ.out.2.2.2.2.1, by rw [HV2.out]; exact HJ.out.2.2.2.2.2.1⟩
      case measure => simp [intOf]
end Go.Proofs.YthjkdnlbdhhmbaaGreatDoor
