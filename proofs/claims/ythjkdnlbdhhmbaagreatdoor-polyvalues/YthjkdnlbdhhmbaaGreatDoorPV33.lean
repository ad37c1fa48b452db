/-
  A pack of walks and facts: QB, QC, TN.
-/
import Derived.Test.YthjkdnlbdhhmbaaGreatDoorPV32
set_option maxRecDepth 100000
set_option maxHeartbeats 40000000
set_option linter.unusedVariables false
set_option linter.unusedSimpArgs false
namespace Go.Proofs.YthjkdnlbdhhmbaaGreatDoor
open Go.RowKit
theorem eq_mk {x : Rat} {n d : Int} (hd : 0 < d) (k : Nat) (h : x * (d : Rat) ^ k = (n : Rat)) : x = mkRat n (d.natAbs ^ k) := by
 have e := mk_over n hd k
 have h5 : x * (d : Rat) ^ k = mkRat n (d.natAbs ^ k) * (d : Rat) ^ k := h.trans e.symm
 have h6 := congrArg (· * ((d : Rat) ^ k)⁻¹) h5
 simp only [Rat.mul_assoc, Rat.mul_inv_cancel _ (Rat.ne_of_gt (pow_posQ hd k)), Rat.mul_one] at h6
 exact h6
theorem loK_mk {x : Nat → Rat} {n : Nat → Int} {d : Int} (hd : 0 < d) (k : Nat) (h : ∀ i, i < 4 → x i * (d : Rat) ^ k = (n i : Rat)) : loK x 4 * (d : Rat) ^ k = ((loI n 4 : Int) : Rat) := by
 have hp := pow_posQ hd k
 obtain ⟨i, hi, ei⟩ := loI_mem (x := n) 4 (by omega)
 have h1 : loK x 4 ≤ mkRat (loI n 4) (d.natAbs ^ k) := by
  rw [ei, ← eq_mk hd k (h i hi)]
  exact loK_le 4 i hi
 have h2 : mkRat (loI n 4) (d.natAbs ^ k) ≤ loK x 4 := le_loK (fun j hj => by
  rw [eq_mk hd k (h j hj)]
  refine le_of_mul hp ?_
  rw [mk_over _ hd, mk_over _ hd]
  exact cast_leQ.2 (loI_le 4 j hj)) 4 (by omega)
 rw [Rat.le_antisymm h1 h2, mk_over _ hd]
theorem hiK_mk {x : Nat → Rat} {n : Nat → Int} {d : Int} (hd : 0 < d) (k : Nat) (h : ∀ i, i < 4 → x i * (d : Rat) ^ k = (n i : Rat)) : hiK x 4 * (d : Rat) ^ k = ((hiI n 4 : Int) : Rat) := by
 have hp := pow_posQ hd k
 obtain ⟨i, hi, ei⟩ := hiI_mem (x := n) 4 (by omega)
 have h1 : mkRat (hiI n 4) (d.natAbs ^ k) ≤ hiK x 4 := by
  rw [ei, ← eq_mk hd k (h i hi)]
  exact le_hiK 4 i hi
 have h2 : hiK x 4 ≤ mkRat (hiI n 4) (d.natAbs ^ k) := hiK_le (fun j hj => by
  rw [eq_mk hd k (h j hj)]
  refine le_of_mul hp ?_
  rw [mk_over _ hd, mk_over _ hd]
  exact cast_leQ.2 (le_hiI 4 j hj)) 4 (by omega)
 rw [Rat.le_antisymm h2 h1, mk_over _ hd]
theorem v_nil (a b : Rat) : vLo [] a b = ((0 : Int) : Rat) ∧ vHi [] a b = ((0 : Int) : Rat) := by
 have hd := sDn_pos a b
 refine ⟨(eq_mk hd 0 ?_).symm, (eq_mk hd 0 ?_).symm⟩
 ·
  rw [Rat.pow_zero, Rat.mul_one]; rfl
 ·
  rw [Rat.pow_zero, Rat.mul_one]; rfl
theorem loI_zero {lo hi : Int} : loI (exts 0 0 lo hi) 4 = 0 ∧ hiI (exts 0 0 lo hi) 4 = 0 := by
 obtain ⟨i, hi1, e1⟩ := loI_mem (x := exts 0 0 lo hi) 4 (by omega)
 obtain ⟨j, hj1, e2⟩ := hiI_mem (x := exts 0 0 lo hi) 4 (by omega)
 have h : ∀ i, i < 4 → exts 0 0 lo hi i = 0 := fun i hi9 => by
  match i, hi9 with
  | 0, _ => show 0 * lo = 0; rw [Int.zero_mul]
  | 1, _ => show 0 * hi = 0; rw [Int.zero_mul]
  | 2, _ => show 0 * lo = 0; rw [Int.zero_mul]
  | 3, _ => show 0 * hi = 0; rw [Int.zero_mul]
 exact ⟨e1.trans (h i hi1), e2.trans (h j hj1)⟩
theorem v_one (c : Int) (a b : Rat) : vLo [c] a b = (c : Rat) ∧ vHi [c] a b = (c : Rat) := by
 have hd := sDn_pos a b
 have h1 : (spanI [c] (sLo a b) (sHi a b) (sDn a b)).1 = c := by
  show loI (exts 0 0 (sLo a b) (sHi a b)) 4 + c * sDn a b ^ 0 = c
  rw [loI_zero.1, Int.pow_zero]; omega
 have h2 : (spanI [c] (sLo a b) (sHi a b) (sDn a b)).2 = c := by
  show hiI (exts 0 0 (sLo a b) (sHi a b)) 4 + c * sDn a b ^ 0 = c
  rw [loI_zero.2, Int.pow_zero]; omega
 refine ⟨(eq_mk hd 0 ?_).symm, (eq_mk hd 0 ?_).symm⟩
 ·
  rw [Rat.pow_zero, Rat.mul_one, h1]
 ·
  rw [Rat.pow_zero, Rat.mul_one, h2]
theorem prods_over {a b : Rat} (l : List Int) (hl : 0 < l.length) : ∀ i, i < 4 → prods (vLo l a b) (vHi l a b) a b i * (sDn a b : Rat) ^ l.length = (exts (spanI l (sLo a b) (sHi a b) (sDn a b)).1 (spanI l (sLo a b) (sHi a b) (sDn a b)).2 (sLo a b) (sHi a b) i : Rat) := by
 have hd := sDn_pos a b
 have e : (sDn a b : Rat) ^ l.length = (sDn a b : Rat) ^ (l.length - 1) * (sDn a b : Rat) := by
  rw [← Rat.pow_succ]; congr 1; omega
 have key : ∀ (n m : Int) (x y : Rat), x * (sDn a b : Rat) ^ (l.length - 1) = (n : Rat) → y * (sDn a b : Rat) = (m : Rat) → x * y * (sDn a b : Rat) ^ l.length = ((n * m : Int) : Rat) := fun n m x y h1 h2 => by
  rw [e, Rat.intCast_mul, ← h1, ← h2]
  grind
 have hL := mk_over (spanI l (sLo a b) (sHi a b) (sDn a b)).1 hd (l.length - 1)
 have hH := mk_over (spanI l (sLo a b) (sHi a b) (sDn a b)).2 hd (l.length - 1)
 have ha := lo_over a b
 have hb := hi_over a b
 intro i hi
 match i, hi with
 | 0, _ => exact key _ _ _ _ hL ha
 | 1, _ => exact key _ _ _ _ hL hb
 | 2, _ => exact key _ _ _ _ hH ha
 | 3, _ => exact key _ _ _ _ hH hb
theorem v_step (c : Int) (l : List Int) (a b : Rat) (hl : 0 < l.length) : loK (prods (vLo l a b) (vHi l a b) a b) 4 + (c : Rat) = vLo (c :: l) a b ∧ hiK (prods (vLo l a b) (vHi l a b) a b) 4 + (c : Rat) = vHi (c :: l) a b := by
 have hd := sDn_pos a b
 have hp := prods_over (a := a) (b := b) l hl
 refine ⟨eq_mk hd l.length ?_, eq_mk hd l.length ?_⟩
 ·
  rw [Rat.add_mul, loK_mk hd l.length hp]
  show _ = ((loI _ 4 + c * sDn a b ^ l.length : Int) : Rat)
  rw [Rat.intCast_add, Rat.intCast_mul, Rat.intCast_pow]
 ·
  rw [Rat.add_mul, hiK_mk hd l.length hp]
  show _ = ((hiI _ 4 + c * sDn a b ^ l.length : Int) : Rat)
  rw [Rat.intCast_add, Rat.intCast_mul, Rat.intCast_pow]
theorem v_drop (p : List Int) (a b : Rat) (j : Nat) (h : j + 1 < p.length) : loK (prods (vLo (p.drop (j + 1)) a b) (vHi (p.drop (j + 1)) a b) a b) 4 + ((dig p j : Int) : Rat) = vLo (p.drop j) a b ∧ hiK (prods (vLo (p.drop (j + 1)) a b) (vHi (p.drop (j + 1)) a b) a b) 4 + ((dig p j : Int) : Rat) = vHi (p.drop j) a b := by
 have h1 := v_step p[j] (p.drop (j + 1)) a b (by rw [List.length_drop]; omega)
 rw [dig_getE (show j < p.length by omega), List.drop_eq_getElem_cons (show j < p.length by omega)]
 exact h1
def sbK : Nat → Nat
 | 0 => 0
 | k + 1 => sbK k + 4 * k + 9
theorem sbK_mono : ∀ {j k : Nat}, j ≤ k → sbK j ≤ sbK k := fun {j k} h => by
 induction h with
 | refl => exact Nat.le_refl _
 | step _ ih => exact Nat.le_trans ih (by show _ ≤ sbK _ + 4 * _ + 9; omega)
theorem spanI_lim2 (lo hi d : Int) (hlo : lim lo ≤ 4) (hhi : lim hi ≤ 4) (hd : lim d ≤ 4) : ∀ l : List Int, Lim 3 l → lim (spanI l lo hi d).1 ≤ sbK l.length ∧ lim (spanI l lo hi d).2 ≤ sbK l.length := by
 intro l
 induction l with
 | nil => intro _; exact ⟨by show lim 0 ≤ _; rw [lim_zero]; omega, by show lim 0 ≤ _; rw [lim_zero]; omega⟩
 | cons c l ih =>
  intro hA
  have h1 := ih (fun t => by have := hA (t + 1); rw [dig_cons] at this; exact this)
  have h2 : lim c ≤ 3 := by have := hA 0; simpa [dig] using this
  have h4 := lim_mul c (d ^ l.length)
  have h5 := lim_pow4 d l.length hd
  have he := exts_lim h1.1 h1.2 hlo hhi
  obtain ⟨i, hi1, e1⟩ := loI_mem (x := exts (spanI l lo hi d).1 (spanI l lo hi d).2 lo hi) 4 (by omega)
  obtain ⟨j, hj1, e2⟩ := hiI_mem (x := exts (spanI l lo hi d).1 (spanI l lo hi d).2 lo hi) 4 (by omega)
  have h6 := lim_add (loI (exts (spanI l lo hi d).1 (spanI l lo hi d).2 lo hi) 4) (c * d ^ l.length)
  have h7 := lim_add (hiI (exts (spanI l lo hi d).1 (spanI l lo hi d).2 lo hi) 4) (c * d ^ l.length)
  have h8 := he i hi1
  have h9 := he j hj1
  rw [← e1] at h8
  rw [← e2] at h9
  rw [List.length_cons]
  have e9 : sbK (l.length + 1) = sbK l.length + 4 * l.length + 9 := rfl
  rw [e9]
  exact ⟨by show lim (loI _ 4 + c * d ^ l.length) ≤ _; omega, by show lim (hiI _ 4 + c * d ^ l.length) ≤ _; omega⟩
theorem v_sz2 {p : List Int} {a b : Rat} (ha : Sz a 2) (hb : Sz b 2) (hp : Lim 3 p) (hl : p.length ≤ 11) (k : Nat) : Sz (vLo (p.drop k) a b) 400 ∧ Sz (vHi (p.drop k) a b) 400 := by
 obtain ⟨h1, h2, h3⟩ := s_lims ha hb
 have hd := sDn_pos a b
 have hlk : (p.drop k).length ≤ 11 := by rw [List.length_drop]; omega
 have h4 := spanI_lim2 (sLo a b) (sHi a b) (sDn a b) h1 h2 h3 (p.drop k) (drop_lim hp)
 have h5 : sbK (p.drop k).length ≤ sbK 11 := sbK_mono hlk
 have h55 : sbK 11 = 319 := by decide
 have h6 := lim_pow4 (sDn a b) ((p.drop k).length - 1) h3
 have h7 : (mag ((sDn a b).natAbs ^ ((p.drop k).length - 1))).length ≤ 400 := by
  have e : lim (sDn a b ^ ((p.drop k).length - 1)) = (mag ((sDn a b).natAbs ^ ((p.drop k).length - 1))).length := by unfold lim; rw [Int.natAbs_pow]
  omega
 have h8 : (sDn a b).natAbs ^ ((p.drop k).length - 1) ≠ 0 := Nat.ne_of_gt (Nat.pow_pos (by omega))
 exact ⟨mk_sz h8 (by omega) h7, mk_sz h8 (by omega) h7⟩
theorem Vars.put6 {w W : World} {L : List (Nat × List Value)} (h : Vars w W L) (k : Nat) {r : Nat} {x0 x1 x2 x3 x4 x5 : Value} (hk : L[k]? = some (r, [x0, x1, x2, x3, x4, x5])) (u0 u1 u2 u3 u4 u5 : Value) : Vars w ((((((W.setCell ⟨r, 0, none⟩ u0).setCell ⟨r, 1, none⟩ u1).setCell ⟨r, 2, none⟩ u2).setCell ⟨r, 3, none⟩ u3).setCell ⟨r, 4, none⟩ u4).setCell ⟨r, 5, none⟩ u5) (L.set k (r, [u0, u1, u2, u3, u4, u5])) := by
 have hlk : k < L.length := (List.getElem?_eq_some_iff.1 hk).1
 have h1 := h.set k 0 hk rfl u0
 have h2 := h1.set k 1 (r := r) (vs := [u0, x1, x2, x3, x4, x5]) (x := x1) (by rw [List.getElem?_set_self hlk]; rfl) rfl u1
 have h3 := h2.set k 2 (r := r) (vs := [u0, u1, x2, x3, x4, x5]) (x := x2) (by rw [List.getElem?_set_self (by simpa using hlk)]; rfl) rfl u2
 have h4 := h3.set k 3 (r := r) (vs := [u0, u1, u2, x3, x4, x5]) (x := x3) (by rw [List.getElem?_set_self (by simpa using hlk)]; rfl) rfl u3
 have h5 := h4.set k 4 (r := r) (vs := [u0, u1, u2, u3, x4, x5]) (x := x4) (by rw [List.getElem?_set_self (by simpa using hlk)]; rfl) rfl u4
 have h6 := h5.set k 5 (r := r) (vs := [u0, u1, u2, u3, u4, x5]) (x := x5) (by rw [List.getElem?_set_self (by simpa using hlk)]; rfl) rfl u5
 rw [List.set_set, List.set_set, List.set_set, List.set_set, List.set_set] at h6
 exact h6
theorem drop_last_one {p : List Int} (h : 0 < p.length) : p.drop (p.length - 1) = [dig p (p.length - 1)] := by
 rw [List.drop_eq_getElem_cons (show p.length - 1 < p.length by omega), dig_getE (show p.length - 1 < p.length by omega), List.drop_of_length_le (by omega)]
theorem pevspan_any (ao : Option Addr) (len cap : Nat) (p : List Int) (n1 n2 : Bool) (o1 p1 o2 p2 : Option Addr) (l1 c1 m1 k1 l2 c2 m2 k2 : Nat) (a b : Rat) (w : World) (hp : PolyAt w ao len cap p) (hx : RatAt w n1 o1 l1 c1 p1 m1 k1 a) (hy : RatAt w n2 o2 l2 c2 p2 m2 k2 b) (ha : Sz a 2) (hb : Sz b 2) (hl : len ≤ 11) (hlp : Lim 3 p) :
  Calls Tryz.prog 15 #[.slice ao len cap, .agg #[.bool n1, .slice o1 l1 c1, .slice p1 m1 k1, .bool n2, .slice o2 l2 c2, .slice p2 m2 k2]] w fun e w' => SpW w w' e (vLo p a b) (vHi p a b) := by
 have HR : Hid (PolyAt w ao len cap p ∧ RatAt w n1 o1 l1 c1 p1 m1 k1 a ∧ RatAt w n2 o2 l2 c2 p2 m2 k2 b ∧ Sz a 2 ∧ Sz b 2 ∧ len = p.length ∧ Lim 3 p ∧ len ≤ 11) := ⟨hp, hx, hy, ha, hb, hp.hlen, hlp, hl⟩
 have HSZ : Hid (∀ k, Sz (vLo (p.drop k) a b) 400 ∧ Sz (vHi (p.drop k) a b) 400) := fun k => v_sz2 ha hb hlp (by have := hp.hlen; omega) k
 obtain ⟨W, hW⟩ : ∃ W, W = (w.alloc (.cells #[.bool n1, .slice o1 l1 c1, .slice p1 m1 k1, .bool n2, .slice o2 l2 c2, .slice p2 m2 k2] 32)).alloc (.cells #[.bool false, .slice none 0 0, .slice none 0 0, .bool false, .slice none 0 0, .slice none 0 0] 32) := ⟨_, rfl⟩
 have HWE : Hid (W = (w.alloc (.cells #[.bool n1, .slice o1 l1 c1, .slice p1 m1 k1, .bool n2, .slice o2 l2 c2, .slice p2 m2 k2] 32)).alloc (.cells #[.bool false, .slice none 0 0, .slice none 0 0, .bool false, .slice none 0 0, .slice none 0 0] 32)) := hW
 have HV0 : Hid (Vars w W [(w.heap.size + 1, [.bool false, .slice none 0 0, .slice none 0 0, .bool false, .slice none 0 0, .slice none 0 0]), (w.heap.size, [.bool n1, .slice o1 l1 c1, .slice p1 m1 k1, .bool n2, .slice o2 l2 c2, .slice p2 m2 k2])]) := by
  rw [hW]
  exact ((Vars.nil w).alloc rfl [.bool n1, .slice o1 l1 c1, .slice p1 m1 k1, .bool n2, .slice o2 l2 c2, .slice p2 m2 k2] _).alloc (by simp) [.bool false, .slice none 0 0, .slice none 0 0, .bool false, .slice none 0 0, .slice none 0 0] _
 clear hW hp hx hy ha hb hlp
 by_cases h0 : len = 0
 ·
  subst h0
  have HE0 : Hid (p = []) := List.eq_nil_of_length_eq_zero HR.out.2.2.2.2.2.1.symm
  clear hl
  go_enter Tryz.func15, Tryz.ntmps15
  go_wp2_with (first
   | (go_at_call 34; rw [← HWE.out]; refine (qint_any 0 W (by decide) (by decide)).mono ?_; rintro e w1 ⟨nx, ox, lx, cx, px, mx, kx, rfl, h1, hb1⟩; have H1 : Hid (Vars w w1 [(w.heap.size + 1, [.bool false, .slice none 0 0, .slice none 0 0, .bool false, .slice none 0 0, .slice none 0 0]), (w.heap.size, [.bool n1, .slice o1 l1 c1, .slice p1 m1 k1, .bool n2, .slice o2 l2 c2, .slice p2 m2 k2])] ∧ RatAt w1 nx ox lx cx px mx kx ((0 : Int) : Rat)) := ⟨HV0.out.later hb1, h1⟩; clear h1 hb1)
   | (go_at_call 38; refine (pof_any nx ox px lx cx mx kx ((0 : Int) : Rat) _ H1.out.2).mono ?_; rintro e w2 ⟨n5, o5, l5, c5, p5, m5, k5, n6, o6, l6, c6, p6, m6, k6, rfl, h5, h6, hb⟩; have H2 : Hid (Vars w w2 [(w.heap.size + 1, [.bool false, .slice none 0 0, .slice none 0 0, .bool false, .slice none 0 0, .slice none 0 0]), (w.heap.size, [.bool n1, .slice o1 l1 c1, .slice p1 m1 k1, .bool n2, .slice o2 l2 c2, .slice p2 m2 k2])] ∧ RatAt w2 n5 o5 l5 c5 p5 m5 k5 ((0 : Int) : Rat) ∧ RatAt w2 n6 o6 l6 c6 p6 m6 k6 ((0 : Int) : Rat)) := ⟨H1.out.1.later hb, h5, h6⟩; clear h5 h6 hb; have y0 := H2.out.1.cell 0 0 rfl rfl; have y1 := H2.out.1.cell 0 1 rfl rfl; have y2 := H2.out.1.cell 0 2 rfl rfl; have y3 := H2.out.1.cell 0 3 rfl rfl; have y4 := H2.out.1.cell 0 4 rfl rfl; have y5 := H2.out.1.cell 0 5 rfl rfl; have yf := H2.out.1.soft 0 rfl))
  have e1 : vLo p a b = ((0 : Int) : Rat) ∧ vHi p a b = ((0 : Int) : Rat) := by rw [HE0.out]; exact v_nil a b
  rw [e1.1, e1.2]
  exact bodyPost_ret (v := .agg #[.bool n5, .slice o5 l5 c5, .slice p5 m5 k5, .bool n6, .slice o6 l6 c6, .slice p6 m6 k6]) (by simp [results, Tryz.results15, go_sem, y0, y1, y2, y3, y4, y5, yf]) rfl
   ⟨_, _, _, _, _, _, _, _, _, _, _, _, _, _, rfl, H2.out.2.1.setSix (H2.out.1.box 0 _ _ rfl).1 (fun u e => by cases e) (fun u e => by cases e) (fun u e => by cases e) (fun u e => by cases e) (fun u e => by cases e) (fun u e => by cases e) _ _ _ _ _ _, H2.out.2.2.setSix (H2.out.1.box 0 _ _ rfl).1 (fun u e => by cases e) (fun u e => by cases e) (fun u e => by cases e) (fun u e => by cases e) (fun u e => by cases e) (fun u e => by cases e) _ _ _ _ _ _, (H2.out.1.put6 0 rfl _ _ _ _ _ _).below⟩
 ·
  have hlp0 : 0 < len := Nat.pos_of_ne_zero h0
  have hb0 : ((len : Int) == 0) = false := by simp; omega
  have hle : ((len : Int) - 2) = ((len - 1 : Nat) : Int) - 1 := by omega
  have HE0 : Hid (p.drop (len - 1) = [dig p (len - 1)]) := by
   have := drop_last_one (p := p) (by rw [← HR.out.2.2.2.2.2.1]; exact hlp0)
   rw [← HR.out.2.2.2.2.2.1] at this
   exact this
  go_enter Tryz.func15, Tryz.ntmps15
  go_wp2_with (first
   | (go_at_call 39; rw [← HWE.out]; refine (plead_any ao len cap p W (HR.out.1.later HV0.out.below) (by have := HR.out.2.2.2.2.2.2.2; omega)).mono ?_; rintro e w1 ⟨n3, o3, l3, c3, rfl, h1, hb1⟩; have H1 : Hid (Vars w w1 [(w.heap.size + 1, [.bool false, .slice none 0 0, .slice none 0 0, .bool false, .slice none 0 0, .slice none 0 0]), (w.heap.size, [.bool n1, .slice o1 l1 c1, .slice p1 m1 k1, .bool n2, .slice o2 l2 c2, .slice p2 m2 k2])] ∧ IntAt w1 n3 o3 l3 c3 (dig p (len - 1))) := ⟨HV0.out.later hb1, h1⟩; clear h1 hb1)
   | (go_at_call 37; refine (qfrom_any n3 o3 l3 c3 (mag (dig p (len - 1)).natAbs) _ H1.out.2.row).mono ?_; rintro e w2 ⟨bo, lb, cb, rfl, _, hq, hb⟩; have H2 : Hid (Vars w w2 [(w.heap.size + 1, [.bool false, .slice none 0 0, .slice none 0 0, .bool false, .slice none 0 0, .slice none 0 0]), (w.heap.size, [.bool n1, .slice o1 l1 c1, .slice p1 m1 k1, .bool n2, .slice o2 l2 c2, .slice p2 m2 k2])] ∧ RatAt w2 n3 o3 l3 c3 bo lb cb ((dig p (len - 1) : Int) : Rat)) := ⟨H1.out.1.later hb, from_rat (H1.out.2.later hb) hq.row⟩; clear hq hb)
   | (go_at_call 38; refine (pof_any n3 o3 bo l3 c3 lb cb ((dig p (len - 1) : Int) : Rat) _ H2.out.2).mono ?_; rintro e w3 ⟨nx, ox, lx, cx, px, mx, kx, ny, oy, ly, cy, py, my, ky, rfl, h5, h6, hb⟩; have H3 : Hid (Vars w w3 [(w.heap.size + 1, [.bool false, .slice none 0 0, .slice none 0 0, .bool false, .slice none 0 0, .slice none 0 0]), (w.heap.size, [.bool n1, .slice o1 l1 c1, .slice p1 m1 k1, .bool n2, .slice o2 l2 c2, .slice p2 m2 k2])] ∧ RatAt w3 nx ox lx cx px mx kx ((dig p (len - 1) : Int) : Rat) ∧ RatAt w3 ny oy ly cy py my ky ((dig p (len - 1) : Int) : Rat)) := ⟨H2.out.1.later hb, h5, h6⟩; clear h5 h6 hb))
  obtain ⟨V, hV⟩ : ∃ V, V = w3.alloc (.cells #[.bool nx, .slice ox lx cx, .slice px mx kx, .bool ny, .slice oy ly cy, .slice py my ky] 32) := ⟨_, rfl⟩
  obtain ⟨r5, hr5⟩ : ∃ r5, r5 = w3.heap.size := ⟨_, rfl⟩
  have HV : Hid (Vars w V [(r5, [.bool nx, .slice ox lx cx, .slice px mx kx, .bool ny, .slice oy ly cy, .slice py my ky]), (w.heap.size + 1, [.bool false, .slice none 0 0, .slice none 0 0, .bool false, .slice none 0 0, .slice none 0 0]), (w.heap.size, [.bool n1, .slice o1 l1 c1, .slice p1 m1 k1, .bool n2, .slice o2 l2 c2, .slice p2 m2 k2])] ∧ RatAt V nx ox lx cx px mx kx (vLo (p.drop (len - 1)) a b) ∧ RatAt V ny oy ly cy py my ky (vHi (p.drop (len - 1)) a b)) := by
   rw [hV, HE0.out, (v_one _ a b).1, (v_one _ a b).2]
   exact ⟨H3.out.1.alloc hr5 [.bool nx, .slice ox lx cx, .slice px mx kx, .bool ny, .slice oy ly cy, .slice py my ky] _, H3.out.2.1.later ((Below.refl _ _).alloc (Nat.le_refl _) _), H3.out.2.2.later ((Below.refl _ _).alloc (Nat.le_refl _) _)⟩
  rw [← hV]
  (try simp only [← hr5])
  clear hV hr5 H1 H2 H3 HWE HV0 HE0
  go_loopw [6] (fun i wr => ∃ k : Nat, k < len ∧ i = .int .i64 ((k : Int) - 1) ∧ ∃ nx ox lx cx px mx kx ny oy ly cy py my ky, Hid (Vars w wr [(r5, [.bool nx, .slice ox lx cx, .slice px mx kx, .bool ny, .slice oy ly cy, .slice py my ky]), (w.heap.size + 1, [.bool false, .slice none 0 0, .slice none 0 0, .bool false, .slice none 0 0, .slice none 0 0]), (w.heap.size, [.bool n1, .slice o1 l1 c1, .slice p1 m1 k1, .bool n2, .slice o2 l2 c2, .slice p2 m2 k2])] ∧ RatAt wr nx ox lx cx px mx kx (vLo (p.drop k) a b) ∧ RatAt wr ny oy ly cy py my ky (vHi (p.drop k) a b))) (fun i _ => (intOf i + 1).toNat)
  case atStart => exact ⟨len - 1, by omega, by go_num, nx, ox, lx, cx, px, mx, kx, ny, oy, ly, cy, py, my, ky, HV⟩
  case round =>
   obtain ⟨k, hk, rfl, nx, ox, lx, cx, px, mx, kx, ny, oy, ly, cy, py, my, ky, HS⟩ := hrel
   by_cases hk0 : k = 0
   ·
    subst hk0
    have x0 := HS.out.1.cell 0 0 rfl rfl
    have x1 := HS.out.1.cell 0 1 rfl rfl
    have x2 := HS.out.1.cell 0 2 rfl rfl
    have x3 := HS.out.1.cell 0 3 rfl rfl
    have x4 := HS.out.1.cell 0 4 rfl rfl
    have x5 := HS.out.1.cell 0 5 rfl rfl
    have y0 := HS.out.1.cell 1 0 rfl rfl
    have y1 := HS.out.1.cell 1 1 rfl rfl
    have y2 := HS.out.1.cell 1 2 rfl rfl
    have y3 := HS.out.1.cell 1 3 rfl rfl
    have y4 := HS.out.1.cell 1 4 rfl rfl
    have y5 := HS.out.1.cell 1 5 rfl rfl
    have yf := HS.out.1.soft 1 rfl
    go_wp2
    have hX := HS.out.2.1.setSix (HS.out.1.box 1 _ _ rfl).1 (fun u e => by cases e) (fun u e => by cases e) (fun u e => by cases e) (fun u e => by cases e) (fun u e => by cases e) (fun u e => by cases e) (.bool nx) (.slice ox lx cx) (.slice px mx kx) (.bool ny) (.slice oy ly cy) (.slice py my ky)
    have hY := HS.out.2.2.setSix (HS.out.1.box 1 _ _ rfl).1 (fun u e => by cases e) (fun u e => by cases e) (fun u e => by cases e) (fun u e => by cases e) (fun u e => by cases e) (fun u e => by cases e) (.bool nx) (.slice ox lx cx) (.slice px mx kx) (.bool ny) (.slice oy ly cy) (.slice py my ky)
    rw [List.drop_zero] at hX hY
    exact bodyPost_ret (v := .agg #[.bool nx, .slice ox lx cx, .slice px mx kx, .bool ny, .slice oy ly cy, .slice py my ky]) (by simp [results, Tryz.results15, go_sem, y0, y1, y2, y3, y4, y5, yf]) rfl
     ⟨_, _, _, _, _, _, _, _, _, _, _, _, _, _, rfl, hX, hY, (HS.out.1.put6 1 rfl (.bool nx) (.slice ox lx cx) (.slice px mx kx) (.bool ny) (.slice oy ly cy) (.slice py my ky)).below⟩
   ·
    obtain ⟨j, rfl⟩ : ∃ j, k = j + 1 := ⟨k - 1, by omega⟩
    have hki : ((j + 1 : Nat) : Int) - 1 = (j : Int) := by omega
    rw [hki]
    have hjp : j + 1 < p.length := by rw [← HR.out.2.2.2.2.2.1]; exact hk
    obtain ⟨bb, off, n3, o3, l3, c3, rfl, f0, f1, hi3⟩ := HR.out.1.at (show j < len by omega)
    have HP : Hid (∀ w', Below w.heap.size w w' → w'.cell? ⟨bb, off + j * 2, none⟩ = some (.bool n3) ∧ w'.cell? ⟨bb, off + j * 2 + 1, none⟩ = some (.slice o3 l3 c3) ∧ IntAt w' n3 o3 l3 c3 (dig p j)) := fun w' hb => ⟨(hb.cell (p := ⟨bb, off + j * 2, none⟩) (cell_lt f0)).trans f0, (hb.cell (p := ⟨bb, off + j * 2 + 1, none⟩) (cell_lt f1)).trans f1, hi3.later hb⟩
    have HZ : Hid ((Sz (loK (prods (vLo (p.drop (j + 1)) a b) (vHi (p.drop (j + 1)) a b) a b) 4) 1000 ∧ Sz (hiK (prods (vLo (p.drop (j + 1)) a b) (vHi (p.drop (j + 1)) a b) a b) 4) 1000) ∧ Sz ((dig p j : Int) : Rat) 1000) := by
     refine ⟨loK_szn (n := 4) (by decide) (fun i hi => prods_sz4 (HSZ.out _).1 (HSZ.out _).2 (HR.out.2.2.2.1.mono (by decide)) (HR.out.2.2.2.2.1.mono (by decide)) i hi) 4 (by decide), ?_, ?_⟩
     ·
      exact Nat.le_trans (HR.out.2.2.2.2.2.2.1 j) (by decide)
     ·
      show (mag 1).length ≤ 1000; decide
    have HE : Hid ((loK (prods (vLo (p.drop (j + 1)) a b) (vHi (p.drop (j + 1)) a b) a b) 4) + ((dig p j : Int) : Rat) = vLo (p.drop j) a b ∧ (hiK (prods (vLo (p.drop (j + 1)) a b) (vHi (p.drop (j + 1)) a b) a b) 4) + ((dig p j : Int) : Rat) = vHi (p.drop j) a b) := v_drop p a b j hjp
    have HJ : Hid (j + 1 < len) := hk
    have z1 : (0 : Int) ≤ (j : Int) := by omega
    have z2 : (j : Int) < (len : Int) := by omega
    clear hi3 f0 f1 hk0 hki hjp hk hle hb0 h0
    go_wp2
    refine wp_region_noPanic ?_
    refine HeldT.start (S := fun w' => (w'.cell? ⟨r5, 0, none⟩ = some (.bool nx) ∧ w'.cell? ⟨r5, 1, none⟩ = some (.slice ox lx cx) ∧ w'.cell? ⟨r5, 2, none⟩ = some (.slice px mx kx) ∧ w'.cell? ⟨r5, 3, none⟩ = some (.bool ny) ∧ w'.cell? ⟨r5, 4, none⟩ = some (.slice oy ly cy) ∧ w'.cell? ⟨r5, 5, none⟩ = some (.slice py my ky) ∧ w'.cell? ⟨w.heap.size, 0, none⟩ = some (.bool n1) ∧ w'.cell? ⟨w.heap.size, 1, none⟩ = some (.slice o1 l1 c1) ∧ w'.cell? ⟨w.heap.size, 2, none⟩ = some (.slice p1 m1 k1) ∧ w'.cell? ⟨w.heap.size, 3, none⟩ = some (.bool n2) ∧ w'.cell? ⟨w.heap.size, 4, none⟩ = some (.slice o2 l2 c2) ∧ w'.cell? ⟨w.heap.size, 5, none⟩ = some (.slice p2 m2 k2) ∧ w'.cell? ⟨bb, off + j * 2, none⟩ = some (.bool n3) ∧ w'.cell? ⟨bb, off + j * 2 + 1, none⟩ = some (.slice o3 l3 c3))) [10] (by kernel_rfl) (by (try dsimp only); exact (show _ from ⟨(HS.out.1.later (Below.refl _ _).drew).cell 0 0 rfl rfl, (HS.out.1.later (Below.refl _ _).drew).cell 0 1 rfl rfl, (HS.out.1.later (Below.refl _ _).drew).cell 0 2 rfl rfl, (HS.out.1.later (Below.refl _ _).drew).cell 0 3 rfl rfl, (HS.out.1.later (Below.refl _ _).drew).cell 0 4 rfl rfl, (HS.out.1.later (Below.refl _ _).drew).cell 0 5 rfl rfl, (HS.out.1.later (Below.refl _ _).drew).cell 2 0 rfl rfl, (HS.out.1.later (Below.refl _ _).drew).cell 2 1 rfl rfl, (HS.out.1.later (Below.refl _ _).drew).cell 2 2 rfl rfl, (HS.out.1.later (Below.refl _ _).drew).cell 2 3 rfl rfl, (HS.out.1.later (Below.refl _ _).drew).cell 2 4 rfl rfl, (HS.out.1.later (Below.refl _ _).drew).cell 2 5 rfl rfl, (HP.out _ (HS.out.1.later (Below.refl _ _).drew).below).1, (HP.out _ (HS.out.1.later (Below.refl _ _).drew).below).2.1⟩)) (fun hHeld => ?_)
    refine HeldT.take (i := 0) (oi := Oper.mk (some 23) _ _ _ _ _) (v := ?_) rfl (by decide +kernel) (by decide +kernel) (by decide +kernel) (by decide +kernel) (fun _ _ _ h => h) (Or.inl ⟨by rfl, ?_⟩) (by assumption) ?_
    rotate_left
    ·
     (intro w hSw; (try dsimp only at hSw); go_simp <;> (try with_reducible rfl))
    (try simp only [Act.put, List.setIfInBounds_toArray, List.set_cons_zero, List.set_cons_succ])
    refine HeldT.take (i := 1) (oi := Oper.mk (some 24) _ _ _ _ _) (v := ?_) rfl (by decide +kernel) (by decide +kernel) (by decide +kernel) (by decide +kernel) (fun _ _ _ h => h) (Or.inl ⟨by rfl, ?_⟩) (by assumption) ?_
    rotate_left
    ·
     (intro w hSw; (try dsimp only at hSw); go_simp <;> (try with_reducible rfl))
    (try simp only [Act.put, List.setIfInBounds_toArray, List.set_cons_zero, List.set_cons_succ])
    refine HeldT.take (i := 3) (oi := Oper.mk (some 26) _ _ _ _ _) (v := ?_) rfl (by decide +kernel) (by decide +kernel) (by decide +kernel) (by decide +kernel) (fun _ _ _ h => h) (Or.inl ⟨by rfl, ?_⟩) (by assumption) ?_
    rotate_left
    ·
     (intro w hSw; (try dsimp only at hSw); go_simp <;> (try with_reducible rfl))
    (try simp only [Act.put, List.setIfInBounds_toArray, List.set_cons_zero, List.set_cons_succ])
    refine HeldT.take (i := 4) (oi := Oper.mk (some 27) _ _ _ _ _) (v := ?_) rfl (by decide +kernel) (by decide +kernel) (by decide +kernel) (by decide +kernel) (fun _ _ _ h => h) (Or.inl ⟨by rfl, ?_⟩) (by assumption) ?_
    rotate_left
    ·
     (intro w hSw; (try dsimp only at hSw); go_simp <;> (try with_reducible rfl))
    (try simp only [Act.put, List.setIfInBounds_toArray, List.set_cons_zero, List.set_cons_succ])
    refine HeldT.take (i := 5) (oi := Oper.mk (some 28) _ _ _ _ _) (v := ?_) rfl (by decide +kernel) (by decide +kernel) (by decide +kernel) (by decide +kernel) (fun _ _ _ h => h) (Or.inl ⟨by rfl, ?_⟩) (by assumption) ?_
    rotate_left
    ·
     (intro w hSw; (try dsimp only at hSw); go_simp <;> (try with_reducible rfl))
    (try simp only [Act.put, List.setIfInBounds_toArray, List.set_cons_zero, List.set_cons_succ])
    refine HeldT.take (i := 6) (oi := Oper.mk (some 29) _ _ _ _ _) (v := ?_) rfl (by decide +kernel) (by decide +kernel) (by decide +kernel) (by decide +kernel) (fun _ _ _ h => h) (Or.inl ⟨by rfl, ?_⟩) (by assumption) ?_
    rotate_left
    ·
     (intro w hSw; (try dsimp only at hSw); go_simp <;> (try with_reducible rfl))
    (try simp only [Act.put, List.setIfInBounds_toArray, List.set_cons_zero, List.set_cons_succ])
    refine HeldT.ready (rs := [2]) (by decide +kernel) (by simp) ?_
    refine AllT.cons (o := Oper.mk (some 25) _ _ _ _ _) rfl (fun K hK => ?_) AllT.nil
    go_simp
    (go_at_call 41; refine (ptimes_big nx ny n1 n2 ox px oy py o1 p1 o2 p2 lx cx mx kx ly cy my ky l1 c1 m1 k1 l2 c2 m2 k2 (vLo (p.drop (j + 1)) a b) (vHi (p.drop (j + 1)) a b) a b _ (HS.out.2.1.later (Below.refl _ _).drew) (HS.out.2.2.later (Below.refl _ _).drew) ((HR.out.2.1.later HS.out.1.below).later (Below.refl _ _).drew) ((HR.out.2.2.1.later HS.out.1.below).later (Below.refl _ _).drew) (HSZ.out _).1 (HSZ.out _).2 (HR.out.2.2.2.1.mono (by decide)) (HR.out.2.2.2.2.1.mono (by decide))).mono ?_; rintro e y1 ⟨n5, o5, l5, c5, p5, m5, k5, n6, o6, l6, c6, p6, m6, k6, rfl, h5, h6, hb⟩; have H1 : Hid (Vars w y1 [(r5, [.bool nx, .slice ox lx cx, .slice px mx kx, .bool ny, .slice oy ly cy, .slice py my ky]), (w.heap.size + 1, [.bool false, .slice none 0 0, .slice none 0 0, .bool false, .slice none 0 0, .slice none 0 0]), (w.heap.size, [.bool n1, .slice o1 l1 c1, .slice p1 m1 k1, .bool n2, .slice o2 l2 c2, .slice p2 m2 k2])] ∧ RatAt y1 n5 o5 l5 c5 p5 m5 k5 (loK (prods (vLo (p.drop (j + 1)) a b) (vHi (p.drop (j + 1)) a b) a b) 4) ∧ RatAt y1 n6 o6 l6 c6 p6 m6 k6 (hiK (prods (vLo (p.drop (j + 1)) a b) (vHi (p.drop (j + 1)) a b) a b) 4)) := ⟨(HS.out.1.later (Below.refl _ _).drew).later hb, h5, h6⟩; clear h5 h6 hb)
    (try go_wp2_with fail)
    clear hHeld
    refine hK.out _ _ (by (try dsimp only); exact ⟨(H1.out.1).cell 0 0 rfl rfl, (H1.out.1).cell 0 1 rfl rfl, (H1.out.1).cell 0 2 rfl rfl, (H1.out.1).cell 0 3 rfl rfl, (H1.out.1).cell 0 4 rfl rfl, (H1.out.1).cell 0 5 rfl rfl, (H1.out.1).cell 2 0 rfl rfl, (H1.out.1).cell 2 1 rfl rfl, (H1.out.1).cell 2 2 rfl rfl, (H1.out.1).cell 2 3 rfl rfl, (H1.out.1).cell 2 4 rfl rfl, (H1.out.1).cell 2 5 rfl rfl, (HP.out _ (H1.out.1).below).1, (HP.out _ (H1.out.1).below).2.1⟩) (fun hHeld => ?_)
    clear hK K
    (try simp only [Act.put, List.setIfInBounds_toArray, List.set_cons_zero, List.set_cons_succ])
    refine HeldT.ready (rs := [7]) (by decide +kernel) (by simp) ?_
    refine AllT.cons (o := Oper.mk (some 30) _ _ _ _ _) rfl (fun K hK => ?_) AllT.nil
    go_simp
    (go_at_call 37; refine (qfrom_any n3 o3 l3 c3 (mag (dig p j).natAbs) _ (HP.out _ H1.out.1.below).2.2.row).mono ?_; rintro e y2 ⟨bo, lb, cb, rfl, _, hq, hb⟩; have H2 : Hid (Vars w y2 [(r5, [.bool nx, .slice ox lx cx, .slice px mx kx, .bool ny, .slice oy ly cy, .slice py my ky]), (w.heap.size + 1, [.bool false, .slice none 0 0, .slice none 0 0, .bool false, .slice none 0 0, .slice none 0 0]), (w.heap.size, [.bool n1, .slice o1 l1 c1, .slice p1 m1 k1, .bool n2, .slice o2 l2 c2, .slice p2 m2 k2])] ∧ (RatAt y2 n5 o5 l5 c5 p5 m5 k5 (loK (prods (vLo (p.drop (j + 1)) a b) (vHi (p.drop (j + 1)) a b) a b) 4) ∧ RatAt y2 n6 o6 l6 c6 p6 m6 k6 (hiK (prods (vLo (p.drop (j + 1)) a b) (vHi (p.drop (j + 1)) a b) a b) 4)) ∧ RatAt y2 n3 o3 l3 c3 bo lb cb ((dig p j : Int) : Rat)) := ⟨H1.out.1.later hb, ⟨H1.out.2.1.later hb, H1.out.2.2.later hb⟩, from_rat ((HP.out _ H1.out.1.below).2.2.later hb) hq.row⟩; clear hq hb)
    (try go_wp2_with fail)
    clear hHeld
    refine hK.out _ _ (by (try dsimp only); exact ⟨(H2.out.1).cell 0 0 rfl rfl, (H2.out.1).cell 0 1 rfl rfl, (H2.out.1).cell 0 2 rfl rfl, (H2.out.1).cell 0 3 rfl rfl, (H2.out.1).cell 0 4 rfl rfl, (H2.out.1).cell 0 5 rfl rfl, (H2.out.1).cell 2 0 rfl rfl, (H2.out.1).cell 2 1 rfl rfl, (H2.out.1).cell 2 2 rfl rfl, (H2.out.1).cell 2 3 rfl rfl, (H2.out.1).cell 2 4 rfl rfl, (H2.out.1).cell 2 5 rfl rfl, (HP.out _ (H2.out.1).below).1, (HP.out _ (H2.out.1).below).2.1⟩) (fun hHeld => ?_)
    clear hK K
    (try simp only [Act.put, List.setIfInBounds_toArray, List.set_cons_zero, List.set_cons_succ])
    refine HeldT.ready (rs := [8]) (by decide +kernel) (by simp) ?_
    refine AllT.cons (o := Oper.mk (some 31) _ _ _ _ _) rfl (fun K hK => ?_) AllT.nil
    go_simp
    (go_at_call 38; refine (pof_any n3 o3 bo l3 c3 lb cb ((dig p j : Int) : Rat) _ H2.out.2.2).mono ?_; rintro e y3 ⟨n7, o7, l7, c7, p7, m7, k7, n8, o8, l8, c8, p8, m8, k8, rfl, h7, h8, hb⟩; have H3 : Hid (Vars w y3 [(r5, [.bool nx, .slice ox lx cx, .slice px mx kx, .bool ny, .slice oy ly cy, .slice py my ky]), (w.heap.size + 1, [.bool false, .slice none 0 0, .slice none 0 0, .bool false, .slice none 0 0, .slice none 0 0]), (w.heap.size, [.bool n1, .slice o1 l1 c1, .slice p1 m1 k1, .bool n2, .slice o2 l2 c2, .slice p2 m2 k2])] ∧ (RatAt y3 n5 o5 l5 c5 p5 m5 k5 (loK (prods (vLo (p.drop (j + 1)) a b) (vHi (p.drop (j + 1)) a b) a b) 4) ∧ RatAt y3 n6 o6 l6 c6 p6 m6 k6 (hiK (prods (vLo (p.drop (j + 1)) a b) (vHi (p.drop (j + 1)) a b) a b) 4)) ∧ RatAt y3 n7 o7 l7 c7 p7 m7 k7 ((dig p j : Int) : Rat) ∧ RatAt y3 n8 o8 l8 c8 p8 m8 k8 ((dig p j : Int) : Rat)) := ⟨H2.out.1.later hb, ⟨H2.out.2.1.1.later hb, H2.out.2.1.2.later hb⟩, h7, h8⟩; clear h7 h8 hb)
    (try go_wp2_with fail)
    clear hHeld
    refine hK.out _ _ (by (try dsimp only); exact ⟨(H3.out.1).cell 0 0 rfl rfl, (H3.out.1).cell 0 1 rfl rfl, (H3.out.1).cell 0 2 rfl rfl, (H3.out.1).cell 0 3 rfl rfl, (H3.out.1).cell 0 4 rfl rfl, (H3.out.1).cell 0 5 rfl rfl, (H3.out.1).cell 2 0 rfl rfl, (H3.out.1).cell 2 1 rfl rfl, (H3.out.1).cell 2 2 rfl rfl, (H3.out.1).cell 2 3 rfl rfl, (H3.out.1).cell 2 4 rfl rfl, (H3.out.1).cell 2 5 rfl rfl, (HP.out _ (H3.out.1).below).1, (HP.out _ (H3.out.1).below).2.1⟩) (fun hHeld => ?_)
    clear hK K
    (try simp only [Act.put, List.setIfInBounds_toArray, List.set_cons_zero, List.set_cons_succ])
    refine HeldT.ready (rs := [9]) (by decide +kernel) (by simp) ?_
    refine AllT.cons (o := Oper.mk (some 32) _ _ _ _ _) rfl (fun K hK => ?_) AllT.nil
    go_simp
    (go_at_call 40; refine (pplus_any n5 n6 n7 n8 o5 p5 o6 p6 o7 p7 o8 p8 l5 c5 m5 k5 l6 c6 m6 k6 l7 c7 m7 k7 l8 c8 m8 k8 (loK (prods (vLo (p.drop (j + 1)) a b) (vHi (p.drop (j + 1)) a b) a b) 4) (hiK (prods (vLo (p.drop (j + 1)) a b) (vHi (p.drop (j + 1)) a b) a b) 4) ((dig p j : Int) : Rat) ((dig p j : Int) : Rat) _ H3.out.2.1.1 H3.out.2.1.2 H3.out.2.2.1 H3.out.2.2.2 HZ.out.1.1 HZ.out.1.2 HZ.out.2 HZ.out.2).mono ?_; rw [HE.out.1, HE.out.2]; rintro e y4 ⟨n9, o9, l9, c9, p9, m9, k9, n10, o10, l10, c10, p10, m10, k10, rfl, h9, h10, hb⟩; have H4 : Hid (Vars w y4 [(r5, [.bool nx, .slice ox lx cx, .slice px mx kx, .bool ny, .slice oy ly cy, .slice py my ky]), (w.heap.size + 1, [.bool false, .slice none 0 0, .slice none 0 0, .bool false, .slice none 0 0, .slice none 0 0]), (w.heap.size, [.bool n1, .slice o1 l1 c1, .slice p1 m1 k1, .bool n2, .slice o2 l2 c2, .slice p2 m2 k2])] ∧ RatAt y4 n9 o9 l9 c9 p9 m9 k9 (vLo (p.drop j) a b) ∧ RatAt y4 n10 o10 l10 c10 p10 m10 k10 (vHi (p.drop j) a b)) := ⟨H3.out.1.later hb, h9, h10⟩; clear h9 h10 hb)
    (try go_wp2_with fail)
    clear hHeld
    refine hK.out _ _ (by (try dsimp only); exact ⟨(H4.out.1).cell 0 0 rfl rfl, (H4.out.1).cell 0 1 rfl rfl, (H4.out.1).cell 0 2 rfl rfl, (H4.out.1).cell 0 3 rfl rfl, (H4.out.1).cell 0 4 rfl rfl, (H4.out.1).cell 0 5 rfl rfl, (H4.out.1).cell 2 0 rfl rfl, (H4.out.1).cell 2 1 rfl rfl, (H4.out.1).cell 2 2 rfl rfl, (H4.out.1).cell 2 3 rfl rfl, (H4.out.1).cell 2 4 rfl rfl, (H4.out.1).cell 2 5 rfl rfl, (HP.out _ (H4.out.1).below).1, (HP.out _ (H4.out.1).below).2.1⟩) (fun hHeld => ?_)
    clear hK K
    (try simp only [Act.put, List.setIfInBounds_toArray, List.set_cons_zero, List.set_cons_succ])
    have u0 := H4.out.1.cell 0 0 rfl rfl
    have u1 := H4.out.1.cell 0 1 rfl rfl
    have u2 := H4.out.1.cell 0 2 rfl rfl
    have u3 := H4.out.1.cell 0 3 rfl rfl
    have u4 := H4.out.1.cell 0 4 rfl rfl
    have u5 := H4.out.1.cell 0 5 rfl rfl
    have uf := H4.out.1.soft 0 rfl
    clear hHeld
    refine HeldT.ready (rs := [10]) (by decide +kernel) (by simp) ?_
    refine AllT.store (o := Oper.mk none _ _ _ _ _) rfl (by decide +kernel) (fun K hK => ?_) AllT.nil
    go_simp
    refine hK.out _ _ ?_
    clear hK K
    (try simp only [Act.put, List.setIfInBounds_toArray, List.set_cons_zero, List.set_cons_succ])
    refine HeldT.done (by decide +kernel) ?_ _
    refine NoPanic.normal ?_
    go_wp2
    go_roundw
    case rel => exact ⟨j, by have := HJ.out; omega, by go_num, n9, o9, l9, c9, p9, m9, k9, n10, o10, l10, c10, p10, m10, k10, H4.out.1.put6 0 rfl (.bool n9) (.slice o9 l9 c9) (.slice p9 m9 k9) (.bool n10) (.slice o10 l10 c10) (.slice p10 m10 k10), H4.out.2.1.setSix (H4.out.1.box 0 _ _ rfl).1 (fun u e => by cases e) (fun u e => by cases e) (fun u e => by cases e) (fun u e => by cases e) (fun u e => by cases e) (fun u e => by cases e) (.bool n9) (.slice o9 l9 c9) (.slice p9 m9 k9) (.bool n10) (.slice o10 l10 c10) (.slice p10 m10 k10), H4.out.2.2.setSix (H4.out.1.box 0 _ _ rfl).1 (fun u e => by cases e) (fun u e => by cases e) (fun u e => by cases e) (fun u e => by cases e) (fun u e => by cases e) (fun u e => by cases e) (.bool n9) (.slice o9 l9 c9) (.slice p9 m9 k9) (.bool n10) (.slice o10 l10 c10) (.slice p10 m10 k10)⟩
    case measure => simp [intOf]
theorem scheck_bad1 (n1 n2 : Bool) (o1 p1 o2 p2 : Option Addr) (l1 c1 m1 k1 l2 c2 m2 k2 : Nat) (x1 d1 : List Int) (w : World) (hx1 : RowAt w .u64 o1 l1 c1 x1) (wx1 : Wd 18446744073709551616 x1) (hd1 : RowAt w .u64 p1 m1 k1 d1) (wd1 : Wd 18446744073709551616 d1) (hl1 : l1 ≤ 4) (hm1 : m1 ≤ 4) (h1 : mayR n1 x1 d1 = false) (hT0 : TabAt 0 Lib.deBruijn64tab w) :
  Calls Tryz.prog 30 #[.agg #[.bool n1, .slice o1 l1 c1, .slice p1 m1 k1, .bool n2, .slice o2 l2 c2, .slice p2 m2 k2]] w fun e w' => e = .returned (.int .i64 40) ∧ Below w.heap.size w w' := by
 obtain ⟨W, hW, hsz, hbW, hA⟩ := enter1 w [.bool n1, .slice o1 l1 c1, .slice p1 m1 k1, .bool n2, .slice o2 l2 c2, .slice p2 m2 k2] 32
 have HX : Hid ((RowAt W .u64 o1 l1 c1 x1 ∧ RowAt W .u64 p1 m1 k1 d1) ∧ TabAt 0 Lib.deBruijn64tab W) := ⟨⟨hx1.later hbW, hd1.later hbW⟩, tab_later hT0 hbW⟩
 clear hx1 hd1 hT0
 go_enter Tryz.func30, Tryz.ntmps30
 go_wp2_with (go_at_call 28; rw [← hW]; refine (rcheck_bad n1 o1 p1 l1 c1 m1 k1 x1 d1 _ HX.out.1.1 wx1 HX.out.1.2 wd1 (by omega) (by omega) HX.out.2 h1).mono ?_; rintro e w1 ⟨rfl, hb1⟩)
 go_ret
 exact ⟨rfl, bnext hbW hb1⟩
theorem scheck_bad2 (n1 n2 : Bool) (o1 p1 o2 p2 : Option Addr) (l1 c1 m1 k1 l2 c2 m2 k2 : Nat) (x2 d2 : List Int) (a : Rat) (w : World) (hx : RatAt w n1 o1 l1 c1 p1 m1 k1 a) (hl1 : l1 ≤ 4) (hm1 : m1 ≤ 4) (hx2 : RowAt w .u64 o2 l2 c2 x2) (wx2 : Wd 18446744073709551616 x2) (hd2 : RowAt w .u64 p2 m2 k2 d2) (wd2 : Wd 18446744073709551616 d2) (hl2 : l2 ≤ 4) (hm2 : m2 ≤ 4) (h2 : mayR n2 x2 d2 = false) (hT0 : TabAt 0 Lib.deBruijn64tab w) :
  Calls Tryz.prog 30 #[.agg #[.bool n1, .slice o1 l1 c1, .slice p1 m1 k1, .bool n2, .slice o2 l2 c2, .slice p2 m2 k2]] w fun e w' => e = .returned (.int .i64 40) ∧ Below w.heap.size w w' := by
 obtain ⟨W, hW, hsz, hbW, hA⟩ := enter1 w [.bool n1, .slice o1 l1 c1, .slice p1 m1 k1, .bool n2, .slice o2 l2 c2, .slice p2 m2 k2] 32
 have HX : Hid (RatAt W n1 o1 l1 c1 p1 m1 k1 a ∧ (RowAt W .u64 o2 l2 c2 x2 ∧ RowAt W .u64 p2 m2 k2 d2) ∧ TabAt 0 Lib.deBruijn64tab W) := ⟨hx.later hbW, ⟨hx2.later hbW, hd2.later hbW⟩, tab_later hT0 hbW⟩
 clear hx hx2 hd2 hT0
 go_enter Tryz.func30, Tryz.ntmps30
 go_wp2_with (first
  | (go_at_call 28; have _t := hb1; refine (rcheck_bad n2 o2 p2 l2 c2 m2 k2 x2 d2 _ (HX.out.2.1.1.later hb1) wx2 (HX.out.2.1.2.later hb1) wd2 (by omega) (by omega) (tab_later HX.out.2.2 hb1) h2).mono ?_; rintro e w2 ⟨rfl, hb2⟩)
  | (go_at_call 28; rw [← hW]; refine (rcheck_good n1 o1 p1 l1 c1 m1 k1 a _ HX.out.1 (by omega) (by omega) HX.out.2.2).mono ?_; rintro e w1 ⟨rfl, hb1⟩; have ub := hA.later hb1 (by omega); have u0 := ub.1 0 _ rfl; have u1 := ub.1 1 _ rfl; have u2 := ub.1 2 _ rfl; have u3 := ub.1 3 _ rfl; have u4 := ub.1 4 _ rfl; have u5 := ub.1 5 _ rfl; clear ub))
 go_ret
 exact ⟨rfl, bnext hbW (bnext hb1 hb2)⟩
theorem scheck_bad3 (n1 n2 : Bool) (o1 p1 o2 p2 : Option Addr) (l1 c1 m1 k1 l2 c2 m2 k2 : Nat) (a b : Rat) (w : World) (hx : RatAt w n1 o1 l1 c1 p1 m1 k1 a) (hy : RatAt w n2 o2 l2 c2 p2 m2 k2 b) (ha : Sz a 10000) (hb : Sz b 10000) (hc : ¬ cmpQ a b ≤ 0) (hT0 : TabAt 0 Lib.deBruijn64tab w) :
  Calls Tryz.prog 30 #[.agg #[.bool n1, .slice o1 l1 c1, .slice p1 m1 k1, .bool n2, .slice o2 l2 c2, .slice p2 m2 k2]] w fun e w' => e = .returned (.int .i64 40) ∧ Below w.heap.size w w' := by
 obtain ⟨W, hW, hsz, hbW, hA⟩ := enter1 w [.bool n1, .slice o1 l1 c1, .slice p1 m1 k1, .bool n2, .slice o2 l2 c2, .slice p2 m2 k2] 32
 have HX : Hid (RatAt W n1 o1 l1 c1 p1 m1 k1 a ∧ RatAt W n2 o2 l2 c2 p2 m2 k2 b ∧ TabAt 0 Lib.deBruijn64tab W) := ⟨hx.later hbW, hy.later hbW, tab_later hT0 hbW⟩
 have hl1 : l1 ≤ 10000 := (hx.len ha).1
 have hm1 : m1 ≤ 10000 := (hx.len ha).2
 have hl2 : l2 ≤ 10000 := (hy.len hb).1
 have hm2 : m2 ≤ 10000 := (hy.len hb).2
 have HC : Hid (Sz a 10000 ∧ Sz b 10000) := ⟨ha, hb⟩
 obtain ⟨c, hc1⟩ : ∃ c, cmpQ a b = c := ⟨_, rfl⟩
 have HCC : Hid (cmpQ a b = c) := hc1
 have hc0 : (0 : Int) < c := by omega
 clear hx hy ha hb hc hc1 hT0
 go_enter Tryz.func30, Tryz.ntmps30
 go_wp2_with (first
  | (go_at_call 28; have _t := hb1; refine (rcheck_good n2 o2 p2 l2 c2 m2 k2 b _ (HX.out.2.1.later hb1) (by omega) (by omega) (tab_later HX.out.2.2 hb1)).mono ?_; rintro e w2 ⟨rfl, hb2'⟩; have hb2 := bnext hb1 hb2'; clear hb2' u0 u1 u2 u3 u4 u5 hb1; have ub := hA.later hb2 (by omega); have u0 := ub.1 0 _ rfl; have u1 := ub.1 1 _ rfl; have u2 := ub.1 2 _ rfl; have u3 := ub.1 3 _ rfl; have u4 := ub.1 4 _ rfl; have u5 := ub.1 5 _ rfl; clear ub)
  | (go_at_call 28; rw [← hW]; refine (rcheck_good n1 o1 p1 l1 c1 m1 k1 a _ HX.out.1 (by omega) (by omega) HX.out.2.2).mono ?_; rintro e w1 ⟨rfl, hb1⟩; have ub := hA.later hb1 (by omega); have u0 := ub.1 0 _ rfl; have u1 := ub.1 1 _ rfl; have u2 := ub.1 2 _ rfl; have u3 := ub.1 3 _ rfl; have u4 := ub.1 4 _ rfl; have u5 := ub.1 5 _ rfl; clear ub)
  | (go_at_call 58; refine (cmp_rat n1 n2 o1 p1 o2 p2 l1 c1 m1 k1 l2 c2 m2 k2 a b _ (HX.out.1.later hb2) (HX.out.2.1.later hb2) HC.out.1 HC.out.2 (tab_later HX.out.2.2 hb2) c HCC.out).mono ?_; rintro e w3 ⟨rfl, hb3⟩))
 go_ret
 exact ⟨rfl, bnext hbW (bnext hb2 hb3)⟩
theorem sform_is (n1 n2 : Bool) (o1 p1 o2 p2 : Option Addr) (l1 c1 m1 k1 l2 c2 m2 k2 : Nat) (x1 d1 x2 d2 : List Int) (w : World) (hx1 : RowAt w .u64 o1 l1 c1 x1) (wx1 : Wd 18446744073709551616 x1) (hd1 : RowAt w .u64 p1 m1 k1 d1) (wd1 : Wd 18446744073709551616 d1) (hx2 : RowAt w .u64 o2 l2 c2 x2) (wx2 : Wd 18446744073709551616 x2) (hd2 : RowAt w .u64 p2 m2 k2 d2) (wd2 : Wd 18446744073709551616 d2) (hl1 : l1 ≤ 4) (hm1 : m1 ≤ 4) (hl2 : l2 ≤ 4) (hm2 : m2 ≤ 4) (hT0 : TabAt 0 Lib.deBruijn64tab w) :
  ∃ r : Bool, (∀ X, Below w.heap.size w X → Calls Tryz.prog 8 #[.agg #[.bool n1, .slice o1 l1 c1, .slice p1 m1 k1, .bool n2, .slice o2 l2 c2, .slice p2 m2 k2]] X fun e w' => e = .returned (.bool r) ∧ Below X.heap.size X w') ∧ (∀ X, Below w.heap.size w X → Calls Tryz.prog 30 #[.agg #[.bool n1, .slice o1 l1 c1, .slice p1 m1 k1, .bool n2, .slice o2 l2 c2, .slice p2 m2 k2]] X fun e w' => e = .returned (.int .i64 (if r then 0 else 40)) ∧ Below X.heap.size X w') ∧ (r = true → ∃ a b : Rat, RatAt w n1 o1 l1 c1 p1 m1 k1 a ∧ RatAt w n2 o2 l2 c2 p2 m2 k2 b ∧ Sz a 4 ∧ Sz b 4 ∧ cmpQ a b ≤ 0) := by
 cases h1 : mayR n1 x1 d1
 ·
  exact ⟨false, fun X h => smay_bad1 n1 n2 o1 p1 o2 p2 l1 c1 m1 k1 l2 c2 m2 k2 x1 d1 X (hx1.later h) wx1 (hd1.later h) wd1 hl1 hm1 h1, fun X h => scheck_bad1 n1 n2 o1 p1 o2 p2 l1 c1 m1 k1 l2 c2 m2 k2 x1 d1 X (hx1.later h) wx1 (hd1.later h) wd1 hl1 hm1 h1 (tab_later hT0 h), fun e => by cases e⟩
 ·
  obtain ⟨a, ha, _⟩ := rat_of_may hx1 wx1 hd1 wd1 h1
  cases h2 : mayR n2 x2 d2
  ·
   exact ⟨false, fun X h => smay_bad2 n1 n2 o1 p1 o2 p2 l1 c1 m1 k1 l2 c2 m2 k2 x1 d1 x2 d2 X (hx1.later h) wx1 (hd1.later h) wd1 (hx2.later h) wx2 (hd2.later h) wd2 hl1 hm1 hl2 hm2 h1 h2, fun X h => scheck_bad2 n1 n2 o1 p1 o2 p2 l1 c1 m1 k1 l2 c2 m2 k2 x2 d2 a X (ha.later h) hl1 hm1 (hx2.later h) wx2 (hd2.later h) wd2 hl2 hm2 h2 (tab_later hT0 h), fun e => by cases e⟩
  ·
   obtain ⟨b, hb, _⟩ := rat_of_may hx2 wx2 hd2 wd2 h2
   have hm := fun X h => smay_good n1 n2 o1 p1 o2 p2 l1 c1 m1 k1 l2 c2 m2 k2 x1 d1 x2 d2 X (hx1.later (w' := X) h) wx1 (hd1.later h) wd1 (hx2.later h) wx2 (hd2.later h) wd2 hl1 hm1 hl2 hm2 h1 h2 a b (ha.later h) (hb.later h) (ha.sz hl1 hm1) (hb.sz hl2 hm2) (decide (cmpQ a b ≤ 0)) rfl
   by_cases hc : cmpQ a b ≤ 0
   ·
    rw [decide_eq_true hc] at hm
    exact ⟨true, hm, fun X h => scheck_good n1 n2 o1 p1 o2 p2 l1 c1 m1 k1 l2 c2 m2 k2 a b X (ha.later h) (hb.later h) ((ha.sz hl1 hm1).mono (by decide)) ((hb.sz hl2 hm2).mono (by decide)) hc (tab_later hT0 h), fun _ => ⟨a, b, ha, hb, ha.sz hl1 hm1, hb.sz hl2 hm2, hc⟩⟩
   ·
    rw [decide_eq_false hc] at hm
    exact ⟨false, hm, fun X h => scheck_bad3 n1 n2 o1 p1 o2 p2 l1 c1 m1 k1 l2 c2 m2 k2 a b X (ha.later h) (hb.later h) ((ha.sz hl1 hm1).mono (by decide)) ((hb.sz hl2 hm2).mono (by decide)) hc (tab_later hT0 h), fun e => by cases e⟩
end Go.Proofs.YthjkdnlbdhhmbaaGreatDoor
