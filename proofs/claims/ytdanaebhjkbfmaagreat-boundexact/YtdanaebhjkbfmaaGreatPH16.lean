/-
  Walks: the page's Shift.
-/
import Derived.Test.YtdanaebhjkbfmaaGreatPH12
import Derived.Test.YtdanaebhjkbfmaaGreatPH15
import Derived.LaidEql
import Derived.Stop.Asserts
import Derived.RowKitTokens
namespace Go.Proofs.YtdanaebhjkbfmaaGreat
open Go.RowKit
set_option linter.unusedVariables false
set_option linter.unusedSimpArgs false
theorem poly1_new {W : World} {n0 : Bool} {o0 : Option Addr} {l0 c0 : Nat} {a : Int} {t : TypeId} (h0 : IntAt W n0 o0 l0 c0 a) :
    PolyAt (W.alloc (.cells #[.bool n0, .slice o0 l0 c0] t)) (some ⟨W.heap.size, 0, none⟩) 1 1 [a] := by
  have hA : Below W.heap.size W (W.alloc (.cells #[.bool n0, .slice o0 l0 c0] t)) := (Below.refl _ _).alloc (Nat.le_refl _) _
  refine ⟨rfl, Nat.le_refl _, fun e => (by cases e), Or.inr ⟨W.heap.size, 0, rfl, fun t ht => ?_⟩⟩
  match t, ht with
  | 0, _ => exact ⟨n0, o0, l0, c0, ⟨by simp [go_sem], by simp [go_sem]⟩, h0.later hA⟩
theorem poly2_new {W : World} {n0 n1 : Bool} {o0 o1 : Option Addr} {l0 c0 l1 c1 : Nat} {a b : Int} {t : TypeId} (h0 : IntAt W n0 o0 l0 c0 a) (h1 : IntAt W n1 o1 l1 c1 b) :
    PolyAt (W.alloc (.cells #[.bool n0, .slice o0 l0 c0, .bool n1, .slice o1 l1 c1] t)) (some ⟨W.heap.size, 0, none⟩) 2 2 [a, b] := by
  have hA : Below W.heap.size W (W.alloc (.cells #[.bool n0, .slice o0 l0 c0, .bool n1, .slice o1 l1 c1] t)) := (Below.refl _ _).alloc (Nat.le_refl _) _
  refine ⟨rfl, Nat.le_refl _, fun e => (by cases e), Or.inr ⟨W.heap.size, 0, rfl, fun t ht => ?_⟩⟩
  match t, ht with
  | 0, _ => exact ⟨n0, o0, l0, c0, ⟨by simp [go_sem], by simp [go_sem]⟩, h0.later hA⟩
  | 1, _ => exact ⟨n1, o1, l1, c1, ⟨by simp [go_sem], by simp [go_sem]⟩, h1.later hA⟩
theorem lim_one1 : lim 1 ≤ 1 := mag_len_one (by decide)
theorem lim_le1 (a : Int) (L : Nat) (h : lim a ≤ L) : Lim L (trimL [a]) := trimL_lim fun t => by
  match t with
  | 0 => exact h
  | t + 1 => show lim 0 ≤ L; rw [lim_zero]; omega
theorem trim1_len (a : Int) : (trimL [a]).length ≤ 1 := by rw [trimL_len]; exact trimN_le _ _
theorem mulL_y (c : Int) (s : List Int) : mulL s [c, 1] = if s.length = 0 then mulL s [c, 1] else hor c 0 s := by
  split
  · rfl
  · refine eq_of_ev (by rw [mulL_len _ _ (by simp), hor_len]; simp) fun x => ?_
    rw [mulL_ev, hor_ev]
    simp only [ev]
    rw [show c + x * (1 + x * 0) = x + c by rw [Int.mul_zero, Int.add_zero, Int.mul_one]; omega, Int.mul_comm, Int.zero_add]
theorem mulP_y (c : Int) (s : List Int) (h : s.length ≠ 0) : mulP s [c, 1] = hor c 0 s := by
  unfold mulP
  rw [if_neg (by simp; exact fun e => h (by rw [e]; rfl)), mulL_y, if_neg h]
theorem mulP_nil (s t : List Int) (h : s.length = 0) : mulP s t = [] := by unfold mulP; rw [if_pos (Or.inl h)]
theorem hor_two (c a : Int) (s : List Int) (t : Nat) : dig (hor c 0 s) t + dig [a] t = dig (hor c a s) t := by
  rw [hor_digs, hor_digs]
  match t with
  | 0 => simp [dig]; omega
  | t + 1 => simp [dig]
theorem y_is (c : Int) (N : Nat) (hN : N = max 2 (trimL [c]).length) : trimL (tab N fun i => dig [0, 1] i + dig (trimL [c]) i) = [c, 1] := by
  have := trim1_len c
  obtain rfl : N = 2 := by omega
  have e : (tab 2 fun i => dig [0, 1] i + dig (trimL [c]) i) = [c, 1] := dig_ext (by rw [tab_len]; rfl) fun t ht => by
    rw [tab_len] at ht
    rw [tab_dig _ ht, trimL_dig]
    match t, ht with
    | 0, _ => simp [dig]
    | 1, _ => simp [dig]
  rw [e]
  exact trimL_of_lead (fun _ => by simp [dig])
theorem sh_stepP (c a : Int) (s : List Int) (hL : Lead (hor c a s)) (N : Nat) (hN : N = max (mulP s [c, 1]).length (trimL [a]).length) : trimL (tab N fun i => dig (mulP s [c, 1]) i + dig (trimL [a]) i) = hor c a s := by
  have e : (tab N fun i => dig (mulP s [c, 1]) i + dig (trimL [a]) i) = hor c a s := by
    by_cases hs : s.length = 0
    · obtain rfl : s = [] := List.eq_nil_of_length_eq_zero hs
      have ha : a ≠ 0 := by
        have := hL (by rw [hor_len]; simp)
        rw [hor_len] at this
        rw [hor_digs] at this
        simpa [dig] using this
      have h1 : trimL [a] = [a] := trimL_of_lead (fun _ => by simpa [dig] using ha)
      rw [mulP_nil _ _ rfl, h1] at hN ⊢
      obtain rfl : N = 1 := by simpa using hN
      exact dig_ext (by rw [tab_len, hor_len]; rfl) fun t ht => by
        rw [tab_len] at ht
        rw [tab_dig _ ht, hor_digs]
        match t, ht with
        | 0, _ => simp [dig]
    · have := trim1_len a
      rw [mulP_y c s hs] at hN ⊢
      rw [hor_len] at hN
      obtain rfl : N = s.length + 1 := by omega
      exact dig_ext (by rw [tab_len, hor_len]) fun t ht => by
        rw [tab_len] at ht
        rw [tab_dig _ ht, trimL_dig, hor_two]
  rw [e]
  exact trimL_of_lead hL
theorem hor_lims {A C : Nat} {c a : Int} {s : List Int} (hs : Lim A s) (hc : lim c ≤ C) (ha : lim a ≤ A) : Lim (A + (C + A) + 1) (hor c a s) := fun t => by
  rw [hor_digs]
  refine Nat.le_trans (lim_add _ _) ?_
  have h1 : lim (dig (a :: s) t) ≤ A := by
    match t with
    | 0 => exact ha
    | t + 1 => exact hs t
  have h2 := lim_mul c (dig s t)
  have h3 := hs t
  omega
set_option maxRecDepth 100000 in
set_option maxHeartbeats 2000000 in
theorem pX_any (w : World) : Calls Tryz.prog 33 #[] w fun e w' => NewPoly w w' e [0, 1] := by
  go_enter Tryz.func33, Tryz.ntmps33
  go_wp2_with (first
    | (go_at_call 49; have _t := H1; refine (rfrom_any 1 _ (by decide) (by decide)).mono ?_; rintro e w2 ⟨n2, o2, l2, c2, rfl, hs2, ho2, hb2⟩; have H2 : Hid (IntAt w2 n2 o2 l2 c2 1 ∧ IntAt w2 n1 o1 l1 c1 0) := ⟨ho2.int hs2, H1.out.later hb2⟩; clear hs2 ho2 _t)
    | (go_at_call 49; refine (rfrom_any 0 _ (by decide) (by decide)).mono ?_; rintro e w1 ⟨n1, o1, l1, c1, rfl, hs1, ho1, hb1⟩; have H1 : Hid (IntAt w1 n1 o1 l1 c1 0) := ho1.int hs1; clear hs1 ho1))
  go_ret
  exact ⟨_, _, _, rfl, poly2_new H2.out.2 H2.out.1, bnext hb1 (bnext hb2 ((Below.refl _ _).alloc (Nat.le_refl _) _))⟩
set_option maxRecDepth 100000 in
set_option maxHeartbeats 2000000 in
theorem pconst_any (n : Bool) (co : Option Addr) (lc cc : Nat) (c : Int) (w : World) (hv : IntAt w n co lc cc c) : Calls Tryz.prog 34 #[.agg #[.bool n, .slice co lc cc]] w fun e w' => NewPoly w w' e (trimL [c]) := by
  have hA : Below w.heap.size w (w.alloc (.cells #[.bool n, .slice co lc cc] 28)) := (Below.refl _ _).alloc (Nat.le_refl _) _
  have hA2 : Below w.heap.size w ((w.alloc (.cells #[.bool n, .slice co lc cc] 28)).alloc (.cells #[.bool n, .slice co lc cc] 28)) := bnext hA ((Below.refl _ _).alloc (Nat.le_refl _) _)
  have hcon : Calls Tryz.prog 30 #[.slice (some ⟨w.heap.size + 1, 0, none⟩) 1 1] ((w.alloc (.cells #[.bool n, .slice co lc cc] 28)).alloc (.cells #[.bool n, .slice co lc cc] 28)) fun e w' => NewPoly ((w.alloc (.cells #[.bool n, .slice co lc cc] 28)).alloc (.cells #[.bool n, .slice co lc cc] 28)) w' e (trimL [c]) := by
    have q := ptrim_any (some ⟨(w.alloc (.cells #[.bool n, .slice co lc cc] 28)).heap.size, 0, none⟩) 1 1 [c] _ (poly1_new (t := 28) (hv.later hA)) (by decide)
    rw [show (w.alloc (.cells #[.bool n, .slice co lc cc] 28)).heap.size = w.heap.size + 1 by simp] at q
    exact q.mono fun e w' h => by obtain ⟨m, _, he, hp, hb⟩ := h; exact ⟨_, _, _, he, hp, hb⟩
  clear hv
  go_enter Tryz.func34, Tryz.ntmps34
  go_wp2_with (go_at_call 30; refine hcon.mono ?_; rintro e w2 ⟨o2, m2, k2, rfl, hp2, hb2⟩)
  go_ret
  exact ⟨_, _, _, rfl, hp2, bnext hA2 hb2⟩
set_option maxRecDepth 100000 in
set_option maxHeartbeats 2000000 in
theorem ptimes_y (ao bo : Option Addr) (la ca cb A : Nat) (s : List Int) (c : Int) (w : World) (hp : PolyAt w ao la ca s) (hs : PolyAt w bo 2 cb [c, 1]) (hla' : la ≤ 20) (hA : A ≤ 100000) (hlp : Lim A s) (hls : Lim A [c, 1]) (hLp : Lead s) :
    Calls Tryz.prog 35 #[.slice ao la ca, .slice bo 2 cb] w fun e w' => NewPoly w w' e (mulP s [c, 1]) := by
  by_cases h0 : la = 0
  · refine (ptimes_nil ao bo la ca 2 cb w (Or.inl h0)).mono fun e w' h => ?_
    obtain ⟨o, l, k, he, hp', _, hb⟩ := h
    rw [mulP_nil _ _ (by rw [← hp.hlen]; exact h0)]
    exact ⟨o, l, k, he, hp', hb⟩
  · refine (ptimes_any ao bo la ca 2 cb A s [c, 1] w hp hs (by omega) (by omega) hla' (by omega) hA hlp hls hLp (fun _ => by simp [dig])).mono fun e w' h => ?_
    obtain ⟨g, N, hN, he, hp', _, hb⟩ := h
    have e2 : mulP s [c, 1] = mulL s [c, 1] := by unfold mulP; rw [if_neg]; rintro (q | q); exact h0 (by rw [hp.hlen]; exact q); simp at q
    rw [e2]
    exact ⟨_, _, _, he, hp', hb⟩
set_option maxRecDepth 100000 in
set_option maxHeartbeats 2000000 in
theorem pshift_any (ao : Option Addr) (len cap : Nat) (p : List Int) (n : Bool) (co : Option Addr) (lc cc : Nat) (c : Int) (w : World) (hp : PolyAt w ao len cap p) (hv : IntAt w n co lc cc c) (hl : len ≤ 11) (hlc : lc ≤ 3) (hlim : Lim 3 p) (hL : Lead p) :
    Calls Tryz.prog 11 #[.slice ao len cap, .agg #[.bool n, .slice co lc cc]] w fun e w' => NewPoly w w' e (sh c p) := by
  obtain ⟨W, hW⟩ : ∃ W, W = w.alloc (.cells #[.bool n, .slice co lc cc] 28) := ⟨_, rfl⟩
  have HW : Hid (Below w.heap.size w W ∧ Boxed W w.heap.size n co lc cc ∧ w.heap.size < W.heap.size) := by rw [hW]; exact ⟨(Below.refl _ _).alloc (Nat.le_refl _) _, ⟨by simp [go_sem], by simp [go_sem]⟩, by simp⟩
  have hlimc : lim c ≤ 3 := by rw [← hv.lim]; exact hlc
  have HSH : Hid (∀ i, Lim 14336 (sh c (p.drop i)) ∧ Lead (sh c (p.drop i)) ∧ (sh c (p.drop i)).length = len - i) := fun i => by
    refine ⟨fun t => ?_, sh_lead (fun h => ?_), by rw [sh_len, List.length_drop, hp.hlen]⟩
    · have h1 := sh_lim (drop_lim (i := i) hlim) hlimc t
      have h2 : 2 ^ (p.drop i).length ≤ 2 ^ 11 := Nat.pow_le_pow_right (by decide) (by rw [List.length_drop, ← hp.hlen]; omega)
      have h3 := Nat.mul_le_mul_right (3 + 3 + 1) h2
      omega
    · rw [dig_drop, List.length_drop]
      rw [List.length_drop] at h
      have := hL (by omega)
      rw [show i + (p.length - i - 1) = p.length - 1 by omega]; exact this
  have HR : Hid (PolyAt W ao len cap p ∧ IntAt W n co lc cc c ∧ Lim 3 p ∧ len = p.length ∧ lim c ≤ 3) := ⟨hp.later HW.out.1, hv.later HW.out.1, hlim, hp.hlen, hlimc⟩
  have HLY : Hid (Lim 14336 [c, 1]) := fun t => by
    match t with
    | 0 => exact Nat.le_trans hlimc (by decide)
    | 1 => exact Nat.le_trans lim_one1 (by decide)
    | t + 2 => show lim 0 ≤ _; rw [lim_zero]; omega
  have HX : Hid (Lim 3 [0, 1]) := fun t => by
    match t with
    | 0 => show lim 0 ≤ 3; rw [lim_zero]; omega
    | 1 => exact Nat.le_trans lim_one1 (by decide)
    | t + 2 => show lim 0 ≤ 3; rw [lim_zero]; omega
  clear hp hv hlim hL hlimc
  have KS : Hid (∀ w', Below W.heap.size W w' → Below W.heap.size W w' ∧ w'.cell? ⟨w.heap.size, 0, none⟩ = some (.bool n) ∧ w'.cell? ⟨w.heap.size, 1, none⟩ = some (.slice co lc cc)) := fun w' hb => ⟨hb, HW.out.2.1.later hb HW.out.2.2⟩
  go_enter Tryz.func11, Tryz.ntmps11
  go_wp2
  rw [← hW]
  clear hW
  go_region_held3 (fun w' => Below W.heap.size W w' ∧ w'.cell? ⟨w.heap.size, 0, none⟩ = some (.bool n) ∧ w'.cell? ⟨w.heap.size, 1, none⟩ = some (.slice co lc cc))
    (first | exact KS.out _ (Below.refl _ _).drew | exact KS.out _ (by assumption))
    (first
      | (go_at_call 33; refine (pX_any _).mono ?_; rintro e w1 ⟨o1, l1, c1, rfl, hp1, hb1'⟩; have hb1 : Below W.heap.size W w1 := bnext (Below.refl _ _).drew hb1'; have HP1 : Hid (PolyAt w1 o1 l1 c1 [0, 1] ∧ l1 = 2) := ⟨hp1, hp1.hlen⟩; clear hp1 hb1')
      | (go_at_call 34; refine (pconst_any n co lc cc c _ (HR.out.2.1.later hb1)).mono ?_; rintro e w2 ⟨o2, l2, c2, rfl, hp2, hb2'⟩; have hb2 : Below W.heap.size W w2 := bnext hb1 hb2'; have HP2 : Hid (PolyAt w2 o2 l2 c2 (trimL [c]) ∧ PolyAt w2 o1 l1 c1 [0, 1] ∧ l1 = 2 ∧ l2 = (trimL [c]).length) := ⟨hp2, HP1.out.1.later hb2', HP1.out.2, hp2.hlen⟩; clear hp2 hb2')
      | (go_at_call 32; refine (pplus_any o1 o2 l1 c1 l2 c2 3 (max l1 l2) [0, 1] (trimL [c]) _ HP2.out.2.1 HP2.out.1 (by have := HP2.out.2.2.1; omega) (by have := HP2.out.2.2.2; have := trim1_len c; omega) (by decide) HX.out (lim_le1 c 3 HR.out.2.2.2.2) rfl).mono ?_; rintro e w3 ⟨yo, yl, yc, rfl, hp3, _, hb3'⟩; have hb3 : Below W.heap.size W w3 := bnext hb2 hb3'; rw [y_is c _ (by rw [HP2.out.2.2.1, HP2.out.2.2.2])] at hp3; obtain rfl : yl = 2 := hp3.hlen; have HY : Hid (PolyAt w3 yo 2 yc [c, 1]) := hp3; clear hp3 hb3'))
  go_wp2
  go_loopw [5, 7] (fun v i wr => ∃ (k : Nat) (lo : Option Addr) (ll lk : Nat), k ≤ len ∧ v = .slice lo ll lk ∧ i = .int .i64 ((len : Int) - 1 - (k : Int)) ∧ Below W.heap.size W wr ∧ Below w3.heap.size w3 wr ∧ PolyAt wr lo ll lk (sh c (p.drop (len - k)))) (fun _ i _ => (intOf i + 1).toNat)
  case atStart => exact ⟨0, none, 0, 0, Nat.zero_le _, rfl, by simp, hb3, Below.refl _ _, by rw [Nat.sub_zero, List.drop_of_length_le (by rw [← HR.out.2.2.2.1]; exact Nat.le_refl _)]; exact PolyAt.nilPoly _⟩
  case round =>
    obtain ⟨k, lo, ll, lk, hk, rfl, rfl, hbel, hbel3, hpl⟩ := hrel
    have HPL : Hid (PolyAt wr lo ll lk (sh c (p.drop (len - k)))) := hpl
    have hll : ll ≤ 11 := by rw [hpl.hlen, (HSH.out _).2.2]; omega
    clear hpl
    by_cases hlt : k < len
    · obtain ⟨m, hm⟩ : ∃ m : Nat, m = len - 1 - k := ⟨_, rfl⟩
      have hmI : (len : Int) - 1 - (k : Int) = (m : Int) := by omega
      have hml : m < len := by omega
      obtain ⟨b, off, n1, ao1, l1, c1, rfl, f0, f1, hi1⟩ := (HR.out.1.later hbel).at hml
      have HI : Hid (IntAt wr n1 ao1 l1 c1 (dig p m) ∧ lim (dig p m) ≤ 3) := ⟨hi1, HR.out.2.2.1 m⟩
      have HM : Hid (m = len - 1 - k ∧ (len : Int) - 1 - (k : Int) = (m : Int) ∧ sh c (p.drop m) = hor c (dig p m) (sh c (p.drop (len - k)))) := ⟨hm, hmI, by rw [sh_drop c (by rw [← HR.out.2.2.2.1]; exact hml), show m + 1 = len - k by omega]⟩
      have z1 : (0 : Int) ≤ (m : Int) := by omega
      have z2 : (m : Int) < (len : Int) := by omega
      have KP : Hid (∀ w', Below wr.heap.size wr w' → Below wr.heap.size wr w' ∧ w'.cell? ⟨b, off + m * 2, none⟩ = some (.bool n1) ∧ w'.cell? ⟨b, off + m * 2 + 1, none⟩ = some (.slice ao1 l1 c1)) := fun w' hb => ⟨hb, (hb.cell (p := ⟨b, off + m * 2, none⟩) (cell_lt f0)).trans f0, (hb.cell (p := ⟨b, off + m * 2 + 1, none⟩) (cell_lt f1)).trans f1⟩
      obtain ⟨s, hs⟩ : ∃ s, s = sh c (p.drop (len - k)) := ⟨_, rfl⟩
      have HS : Hid (PolyAt wr lo ll lk s ∧ Lim 14336 s ∧ Lead s ∧ sh c (p.drop m) = hor c (dig p m) s) := by rw [hs]; exact ⟨HPL.out, (HSH.out _).1, (HSH.out _).2.1, HM.out.2.2⟩
      have HLH : Hid (Lead (hor c (dig p m) s) ∧ Lim 100000 (mulP s [c, 1]) ∧ (mulP s [c, 1]).length ≤ 100) := by
        refine ⟨by rw [← HS.out.2.2.2]; exact (HSH.out _).2.1, ?_, ?_⟩
        · by_cases h0 : s.length = 0
          · rw [mulP_nil _ _ h0]; intro t; rw [dig_past (Nat.zero_le _), lim_zero]; omega
          · rw [mulP_y c s h0]
            exact (hor_lims HS.out.2.1 HR.out.2.2.2.2 (by rw [lim_zero]; omega)).mono (by decide)
        · by_cases h0 : s.length = 0
          · rw [mulP_nil _ _ h0]; simp
          · rw [mulP_y c s h0, hor_len, ← HS.out.1.hlen]; omega
      rw [hmI]
      clear hi1 hm hmI hs HPL f0 f1
      go_wp2
      go_region_held3 (fun w' => Below wr.heap.size wr w' ∧ w'.cell? ⟨b, off + m * 2, none⟩ = some (.bool n1) ∧ w'.cell? ⟨b, off + m * 2 + 1, none⟩ = some (.slice ao1 l1 c1))
        (first | exact KP.out _ (Below.refl _ _).drew | exact KP.out _ (by assumption))
        (first
          | (go_at_call 35; refine (ptimes_y lo yo ll lk yc 14336 s c _ (HS.out.1.later (Below.refl _ _).drew) (HY.out.later (bnext hbel3 (Below.refl _ _).drew)) (by omega) (by decide) HS.out.2.1 HLY.out HS.out.2.2.1).mono ?_; rintro e w4 ⟨o4, l4, c4, rfl, hp4, hb4'⟩; have hb4 : Below wr.heap.size wr w4 := bnext (Below.refl _ _).drew hb4'; have HP4 : Hid (PolyAt w4 o4 l4 c4 (mulP s [c, 1])) := hp4; clear hp4 hb4')
          | (go_at_call 34; refine (pconst_any n1 ao1 l1 c1 (dig p m) _ (HI.out.1.later hb4)).mono ?_; rintro e w5 ⟨o5, l5, c5, rfl, hp5, hb5'⟩; have hb5 : Below wr.heap.size wr w5 := bnext hb4 hb5'; have HP5 : Hid (PolyAt w5 o5 l5 c5 (trimL [dig p m]) ∧ PolyAt w5 o4 l4 c4 (mulP s [c, 1])) := ⟨hp5, HP4.out.later hb5'⟩; clear hp5 hb5')
          | (go_at_call 32; refine (pplus_any o4 o5 l4 c4 l5 c5 100000 (max l4 l5) (mulP s [c, 1]) (trimL [dig p m]) _ HP5.out.2 HP5.out.1 (by rw [HP5.out.2.hlen]; have := HLH.out.2.2; omega) (by rw [HP5.out.1.hlen]; have := trim1_len (dig p m); omega) (by decide) HLH.out.2.1 (lim_le1 _ _ (Nat.le_trans HI.out.2 (by decide))) rfl).mono ?_; rintro e w6 ⟨o6, l6, c6, rfl, hp6, _, hb6'⟩; have hb6 : Below wr.heap.size wr w6 := bnext hb5 hb6'; rw [sh_stepP c (dig p m) s HLH.out.1 _ (by rw [HP5.out.2.hlen, HP5.out.1.hlen]), ← HS.out.2.2.2] at hp6; have HP6 : Hid (PolyAt w6 o6 l6 c6 (sh c (p.drop m))) := hp6; clear hp6 hb6'))
      go_wp2
      go_roundw
      case rel => exact ⟨k + 1, o6, l6, c6, by omega, rfl, by (have := HM.out.2.1; simp only [Value.int.injEq, true_and] <;> omega), bnext hbel hb6, bnext hbel3 hb6, by rw [show len - (k + 1) = m by have := HM.out.1; omega]; exact HP6.out⟩
      case measure => simp [intOf] <;> omega
    · obtain rfl : k = len := by omega
      have z0 : (k : Int) - 1 - (k : Int) = -1 := by omega
      rw [z0]
      rw [Nat.sub_self, List.drop_zero] at HPL
      go_wp2
      go_ret
      exact ⟨_, _, _, rfl, HPL.out, bnext HW.out.1 hbel⟩
end Go.Proofs.YtdanaebhjkbfmaaGreat
/-
  Walks: what bound refuses: errors.Is over a refusal, asked.
-/
namespace Go.Proofs.YtdanaebhjkbfmaaGreat
open Go.RowKit Go.Extern.Stop Go.Stop Go.Extern
set_option linter.unusedVariables false
set_option linter.unusedSimpArgs false
theorem isTypeOf (v : Value) (w : World) : (Extern.ReflectliteType.typeOf #[.iface 38 v]).run Tryz.prog w = .ok (.iface 110 (.agg #[.pointer (some ⟨0, 38, none⟩)])) w := by kernel_rfl
theorem compCall (w : World) : (callFunc 148 #[.agg #[.pointer (some ⟨0, 38, none⟩)]]).run Tryz.prog w = .ok (Next.value (.bool true)) w := by
  rw [@run_callFunc_extern Tryz.prog 148 _ (Extern.ReflectliteType.method fun t => do Extern.Rtype.noPackHeld "Comparable" t; pure (.bool (← typeInfo t).comparable)) Tryz.func148 (by kernel_rfl) (by kernel_rfl) (by kernel_rfl) (by kernel_rfl)]
  kernel_rfl
theorem isMethodComparable (v : Value) (w : World) : (Go.method 268 110 v "Comparable").run Tryz.prog w = .ok (148, v) w := by kernel_rfl
theorem noIsE (v : Value) (xT : TypeId) (w : World) : (Instr.typeAssert (.iface 38 v) xT 112 true).run Tryz.prog w = .ok (.tuple #[.nilIface, .bool false]) w := run_typeAssert_lacksB Tryz.underlying112 (by kernel_rfl) (by kernel_rfl) v xT w
theorem noUnwrapE (v : Value) (xT : TypeId) (w : World) : (Instr.typeAssert (.iface 38 v) xT 115 true).run Tryz.prog w = .ok (.tuple #[.nilIface, .bool false]) w := run_typeAssert_lacksB Tryz.underlying115 (by kernel_rfl) (by kernel_rfl) v xT w
theorem noUnwrapsE (v : Value) (xT : TypeId) (w : World) : (Instr.typeAssert (.iface 38 v) xT 117 true).run Tryz.prog w = .ok (.tuple #[.nilIface, .bool false]) w := run_typeAssert_lacksB Tryz.underlying117 (by kernel_rfl) (by kernel_rfl) v xT w
theorem noIsW (v : Value) (xT : TypeId) (w : World) : (Instr.typeAssert (.iface 78 v) xT 112 true).run Tryz.prog w = .ok (.tuple #[.nilIface, .bool false]) w := run_typeAssert_lacksB Tryz.underlying112 (by kernel_rfl) (by kernel_rfl) v xT w
theorem hasUnwrapW (v : Value) (xT : TypeId) (w : World) : (Instr.typeAssert (.iface 78 v) xT 115 true).run Tryz.prog w = .ok (.tuple #[.iface 78 v, .bool true]) w := run_typeAssert_hasB Tryz.underlying115 (by kernel_rfl) v xT w
theorem methodUnwrap (v : Value) (w : World) : (Go.method 268 78 v "Unwrap").run Tryz.prog w = .ok (144, v) w := by kernel_rfl
theorem eqlErr_tt (a : Int) (b : Int) (c : Bool) (hc : decide (a = b) = c) (w : World) : (binOp .eql 61 (.iface 38 (.int .i64 a)) (.iface 38 (.int .i64 b))).run Tryz.prog w = .ok (.bool c) w := by
  have hi := Tryz.underlying61
  have hp := Tryz.underlying38
  obtain ⟨i, hinfo, hcomp⟩ : ∃ i, Tryz.prog.info? 38 = some i ∧ i.comparable = true := Option.map_eq_some_iff.1 (show (Tryz.prog.info? 38).map (·.comparable) = some true by kernel_rfl)
  have h : ∀ d : Nat, (Op.equalIn (d + 2) 61 (.iface 38 (.int .i64 a)) (.iface 38 (.int .i64 b))).run Tryz.prog w = .ok c w := fun d => by
    subst hc
    simp [Op.equalIn, run_underlying hi, run_underlying hp, typeInfo, hinfo, hcomp]
    rfl
  simp only [binOp]
  simp [Op.equal, Op.maxDepth, h 9998]
set_option maxRecDepth 100000 in
set_option maxHeartbeats 1000000 in
/-- errors.Is of a refusal that holds a, and the Errno b -/
theorem is_any (r : Nat) (a b : Int) (c : Bool) (hc : decide (a = b) = c) (w : World) (h1 : w.cell? ⟨r, 1, none⟩ = some (.int .i64 a)) :
    Calls Tryz.prog 63 #[.iface 78 (.pointer (some ⟨r, 0, none⟩)), .iface 38 (.int .i64 b)] w fun e w' => e = .returned (.bool c) ∧ w' = w := by
  have h8 := @run_callFunc_extern Tryz.prog 86 _ Extern.ReflectliteType.typeOf Tryz.func86 (by kernel_rfl) (by kernel_rfl) (by kernel_rfl) (by kernel_rfl)
  have tT := isTypeOf
  have cT := compCall
  have mR := isMethodComparable
  have nE := noIsE
  have uE := noUnwrapE
  have vE := noUnwrapsE
  have nW := noIsW
  have uW := hasUnwrapW
  have mU := methodUnwrap
  have heq := eqlErr_tt a b c hc
  have hty := run_eql_iface_types (P := Tryz.prog) 78 38 (.pointer (some ⟨r, 0, none⟩)) (.int .i64 b) Tryz.underlying61 (by decide) w
  clear hc
  cases c
  · go_enter Tryz.func63, Tryz.ntmps63
    go_wp2
    refine wp_loop_rounds 2 ?_
    rw [rounds_succ]
    go_wp2
    rw [rounds_succ]
    go_wp2
    go_ret
    exact ⟨rfl, rfl⟩
  · go_enter Tryz.func63, Tryz.ntmps63
    go_wp2
    refine wp_loop_rounds 2 ?_
    rw [rounds_succ]
    go_wp2
    rw [rounds_succ]
    go_wp2
    go_ret
    exact ⟨rfl, rfl⟩
set_option maxRecDepth 100000 in
set_option maxHeartbeats 1000000 in
theorem asked_any (r : Nat) (a : Int) (ha : a = 50 ∨ a = 51 ∨ a = 60) (w : World) (h1 : w.cell? ⟨r, 1, none⟩ = some (.int .i64 a)) :
    Calls Tryz.prog 39 #[.iface 78 (.pointer (some ⟨r, 0, none⟩))] w fun e w' => e = .returned (.int .i64 a) ∧ Below w.heap.size w w' := by
  have hcon : ∀ b c, decide (a = b) = c → Calls Tryz.prog 63 #[.iface 78 (.pointer (some ⟨r, 0, none⟩)), .iface 38 (.int .i64 b)] w fun e w' => e = .returned (.bool c) ∧ w' = w := fun b c hc => is_any r a b c hc w h1
  have i0 : ∀ w, (Instr.index 81 (.agg #[.int .i64 50, .int .i64 51, .int .i64 60]) (.int .i64 0)).run Tryz.prog w = .ok (.int .i64 50) w := fun w => by kernel_rfl
  have i1 : ∀ w, (Instr.index 81 (.agg #[.int .i64 50, .int .i64 51, .int .i64 60]) (.int .i64 1)).run Tryz.prog w = .ok (.int .i64 51) w := fun w => by kernel_rfl
  have i2 : ∀ w, (Instr.index 81 (.agg #[.int .i64 50, .int .i64 51, .int .i64 60]) (.int .i64 2)).run Tryz.prog w = .ok (.int .i64 60) w := fun w => by kernel_rfl
  clear h1
  rcases ha with rfl | rfl | rfl
  · have k0 := hcon 50 true rfl
    clear hcon
    go_enter Tryz.func39, Tryz.ntmps39
    go_wp2
    refine wp_loop_rounds 1 ?_
    rw [rounds_succ]
    go_wp2_with (go_at_call 63; refine k0.mono ?_; rintro e w1 ⟨rfl, rfl⟩)
    go_ret
    exact ⟨rfl, Below.refl _ _⟩
  · have k0 := hcon 50 false rfl
    have k1 := hcon 51 true rfl
    clear hcon
    go_enter Tryz.func39, Tryz.ntmps39
    go_wp2
    refine wp_loop_rounds 2 ?_
    rw [rounds_succ]
    go_wp2_with (go_at_call 63; refine k0.mono ?_; rintro e w1 ⟨rfl, rfl⟩)
    rw [rounds_succ]
    go_wp2_with (go_at_call 63; refine k1.mono ?_; rintro e w1 ⟨rfl, rfl⟩)
    go_ret
    exact ⟨rfl, Below.refl _ _⟩
  · have k0 := hcon 50 false rfl
    have k1 := hcon 51 false rfl
    have k2 := hcon 60 true rfl
    clear hcon
    go_enter Tryz.func39, Tryz.ntmps39
    go_wp2
    refine wp_loop_rounds 3 ?_
    rw [rounds_succ]
    go_wp2_with (go_at_call 63; refine k0.mono ?_; rintro e w1 ⟨rfl, rfl⟩)
    rw [rounds_succ]
    go_wp2_with (go_at_call 63; refine k1.mono ?_; rintro e w1 ⟨rfl, rfl⟩)
    rw [rounds_succ]
    go_wp2_with (go_at_call 63; refine k2.mono ?_; rintro e w1 ⟨rfl, rfl⟩)
    go_ret
    exact ⟨rfl, Below.refl _ _⟩
end Go.Proofs.YtdanaebhjkbfmaaGreat
