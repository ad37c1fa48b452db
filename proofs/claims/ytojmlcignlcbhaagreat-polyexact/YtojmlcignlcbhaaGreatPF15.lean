/-
  A pack of walks and facts: UJ.
-/
import Derived.Test.YtojmlcignlcbhaaGreatPF14
set_option maxRecDepth 100000
set_option maxHeartbeats 40000000
set_option linter.unusedVariables false
set_option linter.unusedSimpArgs false
namespace Go.Proofs.YtojmlcignlcbhaaGreat
open Go.RowKit
structure PArg (w : World) (ao : Option Addr) (len cap : Nat) (rs : List (Bool × List Int)) (m : Bool) (p : List Int) : Prop where
 raws : RawsAt w ao len cap rs
 short : len ≤ 11
 lims : ∀ t, (rv rs t).2.length ≤ 3
 may : pmayB len rs = m
 good : m = true → PolyAt w ao len cap p ∧ Lead p ∧ Lim 3 p
theorem PArg.later {w w' : World} {ao : Option Addr} {len cap : Nat} {rs : List (Bool × List Int)} {m : Bool} {p : List Int} (h : PArg w ao len cap rs m p) (hb : Below w.heap.size w w') : PArg w' ao len cap rs m p :=
 ⟨h.raws.later hb, h.short, h.lims, h.may, fun e => ⟨(h.good e).1.later hb, (h.good e).2⟩⟩
def PAns (B : Nat) (w : World) (c : Int) (ao : Option Addr) (l : Nat) (L : List Int) : Prop := (c = 0 ∧ POwn B w ao l l L) ∨ (c = 50 ∧ ao = none ∧ l = 0)
def NewAns (w w' : World) (e : Ending) (c : Int) (L : List Int) : Prop := ∃ ao l, e = .returned (.tuple #[.slice ao l l, .int .i64 c]) ∧ PAns w.heap.size w' c ao l L ∧ Below w.heap.size w w'
def bad1 (m : Bool) : Int := if m then 0 else 50
theorem pchecks_is (ao bo : Option Addr) (la ca lb cb : Nat) (rs ts : List (Bool × List Int)) (m k : Bool) (p s : List Int) (w : World) (hp : PArg w ao la ca rs m p) (hs : PArg w bo lb cb ts k s) (c : Int) (hc : bad1 (m && k) = c) :
  Calls Tryz.prog 50 #[.slice ao la ca, .slice bo lb cb] w fun e w' => e = .returned (.int .i64 c) ∧ Below w.heap.size w w' := by
 have HP : Hid (PArg w ao la ca rs m p ∧ PArg w bo lb cb ts k s) := ⟨hp, hs⟩
 have h1 : ∀ d, bad1 m = d → Calls Tryz.prog 19 #[.slice ao la ca] w fun e w' => e = .returned (.int .i64 d) ∧ Below w.heap.size w w' := fun d hd => pcheck_is ao la ca rs w hp.raws (by have := hp.short; omega) (fun t => Nat.le_trans (hp.lims t) (by decide)) d (by rw [hp.may]; exact hd)
 have h2 : ∀ W d, Below w.heap.size w W → bad1 k = d → Calls Tryz.prog 19 #[.slice bo lb cb] W fun e w' => e = .returned (.int .i64 d) ∧ Below W.heap.size W w' := fun W d hb hd => pcheck_is bo lb cb ts W (hs.later hb).raws (by have := hs.short; omega) (fun t => Nat.le_trans (hs.lims t) (by decide)) d (by rw [hs.may]; exact hd)
 clear hp hs
 cases m
 ·
  replace h1 := h1 50 rfl
  obtain rfl : c = 50 := hc.symm
  clear h2 hc
  go_enter Tryz.func50, Tryz.ntmps50
  go_wp2_with (go_at_call 19; refine h1.mono ?_; rintro e w1 ⟨rfl, hb1⟩)
  go_ret
  exact ⟨rfl, hb1⟩
 ·
  replace h1 := h1 0 rfl
  have hc' : bad1 k = c := by rw [← hc]; rfl
  have HK : Hid (bad1 k = c) := hc'
  clear hc hc'
  go_enter Tryz.func50, Tryz.ntmps50
  go_wp2_with (first
   | (go_at_call 19; have _t := hb1; refine (h2 _ c hb1 HK.out).mono ?_; rintro e w2 ⟨rfl, hb2⟩)
   | (go_at_call 19; refine h1.mono ?_; rintro e w1 ⟨rfl, hb1⟩))
  go_ret
  exact ⟨rfl, bnext hb1 hb2⟩
def mulP (p s : List Int) : List Int := if p.length = 0 ∨ s.length = 0 then [] else mulL p s
theorem mulP_trim {p s : List Int} (hp : Lead p) (hs : Lead s) (h1 : 0 < p.length) (h2 : 0 < s.length) : trimL (mulL p s) = mulP p s := by
 unfold mulP
 rw [if_neg (by omega), trimL_of_lead (mul_lead hp hs h1 h2)]
theorem pladd_is (ao bo : Option Addr) (la ca lb cb N : Nat) (rs ts : List (Bool × List Int)) (m k : Bool) (p s : List Int) (w : World) (hp : PArg w ao la ca rs m p) (hs : PArg w bo lb cb ts k s) (c : Int) (hc : bad1 (m && k) = c) (hN : N = max la lb) :
  Calls Tryz.prog 24 #[.slice ao la ca, .slice bo lb cb] w fun e w' => NewAns w w' e c (trimL (tab N fun i => dig p i + dig s i)) := by
 have h1 := pchecks_is ao bo la ca lb cb rs ts m k p s w hp hs c hc
 cases hmk : (m && k)
 ·
  obtain rfl : c = 50 := by rw [← hc, hmk]; rfl
  clear hp hs hc hmk
  go_enter Tryz.func24, Tryz.ntmps24
  go_wp2_with (go_at_call 50; refine h1.mono ?_; rintro e w1 ⟨rfl, hb1⟩)
  go_ret2
  exact ⟨_, _, rfl, Or.inr ⟨rfl, rfl, rfl⟩, hb1⟩
 ·
  obtain rfl : c = 0 := by rw [← hc, hmk]; rfl
  obtain ⟨rfl, rfl⟩ : m = true ∧ k = true := by simpa using hmk
  have h2 : ∀ W, Below w.heap.size w W → Calls Tryz.prog 53 #[.slice ao la ca, .slice bo lb cb, .func (.func 54) #[] #[]] W fun e w' => NewPO W w' e (trimL (tab N fun i => dig p i + dig s i)) := fun W hb => joined_plus ao bo la ca lb cb 3 N p s W ((hp.later hb).good rfl).1 ((hs.later hb).good rfl).1 (by have := hp.short; omega) (by have := hs.short; omega) (by decide) (hp.good rfl).2.2 (hs.good rfl).2.2 hN
  clear hp hs hc hmk hN
  go_enter Tryz.func24, Tryz.ntmps24
  go_wp2_with (first
   | (go_at_call 50; refine h1.mono ?_; rintro e w1 ⟨rfl, hb1⟩)
   | (go_at_call 53; refine (h2 _ hb1).mono ?_; rintro e w2 ⟨ao2, l2, rfl, ho2, hb2⟩))
  go_ret2
  exact ⟨_, _, rfl, Or.inl ⟨rfl, ho2.mono hb1.size⟩, bnext hb1 hb2⟩
theorem plsub_is (ao bo : Option Addr) (la ca lb cb N : Nat) (rs ts : List (Bool × List Int)) (m k : Bool) (p s : List Int) (w : World) (hp : PArg w ao la ca rs m p) (hs : PArg w bo lb cb ts k s) (c : Int) (hc : bad1 (m && k) = c) (hN : N = max la lb) :
  Calls Tryz.prog 26 #[.slice ao la ca, .slice bo lb cb] w fun e w' => NewAns w w' e c (trimL (tab N fun i => dig p i - dig s i)) := by
 have h1 := pchecks_is ao bo la ca lb cb rs ts m k p s w hp hs c hc
 cases hmk : (m && k)
 ·
  obtain rfl : c = 50 := by rw [← hc, hmk]; rfl
  clear hp hs hc hmk
  go_enter Tryz.func26, Tryz.ntmps26
  go_wp2_with (go_at_call 50; refine h1.mono ?_; rintro e w1 ⟨rfl, hb1⟩)
  go_ret2
  exact ⟨_, _, rfl, Or.inr ⟨rfl, rfl, rfl⟩, hb1⟩
 ·
  obtain rfl : c = 0 := by rw [← hc, hmk]; rfl
  obtain ⟨rfl, rfl⟩ : m = true ∧ k = true := by simpa using hmk
  have h2 : ∀ W, Below w.heap.size w W → Calls Tryz.prog 53 #[.slice ao la ca, .slice bo lb cb, .func (.func 56) #[] #[]] W fun e w' => NewPO W w' e (trimL (tab N fun i => dig p i - dig s i)) := fun W hb => joined_minus ao bo la ca lb cb 3 N p s W ((hp.later hb).good rfl).1 ((hs.later hb).good rfl).1 (by have := hp.short; omega) (by have := hs.short; omega) (by decide) (hp.good rfl).2.2 (hs.good rfl).2.2 hN
  clear hp hs hc hmk hN
  go_enter Tryz.func26, Tryz.ntmps26
  go_wp2_with (first
   | (go_at_call 50; refine h1.mono ?_; rintro e w1 ⟨rfl, hb1⟩)
   | (go_at_call 53; refine (h2 _ hb1).mono ?_; rintro e w2 ⟨ao2, l2, rfl, ho2, hb2⟩))
  go_ret2
  exact ⟨_, _, rfl, Or.inl ⟨rfl, ho2.mono hb1.size⟩, bnext hb1 hb2⟩
theorem plmul_is (ao bo : Option Addr) (la ca lb cb : Nat) (rs ts : List (Bool × List Int)) (m k : Bool) (p s : List Int) (w : World) (hp : PArg w ao la ca rs m p) (hs : PArg w bo lb cb ts k s) (c : Int) (hc : bad1 (m && k) = c) :
  Calls Tryz.prog 27 #[.slice ao la ca, .slice bo lb cb] w fun e w' => NewAns w w' e c (mulP p s) := by
 have h1 := pchecks_is ao bo la ca lb cb rs ts m k p s w hp hs c hc
 cases hmk : (m && k)
 ·
  obtain rfl : c = 50 := by rw [← hc, hmk]; rfl
  clear hp hs hc hmk
  go_enter Tryz.func27, Tryz.ntmps27
  go_wp2_with (go_at_call 50; refine h1.mono ?_; rintro e w1 ⟨rfl, hb1⟩)
  go_ret2
  exact ⟨_, _, rfl, Or.inr ⟨rfl, rfl, rfl⟩, hb1⟩
 ·
  obtain rfl : c = 0 := by rw [← hc, hmk]; rfl
  obtain ⟨rfl, rfl⟩ : m = true ∧ k = true := by simpa using hmk
  have e1 := (hp.good rfl).1.hlen
  have e2 := (hs.good rfl).1.hlen
  have s1 := hp.short
  have s2 := hs.short
  by_cases ha : la = 0
  ·
   subst ha
   have HZ : Hid (mulP p s = []) := by show mulP p s = []; unfold mulP; rw [if_pos (Or.inl e1.symm)]
   clear hp hs hc hmk e1 e2
   go_enter Tryz.func27, Tryz.ntmps27
   go_wp2_with (go_at_call 50; refine h1.mono ?_; rintro e w1 ⟨rfl, hb1⟩)
   go_ret2
   exact ⟨_, _, rfl, Or.inl ⟨rfl, by rw [HZ.out]; exact POwn.nil _ _⟩, hb1⟩
  ·
   have ha' : ((la : Int) == 0) = false := by simp; omega
   by_cases hb : lb = 0
   ·
    subst hb
    have HZ : Hid (mulP p s = []) := by show mulP p s = []; unfold mulP; rw [if_pos (Or.inr e2.symm)]
    clear hp hs hc hmk e1 e2 ha
    go_enter Tryz.func27, Tryz.ntmps27
    go_wp2_with (go_at_call 50; refine h1.mono ?_; rintro e w1 ⟨rfl, hb1⟩)
    go_ret2
    exact ⟨_, _, rfl, Or.inl ⟨rfl, by rw [HZ.out]; exact POwn.nil _ _⟩, hb1⟩
   ·
    have hb' : ((lb : Int) == 0) = false := by simp; omega
    have hd : ¬ ((1024 : Int) < (la : Int) + (lb : Int) - 2) := by omega
    have h2 : ∀ W, Below w.heap.size w W → Calls Tryz.prog 57 #[.slice ao la ca, .slice bo lb cb] W fun e w' => NewPO W w' e (mulP p s) := fun W hb => by
     have := product_any ao bo la ca lb cb 3 p s W ((hp.later hb).good rfl).1 ((hs.later hb).good rfl).1 (by omega) (by omega) (by omega) (by omega) (by decide) (hp.good rfl).2.2 (hs.good rfl).2.2
     rw [mulP_trim (hp.good rfl).2.1 (hs.good rfl).2.1 (by omega) (by omega)] at this
     exact this
    clear hp hs hc hmk e1 e2 ha hb
    go_enter Tryz.func27, Tryz.ntmps27
    go_wp2_with (first
     | (go_at_call 50; refine h1.mono ?_; rintro e w1 ⟨rfl, hb1⟩)
     | (go_at_call 57; refine (h2 _ hb1).mono ?_; rintro e w2 ⟨ao2, l2, rfl, ho2, hb2⟩))
    go_ret2
    exact ⟨_, _, rfl, Or.inl ⟨rfl, ho2.mono hb1.size⟩, bnext hb1 hb2⟩
theorem plneg_is (ao : Option Addr) (la ca : Nat) (rs : List (Bool × List Int)) (m : Bool) (p : List Int) (w : World) (hp : PArg w ao la ca rs m p) (c : Int) (hc : bad1 m = c) :
  Calls Tryz.prog 28 #[.slice ao la ca] w fun e w' => NewAns w w' e c (trimL (tab la fun i => dig p i * -1)) := by
 have h1 := pcheck_is ao la ca rs w hp.raws (by have := hp.short; omega) (fun t => Nat.le_trans (hp.lims t) (by decide)) c (by rw [hp.may]; exact hc)
 cases m
 ·
  obtain rfl : c = 50 := hc.symm
  clear hp hc
  go_enter Tryz.func28, Tryz.ntmps28
  go_wp2_with (go_at_call 19; refine h1.mono ?_; rintro e w1 ⟨rfl, hb1⟩)
  go_ret2
  exact ⟨_, _, rfl, Or.inr ⟨rfl, rfl, rfl⟩, hb1⟩
 ·
  obtain rfl : c = 0 := hc.symm
  have h2 : ∀ W, Below w.heap.size w W → Calls Tryz.prog 58 #[.slice ao la ca] W fun e w' => NewPO W w' e (trimL (tab la fun i => dig p i * -1)) := fun W hb => opposite_any ao la ca 3 p W ((hp.later hb).good rfl).1 (by have := hp.short; omega) (by decide) (hp.good rfl).2.2
  clear hp hc
  go_enter Tryz.func28, Tryz.ntmps28
  go_wp2_with (first
   | (go_at_call 19; refine h1.mono ?_; rintro e w1 ⟨rfl, hb1⟩)
   | (go_at_call 58; refine (h2 _ hb1).mono ?_; rintro e w2 ⟨ao2, l2, rfl, ho2, hb2⟩))
  go_ret2
  exact ⟨_, _, rfl, Or.inl ⟨rfl, ho2.mono hb1.size⟩, bnext hb1 hb2⟩
theorem plder_is (ao : Option Addr) (la ca : Nat) (rs : List (Bool × List Int)) (m : Bool) (p : List Int) (w : World) (hp : PArg w ao la ca rs m p) (c : Int) (hc : bad1 m = c) :
  Calls Tryz.prog 29 #[.slice ao la ca] w fun e w' => NewAns w w' e c (trimL (tab (la - 1) (derF p))) := by
 have h1 := pcheck_is ao la ca rs w hp.raws (by have := hp.short; omega) (fun t => Nat.le_trans (hp.lims t) (by decide)) c (by rw [hp.may]; exact hc)
 cases m
 ·
  obtain rfl : c = 50 := hc.symm
  clear hp hc
  go_enter Tryz.func29, Tryz.ntmps29
  go_wp2_with (go_at_call 19; refine h1.mono ?_; rintro e w1 ⟨rfl, hb1⟩)
  go_ret2
  exact ⟨_, _, rfl, Or.inr ⟨rfl, rfl, rfl⟩, hb1⟩
 ·
  obtain rfl : c = 0 := hc.symm
  have h2 : ∀ W, Below w.heap.size w W → Calls Tryz.prog 59 #[.slice ao la ca] W fun e w' => NewPO W w' e (trimL (tab (la - 1) (derF p))) := fun W hb => derivative_any ao la ca 3 p W ((hp.later hb).good rfl).1 (by have := hp.short; omega) (by decide) (hp.good rfl).2.2
  clear hp hc
  go_enter Tryz.func29, Tryz.ntmps29
  go_wp2_with (first
   | (go_at_call 19; refine h1.mono ?_; rintro e w1 ⟨rfl, hb1⟩)
   | (go_at_call 59; refine (h2 _ hb1).mono ?_; rintro e w2 ⟨ao2, l2, rfl, ho2, hb2⟩))
  go_ret2
  exact ⟨_, _, rfl, Or.inl ⟨rfl, ho2.mono hb1.size⟩, bnext hb1 hb2⟩
theorem plscale_is (ao : Option Addr) (la ca : Nat) (rs : List (Bool × List Int)) (m k : Bool) (p : List Int) (n : Bool) (co : Option Addr) (lc cc : Nat) (zs : List Int) (v : Int) (w : World) (hp : PArg w ao la ca rs m p) (hz : RowAt w .u64 co lc cc zs) (hlc : lc ≤ 3) (hk : mayB n zs = k) (hv : k = true → IntAt w n co lc cc v) (c : Int) (hc : bad1 (m && k) = c) :
  Calls Tryz.prog 30 #[.slice ao la ca, .agg #[.bool n, .slice co lc cc]] w fun e w' => NewAns w w' e c (trimL (tab la fun i => dig p i * v)) := by
 obtain ⟨W, hW⟩ : ∃ W, W = w.alloc (.cells #[.bool n, .slice co lc cc] 28) := ⟨_, rfl⟩
 have HW : Hid (Below w.heap.size w W ∧ Boxed W w.heap.size n co lc cc ∧ w.heap.size < W.heap.size) := by rw [hW]; exact ⟨(Below.refl _ _).alloc (Nat.le_refl _) _, ⟨by simp [go_sem], by simp [go_sem]⟩, by simp⟩
 have h1 : ∀ d, bad1 m = d → Calls Tryz.prog 19 #[.slice ao la ca] W fun e w' => e = .returned (.int .i64 d) ∧ Below W.heap.size W w' := fun d hd => pcheck_is ao la ca rs W (hp.later HW.out.1).raws (by have := hp.short; omega) (fun t => Nat.le_trans (hp.lims t) (by decide)) d (by rw [hp.may]; exact hd)
 have h2 : ∀ W1 d, Below W.heap.size W W1 → (if k then 0 else 10 : Int) = d → Calls Tryz.prog 46 #[.agg #[.bool n, .slice co lc cc]] W1 fun e w' => e = .returned (.int .i64 d) ∧ Below W1.heap.size W1 w' := fun W1 d hb hd => check_at n co lc cc zs W1 ((hz.later HW.out.1).later hb) (by omega) d (by rw [hk]; exact hd)
 have HQ : Hid (∀ W1, Below W.heap.size W W1 → W1.cell? ⟨w.heap.size, 0, none⟩ = some (.bool n) ∧ W1.cell? ⟨w.heap.size, 1, none⟩ = some (.slice co lc cc)) := fun W1 hb => HW.out.2.1.later hb HW.out.2.2
 cases m
 ·
  replace h1 := h1 50 rfl
  obtain rfl : c = 50 := hc.symm
  clear hp hz hk hv hc h2
  go_enter Tryz.func30, Tryz.ntmps30
  go_wp2_with (go_at_call 19; rw [← hW]; clear hW; refine h1.mono ?_; rintro e w1 ⟨rfl, hb1⟩)
  go_ret2
  exact ⟨_, _, rfl, Or.inr ⟨rfl, rfl, rfl⟩, bnext HW.out.1 hb1⟩
 ·
  replace h1 := h1 0 rfl
  cases k
  ·
   replace h2 : ∀ W1, Below W.heap.size W W1 → Calls Tryz.prog 46 #[.agg #[.bool n, .slice co lc cc]] W1 fun e w' => e = .returned (.int .i64 10) ∧ Below W1.heap.size W1 w' := fun W1 hb => h2 W1 10 hb rfl
   obtain rfl : c = 50 := hc.symm
   clear hp hz hk hv hc
   go_enter Tryz.func30, Tryz.ntmps30
   go_wp2_with (first
    | (go_at_call 19; rw [← hW]; clear hW; refine h1.mono ?_; rintro e w1 ⟨rfl, hb1⟩; obtain ⟨q0, q1⟩ := HQ.out _ hb1)
    | (go_at_call 46; refine (h2 _ hb1).mono ?_; rintro e w2 ⟨rfl, hb2⟩))
   go_ret2
   exact ⟨_, _, rfl, Or.inr ⟨rfl, rfl, rfl⟩, bnext HW.out.1 (bnext hb1 hb2)⟩
  ·
   replace h2 : ∀ W1, Below W.heap.size W W1 → Calls Tryz.prog 46 #[.agg #[.bool n, .slice co lc cc]] W1 fun e w' => e = .returned (.int .i64 0) ∧ Below W1.heap.size W1 w' := fun W1 hb => h2 W1 0 hb rfl
   obtain rfl : c = 0 := hc.symm
   have h3 : ∀ W1, Below W.heap.size W W1 → Calls Tryz.prog 60 #[.slice ao la ca, .agg #[.bool n, .slice co lc cc]] W1 fun e w' => NewPO W1 w' e (trimL (tab la fun i => dig p i * v)) := fun W1 hb => scaled_any ao la ca 3 p n co lc cc v W1 (((hp.later HW.out.1).later hb).good rfl).1 (((hv rfl).later HW.out.1).later hb) (by have := hp.short; omega) (by decide) (hp.good rfl).2.2 (by omega)
   clear hp hz hk hv hc
   go_enter Tryz.func30, Tryz.ntmps30
   go_wp2_with (first
    | (go_at_call 19; rw [← hW]; clear hW; refine h1.mono ?_; rintro e w1 ⟨rfl, hb1⟩; obtain ⟨q0, q1⟩ := HQ.out _ hb1)
    | (go_at_call 46; refine (h2 _ hb1).mono ?_; rintro e w2 ⟨rfl, hb2⟩; clear q0 q1; obtain ⟨q0, q1⟩ := HQ.out _ (bnext hb1 hb2))
    | (go_at_call 60; refine (h3 _ (bnext hb1 hb2)).mono ?_; rintro e w3 ⟨ao3, l3, rfl, ho3, hb3⟩))
   go_ret2
   exact ⟨_, _, rfl, Or.inl ⟨rfl, ho3.mono (Nat.le_trans HW.out.1.size (bnext hb1 hb2).size)⟩, bnext HW.out.1 (bnext (bnext hb1 hb2) hb3)⟩
theorem pldeg_is (ao : Option Addr) (la ca : Nat) (rs : List (Bool × List Int)) (m : Bool) (p : List Int) (w : World) (hp : PArg w ao la ca rs m p) (c : Int) (hc : (if m then (la : Int) - 1 else -1) = c) :
  Calls Tryz.prog 20 #[.slice ao la ca] w fun e w' => e = .returned (.int .i64 c) ∧ Below w.heap.size w w' := by
 have h1 : ∀ d, bad1 m = d → Calls Tryz.prog 19 #[.slice ao la ca] w fun e w' => e = .returned (.int .i64 d) ∧ Below w.heap.size w w' := fun d hd => pcheck_is ao la ca rs w hp.raws (by have := hp.short; omega) (fun t => Nat.le_trans (hp.lims t) (by decide)) d (by rw [hp.may]; exact hd)
 have hs := hp.short
 clear hp
 cases m
 ·
  replace h1 := h1 50 rfl
  obtain rfl : c = -1 := hc.symm
  clear hc
  go_enter Tryz.func20, Tryz.ntmps20
  go_wp2_with (go_at_call 19; refine h1.mono ?_; rintro e w1 ⟨rfl, hb1⟩)
  go_ret
  exact ⟨rfl, hb1⟩
 ·
  replace h1 := h1 0 rfl
  have HC : Hid ((la : Int) - 1 = c) := hc
  clear hc
  go_enter Tryz.func20, Tryz.ntmps20
  go_wp2_with (go_at_call 19; refine h1.mono ?_; rintro e w1 ⟨rfl, hb1⟩)
  go_ret
  exact ⟨by rw [← HC.out]; go_num, hb1⟩
theorem plclone_any (n : Bool) (ao : Option Addr) (l c : Nat) (v : Int) (w : World) (hx : IntAt w n ao l c v) (hl : l ≤ 100000) :
  Calls Tryz.prog 48 #[.agg #[.bool n, .slice ao l c]] w fun e w' => RefInt w w' e v := by
 obtain ⟨W, hT⟩ := One2.mk' w n ao l c
 have HX : Hid (IntAt W n ao l c v) := hx.later hT.below
 have HT : Hid (W.heap.size = w.heap.size + 2 ∧ Fresh W (w.heap.size + 1)) := ⟨hT.size, hT.r⟩
 have hbW := hT.below
 have KS : Hid (∀ w', Below W.heap.size W w' → w'.cell? ⟨w.heap.size, 0, none⟩ = some (.bool n) ∧ w'.cell? ⟨w.heap.size, 1, none⟩ = some (.slice ao l c)) := fun w' hb => hT.a.later hb (by have := hT.size; omega)
 have HL : Hid (l = lim v) := hx.lim
 clear hx
 by_cases hz : l = 0
 ·
  have hcz : ∀ W', Calls Tryz.prog 45 #[.agg #[.bool n, .slice ao l c]] W' fun e w' => e = .returned (.bool true) ∧ Below W'.heap.size W' w' := fun W' => isZero_any n ao l c W' true (by simp; omega)
  have HZ : Hid (v = 0) := zero_of_lim (by rw [← HL.out]; exact hz)
  clear hz
  go_enter Tryz.func48, Tryz.ntmps48
  go_wp2_with (go_at_call 45; rw [← hT.eq]; refine (hcz _).mono ?_; rintro e w1 ⟨rfl, hb1⟩; obtain ⟨g5, g3, g4⟩ := (HT.out.2.later hb1 (by have := HT.out.1; omega)))
  exact bodyPost_ret (v := .agg #[.bool false, .slice none 0 0]) (by simp [results, Tryz.results48, go_sem, g3, g4]) rfl
   ⟨_, _, _, _, rfl, by rw [HZ.out]; exact ⟨rfl, RowAt.nilRow _ _⟩, below_store (bnext hbW hb1) (by omega) _ _⟩
 ·
  have hcz : ∀ W', Calls Tryz.prog 45 #[.agg #[.bool n, .slice ao l c]] W' fun e w' => e = .returned (.bool false) ∧ Below W'.heap.size W' w' := fun W' => isZero_any n ao l c W' false (by simp; omega)
  go_enter Tryz.func48, Tryz.ntmps48
  go_wp2_with (go_at_call 45; rw [← hT.eq]; clear hT; refine (hcz _).mono ?_; rintro e w1 ⟨rfl, hb1⟩)
  refine wp_region_noPanic ?_
  refine wp_region_held_drew (S := fun w' => (w'.cell? ⟨w.heap.size, 0, none⟩ = some (.bool n) ∧ w'.cell? ⟨w.heap.size, 1, none⟩ = some (.slice ao l c))) (by kernel_rfl) (by (try dsimp only); exact KS.out _ hb1.drew) (fun hHeld => ?_)
  refine wpAnyH_take (i := 0) (oi := Oper.mk (some 6) _ _ _ _ _) (v := ?_) rfl (by decide +kernel) (by decide +kernel) (by decide +kernel) (fun _ _ _ h => h) (Or.inl ⟨by rfl, ?_⟩) (by assumption) ?_
  rotate_left
  ·
   (intro w hSw; (try dsimp only at hSw); go_simp <;> (try with_reducible rfl))
  (try simp only [Act.put, List.setIfInBounds_toArray, List.set_cons_zero, List.set_cons_succ])
  refine wpAnyH_take (i := 1) (oi := Oper.mk (some 7) _ _ _ _ _) (v := ?_) rfl (by decide +kernel) (by decide +kernel) (by decide +kernel) (fun _ _ _ h => h) (Or.inl ⟨by rfl, ?_⟩) (by assumption) ?_
  rotate_left
  ·
   (intro w hSw; (try dsimp only at hSw); go_simp <;> (try with_reducible rfl))
  (try simp only [Act.put, List.setIfInBounds_toArray, List.set_cons_zero, List.set_cons_succ])
  refine wpAnyH_take (i := 2) (oi := Oper.mk (some 8) _ _ _ _ _) (v := ?_) rfl (by decide +kernel) (by decide +kernel) (by decide +kernel) (fun _ _ _ h => h) (Or.inl ⟨by rfl, ?_⟩) (by assumption) ?_
  rotate_left
  ·
   (intro w hSw; (try dsimp only at hSw); go_simp <;> (try with_reducible rfl))
  (try simp only [Act.put, List.setIfInBounds_toArray, List.set_cons_zero, List.set_cons_succ])
  refine wpAnyH_take (i := 3) (oi := Oper.mk (some 9) _ _ _ _ _) (v := ?_) rfl (by decide +kernel) (by decide +kernel) (by decide +kernel) (fun _ _ _ h => h) (Or.inl ⟨by rfl, ?_⟩) (by assumption) ?_
  rotate_left
  ·
   (intro w hSw; (try dsimp only at hSw); go_simp <;> (try with_reducible rfl))
  (try simp only [Act.put, List.setIfInBounds_toArray, List.set_cons_zero, List.set_cons_succ])
  refine wpAnyH_ready (rs := [4]) (by decide +kernel) (by simp) ?_
  refine AllReadyH.cons (o := Oper.mk (some 10) _ _ _ _ _) rfl (fun K hK => ?_) AllReadyH.nil
  go_simp
  (go_at_call 73; refine (clone_row ao l c (mag v.natAbs) _ ((HX.out.later hb1).later (Below.refl _ _).drew).row (by omega) (by omega)).mono ?_; rintro e w2 ⟨ao2, l2, c2, rfl, ho2, hb2'⟩; have hb2 : Below w1.heap.size w1 w2 := bnext (Below.refl _ _).drew hb2'; have H2 : Hid (IntAt w2 n ao2 l2 c2 v) := ⟨HX.out.sg, ho2.row⟩; clear ho2 hb2'; obtain ⟨g5, g3, g4⟩ := (HT.out.2.later (bnext hb1 hb2) (by have := HT.out.1; omega)))
  (try go_wp2_with fail)
  clear hHeld
  refine hK.out _ _ (by (try dsimp only); exact KS.out _ (bnext hb1 hb2)) (fun hHeld => ?_)
  clear hK K
  (try simp only [Act.put, List.setIfInBounds_toArray, List.set_cons_zero, List.set_cons_succ])
  refine wpAnyH_take (i := 5) (oi := Oper.mk (some 11) _ _ _ _ _) (v := ?_) rfl (by decide +kernel) (by decide +kernel) (by decide +kernel) (fun _ _ _ h => h) (Or.inl ⟨by rfl, ?_⟩) (by assumption) ?_
  rotate_left
  ·
   (intro w hSw; (try dsimp only at hSw); go_simp <;> (try with_reducible rfl))
  (try simp only [Act.put, List.setIfInBounds_toArray, List.set_cons_zero, List.set_cons_succ])
  refine wpAnyH_ready (rs := [6]) (by decide +kernel) (by simp) ?_
  refine AllReadyH.cons (o := Oper.mk none _ _ _ _ _) rfl (fun K hK => ?_) AllReadyH.nil
  go_simp
  clear hHeld
  refine hK.out _ _ (by (try dsimp only); exact ⟨by rw [cell_off (by omega), cell_off (by omega)]; exact (KS.out _ (bnext hb1 hb2)).1, by rw [cell_off (by omega), cell_off (by omega)]; exact (KS.out _ (bnext hb1 hb2)).2⟩) (fun hHeld => ?_)
  clear hK K
  (try simp only [Act.put, List.setIfInBounds_toArray, List.set_cons_zero, List.set_cons_succ])
  refine wpAnyH_done (by decide +kernel) ?_ _
  refine NoPanic.normal ?_
  go_wp2
  exact bodyPost_ret (v := .agg #[.bool n, .slice ao2 l2 c2]) (by simp [results, Tryz.results48, go_sem, g3, g4]) rfl
   ⟨_, _, _, _, rfl, ⟨H2.out.sg, H2.out.row.kept ⟨g5, g3, g4⟩ _ _⟩, below_store (bnext hbW (bnext hb1 hb2)) (by omega) _ _⟩
theorem pllead0_any (ao : Option Addr) (k cap : Nat) (p : List Int) (w : World) (hp : PolyAt w ao (k + 1) cap p) (hl : k ≤ 1000) :
  Calls Tryz.prog 49 #[.slice ao (k + 1) cap] w fun e w' => RefInt w w' e (dig p k) := by
 have hbW : Below w.heap.size w (w.alloc (.cells #[.bool false, .slice none 0 0] 28)) := (Below.refl _ _).alloc (Nat.le_refl _) _
 obtain ⟨b, off, n1, ao1, l1, c1, rfl, h0', h1', hi⟩ := hp.at (show k < k + 1 by omega)
 have h0 := (hbW.cell (p := ⟨b, off + k * 2, none⟩) (cell_lt h0')).trans h0'
 have h1 := (hbW.cell (p := ⟨b, off + k * 2 + 1, none⟩) (cell_lt h1')).trans h1'
 have hki : ((k + 1 : Nat) : Int) - 1 = (k : Int) := by omega
 have hk1 : (k : Int) < ((k + 1 : Nat) : Int) := by omega
 have hk2 : (0 : Int) ≤ (k : Int) := by omega
 have HI : Hid (IntAt w n1 ao1 l1 c1 (dig p k)) := hi
 clear hp hi h0' h1'
 go_enter Tryz.func49, Tryz.ntmps49
 go_wp2
 exact bodyPost_ret (v := .agg #[.bool n1, .slice ao1 l1 c1]) (by simp [results, Tryz.results49, go_sem]) rfl
  ⟨_, _, _, _, rfl, HI.out.later ((Below.refl _ _).alloc (Nat.le_refl _) _), (Below.refl _ _).alloc (Nat.le_refl _) _⟩
theorem pllead_is (ao : Option Addr) (la ca : Nat) (rs : List (Bool × List Int)) (m : Bool) (p : List Int) (w : World) (hp : PArg w ao la ca rs m p) (v : Int) (hv : (if m then dig p (la - 1) else 0) = v) :
  Calls Tryz.prog 22 #[.slice ao la ca] w fun e w' => RefInt w w' e v := by
 obtain ⟨W, hW⟩ : ∃ W, W = w.alloc (.cells #[.bool false, .slice none 0 0] 28) := ⟨_, rfl⟩
 have HW : Hid (Below w.heap.size w W ∧ Fresh W w.heap.size ∧ w.heap.size < W.heap.size) := by rw [hW]; exact ⟨(Below.refl _ _).alloc (Nat.le_refl _) _, Fresh.new w, by simp⟩
 have h1 : ∀ d, bad1 m = d → Calls Tryz.prog 19 #[.slice ao la ca] W fun e w' => e = .returned (.int .i64 d) ∧ Below W.heap.size W w' := fun d hd => pcheck_is ao la ca rs W (hp.later HW.out.1).raws (by have := hp.short; omega) (fun t => Nat.le_trans (hp.lims t) (by decide)) d (by rw [hp.may]; exact hd)
 have hs := hp.short
 cases m
 ·
  replace h1 := h1 50 rfl
  obtain rfl : v = 0 := hv.symm
  clear hp hv
  go_enter Tryz.func22, Tryz.ntmps22
  go_wp2_with (go_at_call 19; rw [← hW]; clear hW; refine h1.mono ?_; rintro e w1 ⟨rfl, hb1⟩; obtain ⟨g5, g3, g4⟩ := HW.out.2.1.later hb1 HW.out.2.2)
  exact bodyPost_ret (v := .agg #[.bool false, .slice none 0 0]) (by simp [results, Tryz.results22, go_sem, g3, g4]) rfl
   ⟨_, _, _, _, rfl, ⟨rfl, RowAt.nilRow _ _⟩, below_store (bnext HW.out.1 hb1) (Nat.le_refl _) _ _⟩
 ·
  replace h1 := h1 0 rfl
  obtain ⟨hg, hL, hM⟩ := hp.good rfl
  by_cases h0 : la = 0
  ·
   subst h0
   have HV : Hid (v = 0) := by show v = 0; rw [← hv, if_pos rfl, dig_past (by rw [← hg.hlen]; omega)]
   clear hp hv hg hL hM
   go_enter Tryz.func22, Tryz.ntmps22
   go_wp2_with (go_at_call 19; rw [← hW]; clear hW; refine h1.mono ?_; rintro e w1 ⟨rfl, hb1⟩; obtain ⟨g5, g3, g4⟩ := HW.out.2.1.later hb1 HW.out.2.2)
   exact bodyPost_ret (v := .agg #[.bool false, .slice none 0 0]) (by simp [results, Tryz.results22, go_sem, g3, g4]) rfl
    ⟨_, _, _, _, rfl, by rw [HV.out]; exact ⟨rfl, RowAt.nilRow _ _⟩, below_store (bnext HW.out.1 hb1) (Nat.le_refl _) _ _⟩
  ·
   obtain ⟨k, rfl⟩ : ∃ k, la = k + 1 := ⟨la - 1, by omega⟩
   have hn : (((k + 1 : Nat) : Int) == 0) = false := by simp; omega
   have HV : Hid (v = dig p k) := by show v = _; rw [← hv, if_pos rfl]; rfl
   have h2 : ∀ W1, Below W.heap.size W W1 → Calls Tryz.prog 49 #[.slice ao (k + 1) ca] W1 fun e w' => RefInt W1 w' e (dig p k) := fun W1 hb => pllead0_any ao k ca p W1 ((hg.later HW.out.1).later hb) (by omega)
   have HM : Hid (lim (dig p k) ≤ 3) := hM k
   clear hp hv hg hL hM h0
   go_enter Tryz.func22, Tryz.ntmps22
   go_wp2_with (first
    | (go_at_call 19; rw [← hW]; clear hW; refine h1.mono ?_; rintro e w1 ⟨rfl, hb1⟩)
    | (go_at_call 49; refine (h2 _ hb1).mono ?_; rintro e w2 ⟨n2, ao2, l2, c2, rfl, hi2, hb2⟩; have H2 : Hid (IntAt w2 n2 ao2 l2 c2 (dig p k)) := hi2; have hl2 : l2 ≤ 100000 := (by rw [hi2.lim]; exact Nat.le_trans HM.out (by decide)); clear hi2)
    | (go_at_call 48; refine (plclone_any n2 ao2 l2 c2 (dig p k) _ H2.out hl2).mono ?_; rintro e w3 ⟨n3, ao3, l3, c3, rfl, hi3, hb3⟩; have H3 : Hid (IntAt w3 n3 ao3 l3 c3 (dig p k)) := hi3; clear hi3; obtain ⟨g5, g3, g4⟩ := HW.out.2.1.later (bnext hb1 (bnext hb2 hb3)) HW.out.2.2))
   exact bodyPost_ret (v := .agg #[.bool n3, .slice ao3 l3 c3]) (by simp [results, Tryz.results22, go_sem, g3, g4]) rfl
    ⟨_, _, _, _, rfl, by rw [HV.out]; exact ⟨H3.out.sg, H3.out.row.kept ⟨g5, g3, g4⟩ _ _⟩, below_store (bnext HW.out.1 (bnext hb1 (bnext hb2 hb3))) (Nat.le_refl _) _ _⟩
theorem isNaNp_any (n : Int) (w : World) : Calls Tryz.prog 74 #[.int .i64 n] w fun e w' => e = .returned (.bool false) ∧ w' = w := by
 go_enter Tryz.func74, Tryz.ntmps74
 go_wp2
 go_ret
 exact ⟨by simp, rfl⟩
theorem compareIntp_any (s t : Int) (w : World) (c : Int) (hc : cmpI s t = c) : Calls Tryz.prog 51 #[.int .i64 s, .int .i64 t] w fun e w' => e = .returned (.int .i64 c) ∧ w' = w := by
 rcases Int.lt_trichotomy s t with h | h | h
 ·
  obtain rfl : c = -1 := by rw [← hc]; unfold cmpI; rw [if_pos h]
  clear hc
  go_enter Tryz.func51, Tryz.ntmps51
  go_wp2_with (go_at_call 74; refine (isNaNp_any _ _).mono ?_; rintro e x ⟨rfl, hx⟩; replace hx := hx.symm; subst hx)
  go_ret
  exact ⟨rfl, rfl⟩
 ·
  subst h
  obtain rfl : c = 0 := by rw [← hc]; unfold cmpI; rw [if_neg (by omega), if_neg (by omega)]
  clear hc
  go_enter Tryz.func51, Tryz.ntmps51
  go_wp2_with (go_at_call 74; refine (isNaNp_any _ _).mono ?_; rintro e x ⟨rfl, hx⟩; replace hx := hx.symm; subst hx)
  go_ret
  exact ⟨rfl, rfl⟩
 ·
  have h1 : ¬ s < t := by omega
  obtain rfl : c = 1 := by rw [← hc]; unfold cmpI; rw [if_neg h1, if_pos h]
  clear hc
  go_enter Tryz.func51, Tryz.ntmps51
  go_wp2_with (go_at_call 74; refine (isNaNp_any _ _).mono ?_; rintro e x ⟨rfl, hx⟩; replace hx := hx.symm; subst hx)
  go_ret
  exact ⟨rfl, rfl⟩
theorem plcmp_is (ao bo : Option Addr) (la ca lb cb : Nat) (rs ts : List (Bool × List Int)) (m k : Bool) (p s : List Int) (w : World) (hp : PArg w ao la ca rs m p) (hs : PArg w bo lb cb ts k s) (v : Int) (hv : (if m && k then cmpP p s else 0) = v) :
  Calls Tryz.prog 23 #[.slice ao la ca, .slice bo lb cb] w fun e w' => e = .returned (.int .i64 v) ∧ Below w.heap.size w w' := by
 have h1 : ∀ c, bad1 (m && k) = c → Calls Tryz.prog 50 #[.slice ao la ca, .slice bo lb cb] w fun e w' => e = .returned (.int .i64 c) ∧ Below w.heap.size w w' := fun c hc => pchecks_is ao bo la ca lb cb rs ts m k p s w hp hs c hc
 cases hmk : (m && k)
 ·
  replace h1 := h1 50 (by rw [hmk]; rfl)
  obtain rfl : v = 0 := by rw [← hv, hmk]; rfl
  clear hp hs hv hmk
  go_enter Tryz.func23, Tryz.ntmps23
  go_wp2_with (go_at_call 50; refine h1.mono ?_; rintro e w1 ⟨rfl, hb1⟩)
  go_ret
  exact ⟨rfl, hb1⟩
 replace h1 := h1 0 (by rw [hmk]; rfl)
 rw [hmk, if_pos rfl] at hv
 obtain ⟨rfl, rfl⟩ : m = true ∧ k = true := by simpa using hmk
 have e1 := (hp.good rfl).1.hlen
 have e2 := (hs.good rfl).1.hlen
 unfold cmpP at hv
 rw [← e1, ← e2] at hv
 have sa := hp.short
 have sb := hs.short
 by_cases he : la = lb
 ·
  subst he
  rw [if_pos rfl] at hv
  have HR : Hid (PolyAt w ao la ca p ∧ PolyAt w bo la cb s ∧ Lim 3 p ∧ Lim 3 s ∧ 3 ≤ 100000) := ⟨(hp.good rfl).1, (hs.good rfl).1, (hp.good rfl).2.2, (hs.good rfl).2.2, by decide⟩
  have HV : Hid (v = cmpD p s la) := hv.symm
  clear hp hs hv hmk e1 e2
  go_enter Tryz.func23, Tryz.ntmps23
  go_wp2_with (go_at_call 50; refine h1.mono ?_; rintro e w0 ⟨rfl, hb0⟩)
  go_loopw [5] (fun i wr => ∃ k : Nat, k ≤ la ∧ i = .int .i64 ((k : Int) - 1) ∧ Below w.heap.size w wr ∧ cmpD p s k = cmpD p s la) (fun i _ => (intOf i + 1).toNat)
  case atStart => exact ⟨la, Nat.le_refl _, rfl, hb0, rfl⟩
  case round =>
   obtain ⟨k, hk, rfl, hbel, hst⟩ := hrel
   have HS : Hid (cmpD p s k = cmpD p s la) := hst
   clear hst
   by_cases hk0 : k = 0
   ·
    subst hk0
    go_wp2
    go_ret
    exact ⟨by rw [HV.out, ← HS.out]; rfl, hbel⟩
   ·
    obtain ⟨j, rfl⟩ : ∃ j, k = j + 1 := ⟨k - 1, by omega⟩
    have hki : ((j + 1 : Nat) : Int) - 1 = (j : Int) := by omega
    rw [hki]
    have HAT := HR.out.1.at (show j < la by omega)
    have HBT := HR.out.2.1.at (show j < la by omega)
    obtain ⟨b, off, n1, ao1, l1, c1, rfl, f0', f1', hi1⟩ := HAT
    obtain ⟨b', off', n2, ao2, l2, c2, rfl, g0', g1', hi2⟩ := HBT
    have KS : Hid (∀ w', Below w.heap.size w w' → w'.cell? ⟨b, off + j * 2, none⟩ = some (.bool n1) ∧ w'.cell? ⟨b, off + j * 2 + 1, none⟩ = some (.slice ao1 l1 c1) ∧ w'.cell? ⟨b', off' + j * 2, none⟩ = some (.bool n2) ∧ w'.cell? ⟨b', off' + j * 2 + 1, none⟩ = some (.slice ao2 l2 c2)) := fun w' hb => ⟨(hb.cell (p := ⟨b, off + j * 2, none⟩) (cell_lt f0')).trans f0', (hb.cell (p := ⟨b, off + j * 2 + 1, none⟩) (cell_lt f1')).trans f1', (hb.cell (p := ⟨b', off' + j * 2, none⟩) (cell_lt g0')).trans g0', (hb.cell (p := ⟨b', off' + j * 2 + 1, none⟩) (cell_lt g1')).trans g1'⟩
    have HI : Hid (IntAt wr n1 ao1 l1 c1 (dig p j) ∧ IntAt wr n2 ao2 l2 c2 (dig s j)) := ⟨hi1.later hbel, hi2.later hbel⟩
    have hl1 : l1 ≤ 100000 := by rw [hi1.lim]; exact Nat.le_trans (HR.out.2.2.1 j) HR.out.2.2.2.2
    have hl2 : l2 ≤ 100000 := by rw [hi2.lim]; exact Nat.le_trans (HR.out.2.2.2.1 j) HR.out.2.2.2.2
    have z0 : (0 : Int) ≤ (j : Int) := by omega
    have z1 : (j : Int) < (la : Int) := by omega
    obtain ⟨c, hc⟩ : ∃ c, cmpI (dig p j) (dig s j) = c := ⟨_, rfl⟩
    have HC : Hid (cmpI (dig p j) (dig s j) = c) := hc
    clear hi1 hi2 f0' f1' g0' g1' hk0 hki hc
    by_cases hc0 : c = 0
    ·
     subst hc0
     go_wp2
     refine wp_region_noPanic ?_
     refine wp_region_held_drew (S := fun w' => (w'.cell? ⟨b, off + j * 2, none⟩ = some (.bool n1) ∧ w'.cell? ⟨b, off + j * 2 + 1, none⟩ = some (.slice ao1 l1 c1) ∧ w'.cell? ⟨b', off' + j * 2, none⟩ = some (.bool n2) ∧ w'.cell? ⟨b', off' + j * 2 + 1, none⟩ = some (.slice ao2 l2 c2))) (by kernel_rfl) (by (try dsimp only); exact KS.out _ hbel.drew) (fun hHeld => ?_)
     refine wpAnyH_take (i := 0) (oi := Oper.mk (some 28) _ _ _ _ _) (v := ?_) rfl (by decide +kernel) (by decide +kernel) (by decide +kernel) (fun _ _ _ h => h) (Or.inl ⟨by rfl, ?_⟩) (by assumption) ?_
     rotate_left
     ·
      (intro w hSw; (try dsimp only at hSw); go_simp <;> (try with_reducible rfl))
     (try simp only [Act.put, List.setIfInBounds_toArray, List.set_cons_zero, List.set_cons_succ])
     refine wpAnyH_take (i := 1) (oi := Oper.mk (some 29) _ _ _ _ _) (v := ?_) rfl (by decide +kernel) (by decide +kernel) (by decide +kernel) (fun _ _ _ h => h) (Or.inl ⟨by rfl, ?_⟩) (by assumption) ?_
     rotate_left
     ·
      (intro w hSw; (try dsimp only at hSw); go_simp <;> (try with_reducible rfl))
     (try simp only [Act.put, List.setIfInBounds_toArray, List.set_cons_zero, List.set_cons_succ])
     refine wpAnyH_take (i := 2) (oi := Oper.mk (some 30) _ _ _ _ _) (v := ?_) rfl (by decide +kernel) (by decide +kernel) (by decide +kernel) (fun _ _ _ h => h) (Or.inl ⟨by rfl, ?_⟩) (by assumption) ?_
     rotate_left
     ·
      (intro w hSw; (try dsimp only at hSw); go_simp <;> (try with_reducible rfl))
     (try simp only [Act.put, List.setIfInBounds_toArray, List.set_cons_zero, List.set_cons_succ])
     refine wpAnyH_take (i := 3) (oi := Oper.mk (some 31) _ _ _ _ _) (v := ?_) rfl (by decide +kernel) (by decide +kernel) (by decide +kernel) (fun _ _ _ h => h) (Or.inl ⟨by rfl, ?_⟩) (by assumption) ?_
     rotate_left
     ·
      (intro w hSw; (try dsimp only at hSw); go_simp <;> (try with_reducible rfl))
     (try simp only [Act.put, List.setIfInBounds_toArray, List.set_cons_zero, List.set_cons_succ])
     refine wpAnyH_take (i := 4) (oi := Oper.mk (some 32) _ _ _ _ _) (v := ?_) rfl (by decide +kernel) (by decide +kernel) (by decide +kernel) (fun _ _ _ h => h) (Or.inl ⟨by rfl, ?_⟩) (by assumption) ?_
     rotate_left
     ·
      (intro w hSw; (try dsimp only at hSw); go_simp <;> (try with_reducible rfl))
     (try simp only [Act.put, List.setIfInBounds_toArray, List.set_cons_zero, List.set_cons_succ])
     refine wpAnyH_take (i := 5) (oi := Oper.mk (some 33) _ _ _ _ _) (v := ?_) rfl (by decide +kernel) (by decide +kernel) (by decide +kernel) (fun _ _ _ h => h) (Or.inl ⟨by rfl, ?_⟩) (by assumption) ?_
     rotate_left
     ·
      (intro w hSw; (try dsimp only at hSw); go_simp <;> (try with_reducible rfl))
     (try simp only [Act.put, List.setIfInBounds_toArray, List.set_cons_zero, List.set_cons_succ])
     refine wpAnyH_take (i := 6) (oi := Oper.mk (some 34) _ _ _ _ _) (v := ?_) rfl (by decide +kernel) (by decide +kernel) (by decide +kernel) (fun _ _ _ h => h) (Or.inl ⟨by rfl, ?_⟩) (by assumption) ?_
     rotate_left
     ·
      (intro w hSw; (try dsimp only at hSw); go_simp <;> (try with_reducible rfl))
     (try simp only [Act.put, List.setIfInBounds_toArray, List.set_cons_zero, List.set_cons_succ])
     refine wpAnyH_take (i := 7) (oi := Oper.mk (some 35) _ _ _ _ _) (v := ?_) rfl (by decide +kernel) (by decide +kernel) (by decide +kernel) (fun _ _ _ h => h) (Or.inl ⟨by rfl, ?_⟩) (by assumption) ?_
     rotate_left
     ·
      (intro w hSw; (try dsimp only at hSw); go_simp <;> (try with_reducible rfl))
     (try simp only [Act.put, List.setIfInBounds_toArray, List.set_cons_zero, List.set_cons_succ])
     refine wpAnyH_ready (rs := [8]) (by decide +kernel) (by simp) ?_
     refine AllReadyH.cons (o := Oper.mk (some 36) _ _ _ _ _) rfl (fun K hK => ?_) AllReadyH.nil
     go_simp
     (go_at_call 52; refine (bcmp_any n1 n2 ao1 ao2 l1 c1 l2 c2 (dig p j) (dig s j) _ (HI.out.1.later (Below.refl _ _).drew) (HI.out.2.later (Below.refl _ _).drew) (by omega) (by omega) 0 HC.out).mono ?_; rintro e w1 ⟨rfl, hb1'⟩; have hb1 : Below wr.heap.size wr w1 := bnext (Below.refl _ _).drew hb1'; clear hb1')
     (try go_wp2_with fail)
     clear hHeld
     refine hK.out _ _ (by (try dsimp only); exact KS.out _ (bnext hbel hb1)) (fun hHeld => ?_)
     clear hK K
     (try simp only [Act.put, List.setIfInBounds_toArray, List.set_cons_zero, List.set_cons_succ])
     refine wpAnyH_take (i := 9) (oi := Oper.mk (some 6) _ _ _ _ _) (v := ?_) rfl (by decide +kernel) (by decide +kernel) (by decide +kernel) (fun _ _ _ h => h) (Or.inl ⟨by rfl, ?_⟩) (by assumption) ?_
     rotate_left
     ·
      (intro w hSw; (try dsimp only at hSw); go_simp <;> (try with_reducible rfl))
     (try simp only [Act.put, List.setIfInBounds_toArray, List.set_cons_zero, List.set_cons_succ])
     refine wpAnyH_done (by decide +kernel) ?_ _
     refine NoPanic.normal ?_
     go_wp2
     go_roundw
     case rel => exact ⟨j, by omega, by go_num, bnext hbel hb1, by rw [← HS.out]; simp [cmpD, HC.out]⟩
     case measure => simp [intOf]
    ·
     have hc1 : (c != 0) = true := by simpa using hc0
     have HCV : Hid (c = v) := by show c = v; rw [HV.out, ← HS.out]; simp only [cmpD, HC.out, if_neg hc0]
     clear hc0
     go_wp2
     refine wp_region_noPanic ?_
     refine wp_region_held_drew (S := fun w' => (w'.cell? ⟨b, off + j * 2, none⟩ = some (.bool n1) ∧ w'.cell? ⟨b, off + j * 2 + 1, none⟩ = some (.slice ao1 l1 c1) ∧ w'.cell? ⟨b', off' + j * 2, none⟩ = some (.bool n2) ∧ w'.cell? ⟨b', off' + j * 2 + 1, none⟩ = some (.slice ao2 l2 c2))) (by kernel_rfl) (by (try dsimp only); exact KS.out _ hbel.drew) (fun hHeld => ?_)
     refine wpAnyH_take (i := 0) (oi := Oper.mk (some 28) _ _ _ _ _) (v := ?_) rfl (by decide +kernel) (by decide +kernel) (by decide +kernel) (fun _ _ _ h => h) (Or.inl ⟨by rfl, ?_⟩) (by assumption) ?_
     rotate_left
     ·
      (intro w hSw; (try dsimp only at hSw); go_simp <;> (try with_reducible rfl))
     (try simp only [Act.put, List.setIfInBounds_toArray, List.set_cons_zero, List.set_cons_succ])
     refine wpAnyH_take (i := 1) (oi := Oper.mk (some 29) _ _ _ _ _) (v := ?_) rfl (by decide +kernel) (by decide +kernel) (by decide +kernel) (fun _ _ _ h => h) (Or.inl ⟨by rfl, ?_⟩) (by assumption) ?_
     rotate_left
     ·
      (intro w hSw; (try dsimp only at hSw); go_simp <;> (try with_reducible rfl))
     (try simp only [Act.put, List.setIfInBounds_toArray, List.set_cons_zero, List.set_cons_succ])
     refine wpAnyH_take (i := 2) (oi := Oper.mk (some 30) _ _ _ _ _) (v := ?_) rfl (by decide +kernel) (by decide +kernel) (by decide +kernel) (fun _ _ _ h => h) (Or.inl ⟨by rfl, ?_⟩) (by assumption) ?_
     rotate_left
     ·
      (intro w hSw; (try dsimp only at hSw); go_simp <;> (try with_reducible rfl))
     (try simp only [Act.put, List.setIfInBounds_toArray, List.set_cons_zero, List.set_cons_succ])
     refine wpAnyH_take (i := 3) (oi := Oper.mk (some 31) _ _ _ _ _) (v := ?_) rfl (by decide +kernel) (by decide +kernel) (by decide +kernel) (fun _ _ _ h => h) (Or.inl ⟨by rfl, ?_⟩) (by assumption) ?_
     rotate_left
     ·
      (intro w hSw; (try dsimp only at hSw); go_simp <;> (try with_reducible rfl))
     (try simp only [Act.put, List.setIfInBounds_toArray, List.set_cons_zero, List.set_cons_succ])
     refine wpAnyH_take (i := 4) (oi := Oper.mk (some 32) _ _ _ _ _) (v := ?_) rfl (by decide +kernel) (by decide +kernel) (by decide +kernel) (fun _ _ _ h => h) (Or.inl ⟨by rfl, ?_⟩) (by assumption) ?_
     rotate_left
     ·
      (intro w hSw; (try dsimp only at hSw); go_simp <;> (try with_reducible rfl))
     (try simp only [Act.put, List.setIfInBounds_toArray, List.set_cons_zero, List.set_cons_succ])
     refine wpAnyH_take (i := 5) (oi := Oper.mk (some 33) _ _ _ _ _) (v := ?_) rfl (by decide +kernel) (by decide +kernel) (by decide +kernel) (fun _ _ _ h => h) (Or.inl ⟨by rfl, ?_⟩) (by assumption) ?_
     rotate_left
     ·
      (intro w hSw; (try dsimp only at hSw); go_simp <;> (try with_reducible rfl))
     (try simp only [Act.put, List.setIfInBounds_toArray, List.set_cons_zero, List.set_cons_succ])
     refine wpAnyH_take (i := 6) (oi := Oper.mk (some 34) _ _ _ _ _) (v := ?_) rfl (by decide +kernel) (by decide +kernel) (by decide +kernel) (fun _ _ _ h => h) (Or.inl ⟨by rfl, ?_⟩) (by assumption) ?_
     rotate_left
     ·
      (intro w hSw; (try dsimp only at hSw); go_simp <;> (try with_reducible rfl))
     (try simp only [Act.put, List.setIfInBounds_toArray, List.set_cons_zero, List.set_cons_succ])
     refine wpAnyH_take (i := 7) (oi := Oper.mk (some 35) _ _ _ _ _) (v := ?_) rfl (by decide +kernel) (by decide +kernel) (by decide +kernel) (fun _ _ _ h => h) (Or.inl ⟨by rfl, ?_⟩) (by assumption) ?_
     rotate_left
     ·
      (intro w hSw; (try dsimp only at hSw); go_simp <;> (try with_reducible rfl))
     (try simp only [Act.put, List.setIfInBounds_toArray, List.set_cons_zero, List.set_cons_succ])
     refine wpAnyH_ready (rs := [8]) (by decide +kernel) (by simp) ?_
     refine AllReadyH.cons (o := Oper.mk (some 36) _ _ _ _ _) rfl (fun K hK => ?_) AllReadyH.nil
     go_simp
     (go_at_call 52; refine (bcmp_any n1 n2 ao1 ao2 l1 c1 l2 c2 (dig p j) (dig s j) _ (HI.out.1.later (Below.refl _ _).drew) (HI.out.2.later (Below.refl _ _).drew) (by omega) (by omega) c HC.out).mono ?_; rintro e w1 ⟨rfl, hb1'⟩; have hb1 : Below wr.heap.size wr w1 := bnext (Below.refl _ _).drew hb1'; clear hb1')
     (try go_wp2_with fail)
     clear hHeld
     refine hK.out _ _ (by (try dsimp only); exact KS.out _ (bnext hbel hb1)) (fun hHeld => ?_)
     clear hK K
     (try simp only [Act.put, List.setIfInBounds_toArray, List.set_cons_zero, List.set_cons_succ])
     refine wpAnyH_take (i := 9) (oi := Oper.mk (some 6) _ _ _ _ _) (v := ?_) rfl (by decide +kernel) (by decide +kernel) (by decide +kernel) (fun _ _ _ h => h) (Or.inl ⟨by rfl, ?_⟩) (by assumption) ?_
     rotate_left
     ·
      (intro w hSw; (try dsimp only at hSw); go_simp <;> (try with_reducible rfl))
     (try simp only [Act.put, List.setIfInBounds_toArray, List.set_cons_zero, List.set_cons_succ])
     refine wpAnyH_done (by decide +kernel) ?_ _
     refine NoPanic.normal ?_
     go_wp2
     go_ret
     exact ⟨by have h : c = v := HCV.out; rw [← h]; rfl, bnext hbel hb1⟩
 ·
  rw [if_neg he] at hv
  have he1 : ((la : Int) == (lb : Int)) = false := by simp; omega
  have HC : Hid (cmpI (la : Int) (lb : Int) = v) := by
   show _ = v
   rw [← hv]
   by_cases hl : la < lb
   ·
    rw [if_pos hl, cmpI_lt (by omega)]
   ·
    rw [if_neg hl, cmpI_gt (by omega)]
  clear hp hs hv hmk e1 e2 he
  go_enter Tryz.func23, Tryz.ntmps23
  go_wp2_with (first
   | (go_at_call 50; refine h1.mono ?_; rintro e w0 ⟨rfl, hb0⟩)
   | (go_at_call 51; refine (compareIntp_any _ _ _ v HC.out).mono ?_; rintro e w1 ⟨rfl, hw1⟩; replace hw1 := hw1.symm; subst hw1))
  go_ret
  exact ⟨rfl, hb0⟩
end Go.Proofs.YtojmlcignlcbhaaGreat
