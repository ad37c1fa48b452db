/-
  A pack of walks and facts: YI, YJ, YD.
-/
import Derived.Test.YtgcahkhpbcklfaaGreatDoorPJ23
set_option maxRecDepth 100000
set_option maxHeartbeats 40000000
set_option linter.unusedVariables false
set_option linter.unusedSimpArgs false
namespace Go.Proofs.YtgcahkhpbcklfaaGreatDoor
open Go.RowKit
structure GP (w : World) (ao : Option Addr) (la ca A : Nat) (p : List Int) : Prop where
 at' : PolyAt w ao la ca p
 lead : Lead p
 lims : Lim A p
 short : la ≤ 50
 small : A ≤ 100000
theorem GP.later {w w' : World} {ao : Option Addr} {la ca A : Nat} {p : List Int} (h : GP w ao la ca A p) (hb : Below w.heap.size w w') : GP w' ao la ca A p := ⟨h.at'.later hb, h.lead, h.lims, h.short, h.small⟩
theorem GP.check {w : World} {ao : Option Addr} {la ca A : Nat} {p : List Int} (h : GP w ao la ca A p) : Calls Tryz.prog 33 #[.slice ao la ca] w fun e w' => e = .returned (.int .i64 0) ∧ Below w.heap.size w w' :=
 pcheck_ok ao la ca p w h.at' (by have := h.short; omega) h.lead (h.lims.mono (by have := h.small; omega))
theorem gchecks_any (ao bo : Option Addr) (la ca lb cb A : Nat) (p s : List Int) (w : World) (hp : GP w ao la ca A p) (hs : GP w bo lb cb A s) :
  Calls Tryz.prog 50 #[.slice ao la ca, .slice bo lb cb] w fun e w' => e = .returned (.int .i64 0) ∧ Below w.heap.size w w' := by
 have h1 := hp.check
 have h2 : ∀ W, Below w.heap.size w W → Calls Tryz.prog 33 #[.slice bo lb cb] W fun e w' => e = .returned (.int .i64 0) ∧ Below W.heap.size W w' := fun W hb => (hs.later hb).check
 clear hp hs
 go_enter Tryz.func50, Tryz.ntmps50
 go_wp2_with (first
  | (go_at_call 33; have _t := hb1; refine (h2 _ hb1).mono ?_; rintro e w2 ⟨rfl, hb2⟩)
  | (go_at_call 33; refine h1.mono ?_; rintro e w1 ⟨rfl, hb1⟩))
 go_ret
 exact ⟨rfl, bnext hb1 hb2⟩
def GAns (w w' : World) (e : Ending) (L : List Int) : Prop := ∃ ao l, e = .returned (.tuple #[.slice ao l l, .int .i64 0]) ∧ PolyAt w' ao l l L ∧ Below w.heap.size w w'
theorem gadd_any (ao bo : Option Addr) (la ca lb cb A : Nat) (p s : List Int) (w : World) (hp : GP w ao la ca A p) (hs : GP w bo lb cb A s) :
  Calls Tryz.prog 32 #[.slice ao la ca, .slice bo lb cb] w fun e w' => GAns w w' e (addP p s) := by
 have h1 := gchecks_any ao bo la ca lb cb A p s w hp hs
 have h2 : ∀ W, Below w.heap.size w W → Calls Tryz.prog 52 #[.slice ao la ca, .slice bo lb cb, .func (.func 53) #[] #[]] W fun e w' => NewPO W w' e (addP p s) := fun W hb => joined_plus ao bo la ca lb cb A (max p.length s.length) p s W (hp.later hb).at' (hs.later hb).at' (by have := hp.short; omega) (by have := hs.short; omega) hp.small hp.lims hs.lims (by rw [← hp.at'.hlen, ← hs.at'.hlen])
 clear hp hs
 go_enter Tryz.func32, Tryz.ntmps32
 go_wp2_with (first
  | (go_at_call 50; refine h1.mono ?_; rintro e w1 ⟨rfl, hb1⟩)
  | (go_at_call 52; refine (h2 _ hb1).mono ?_; rintro e w2 ⟨ao2, l2, rfl, ho2, hb2⟩))
 go_ret2
 exact ⟨_, _, rfl, ho2.poly, bnext hb1 hb2⟩
theorem gmul_any (ao bo : Option Addr) (la ca lb cb A : Nat) (p s : List Int) (w : World) (hp : GP w ao la ca A p) (hs : GP w bo lb cb A s) :
  Calls Tryz.prog 31 #[.slice ao la ca, .slice bo lb cb] w fun e w' => GAns w w' e (mulP p s) := by
 have h1 := gchecks_any ao bo la ca lb cb A p s w hp hs
 have e1 := hp.at'.hlen
 have e2 := hs.at'.hlen
 have s1 := hp.short
 have s2 := hs.short
 by_cases ha : la = 0
 ·
  subst ha
  have HZ : Hid (mulP p s = []) := by show mulP p s = []; unfold mulP; rw [if_pos (Or.inl e1.symm)]
  clear hp hs e1 e2
  go_enter Tryz.func31, Tryz.ntmps31
  go_wp2_with (go_at_call 50; refine h1.mono ?_; rintro e w1 ⟨rfl, hb1⟩)
  go_ret2
  exact ⟨_, _, rfl, by rw [HZ.out]; exact PolyAt.nilPoly _, hb1⟩
 ·
  have ha' : ((la : Int) == 0) = false := by simp; omega
  by_cases hb : lb = 0
  ·
   subst hb
   have HZ : Hid (mulP p s = []) := by show mulP p s = []; unfold mulP; rw [if_pos (Or.inr e2.symm)]
   clear hp hs e1 e2 ha
   go_enter Tryz.func31, Tryz.ntmps31
   go_wp2_with (go_at_call 50; refine h1.mono ?_; rintro e w1 ⟨rfl, hb1⟩)
   go_ret2
   exact ⟨_, _, rfl, by rw [HZ.out]; exact PolyAt.nilPoly _, hb1⟩
  ·
   have hb' : ((lb : Int) == 0) = false := by simp; omega
   have hd : ¬ ((1024 : Int) < (la : Int) + (lb : Int) - 2) := by omega
   have h2 : ∀ W, Below w.heap.size w W → Calls Tryz.prog 51 #[.slice ao la ca, .slice bo lb cb] W fun e w' => NewPO W w' e (mulP p s) := fun W hb => by
    have := product_any ao bo la ca lb cb A p s W (hp.later hb).at' (hs.later hb).at' (by omega) (by omega) (by omega) (by omega) hp.small hp.lims hs.lims
    rw [mulP_trim hp.lead hs.lead (by omega) (by omega)] at this
    exact this
   clear hp hs e1 e2 ha hb
   go_enter Tryz.func31, Tryz.ntmps31
   go_wp2_with (first
    | (go_at_call 50; refine h1.mono ?_; rintro e w1 ⟨rfl, hb1⟩)
    | (go_at_call 51; refine (h2 _ hb1).mono ?_; rintro e w2 ⟨ao2, l2, rfl, ho2, hb2⟩))
   go_ret2
   exact ⟨_, _, rfl, ho2.poly, bnext hb1 hb2⟩
theorem gder_any (ao : Option Addr) (la ca A : Nat) (p : List Int) (w : World) (hp : GP w ao la ca A p) :
  Calls Tryz.prog 16 #[.slice ao la ca] w fun e w' => GAns w w' e (derP p) := by
 have h1 := hp.check
 have h2 : ∀ W, Below w.heap.size w W → Calls Tryz.prog 43 #[.slice ao la ca] W fun e w' => NewPO W w' e (derP p) := fun W hb => by
  have := derivative_any ao la ca A p W (hp.later hb).at' (by have := hp.short; omega) hp.small hp.lims
  rw [hp.at'.hlen, show trimL (tab (p.length - 1) (derF p)) = derP p from trimL_of_lead (derP_lead hp.lead), ← hp.at'.hlen] at this
  exact this
 clear hp
 go_enter Tryz.func16, Tryz.ntmps16
 go_wp2_with (first
  | (go_at_call 33; refine h1.mono ?_; rintro e w1 ⟨rfl, hb1⟩)
  | (go_at_call 43; refine (h2 _ hb1).mono ?_; rintro e w2 ⟨ao2, l2, rfl, ho2, hb2⟩))
 go_ret2
 exact ⟨_, _, rfl, ho2.poly, bnext hb1 hb2⟩
theorem mul4_any (ao bo : Option Addr) (la ca lb cb A : Nat) (p s : List Int) (w : World) (hp : GP w ao la ca A p) (hs : GP w bo lb cb A s) :
  Calls Tryz.prog 9 #[.slice ao la ca, .slice bo lb cb] w fun e w' => ∃ ao' l, e = .returned (.slice ao' l l) ∧ PolyAt w' ao' l l (mulP p s) ∧ Below w.heap.size w w' := by
 have h1 := gmul_any ao bo la ca lb cb A p s w hp hs
 clear hp hs
 go_enter Tryz.func9, Tryz.ntmps9
 go_wp2_with (go_at_call 31; refine h1.mono ?_; rintro e w1 ⟨ao1, l1, rfl, hp1, hb1⟩; have H1 : Hid (PolyAt w1 ao1 l1 l1 (mulP p s)) := hp1; clear hp1)
 go_ret
 exact ⟨_, _, rfl, H1.out, hb1⟩
theorem add4_any (ao bo : Option Addr) (la ca lb cb A : Nat) (p s : List Int) (w : World) (hp : GP w ao la ca A p) (hs : GP w bo lb cb A s) :
  Calls Tryz.prog 10 #[.slice ao la ca, .slice bo lb cb] w fun e w' => ∃ ao' l, e = .returned (.slice ao' l l) ∧ PolyAt w' ao' l l (addP p s) ∧ Below w.heap.size w w' := by
 have h1 := gadd_any ao bo la ca lb cb A p s w hp hs
 clear hp hs
 go_enter Tryz.func10, Tryz.ntmps10
 go_wp2_with (go_at_call 32; refine h1.mono ?_; rintro e w1 ⟨ao1, l1, rfl, hp1, hb1⟩; have H1 : Hid (PolyAt w1 ao1 l1 l1 (addP p s)) := hp1; clear hp1)
 go_ret
 exact ⟨_, _, rfl, H1.out, hb1⟩
end Go.Proofs.YtgcahkhpbcklfaaGreatDoor
namespace Go.Proofs.YtgcahkhpbcklfaaGreatDoor
open Go.RowKit
theorem geval_any (ao : Option Addr) (len cap A : Nat) (p : List Int) (na : Bool) (o1 o2 : Option Addr) (l1 c1 l2 c2 : Nat) (a : Rat) (w : World) (hp : GP w ao len cap A p) (hA : A ≤ 10000) (ha : RatAt w na o1 l1 c1 o2 l2 c2 a) (hs : lim a.num ≤ 2 ∧ lim (a.den : Int) ≤ 2) (hT0 : TabAt 0 Lib.deBruijn64tab w) :
  Calls Tryz.prog 11 #[.slice ao len cap, .agg #[.bool na, .slice o1 l1 c1, .slice o2 l2 c2]] w fun e w' => NewRatErr w w' e (evQ p a) := by
 obtain ⟨W, hT⟩ := ROne2.mk' w na o1 o2 l1 c1 l2 c2
 have hsz := hT.size
 have hl1 : l1 ≤ 2 := by rw [ha.num.lim]; exact hs.1
 have hl2 : l2 ≤ 2 := by have h := (row_int ha.den).lim; have := hs.2; omega
 have h1 := (hp.later hT.below).check
 have h2 : ∀ V, Below W.heap.size W V → Calls Tryz.prog 34 #[.agg #[.bool na, .slice o1 l1 c1, .slice o2 l2 c2]] V fun e w' => e = .returned (.int .i64 0) ∧ Below V.heap.size V w' := fun V hb => rcheck_good na o1 o2 l1 c1 l2 c2 a V ((ha.later hT.below).later hb) (by omega) (by omega) (tab_later (tab_later hT0 hT.below) hb)
 have h3 : ∀ V, Below W.heap.size W V → Calls Tryz.prog 35 #[.slice ao len cap, .agg #[.bool na, .slice o1 l1 c1, .slice o2 l2 c2]] V fun e w' => NewRat V w' e (evQ p a) := fun V hb => value_any ao len cap A p na o1 o2 l1 c1 l2 c2 a V ((hp.later hT.below).later hb).at' ((ha.later hT.below).later hb) (by have := hp.short; omega) hA hp.lims hs (tab_later (tab_later hT0 hT.below) hb)
 clear hp ha hs hT0 hA
 obtain ⟨p0, p1, p2⟩ := hT.a
 go_enter Tryz.func11, Tryz.ntmps11
 go_wp2_with (first
  | (go_at_call 35; refine (h3 _ hb2).mono ?_; rintro e w3 ⟨n9, o9, l9, c9, p9, m9, k9, rfl, hs9, ho9, hp9, hpt, hb3⟩; have HA : Hid (n9 = sgB (evQ p a).num ∧ Own W.heap.size w3 .u64 63 o9 l9 c9 (mag (evQ p a).num.natAbs) ∧ Own W.heap.size w3 .u64 63 p9 m9 k9 (mag (evQ p a).den) ∧ Parted o9 p9 ∧ Below W.heap.size W w3) := ⟨hs9, ho9.mono hb2.size, hp9.mono hb2.size, hpt, bnext hb2 hb3⟩; clear hs9 ho9 hp9 hpt hb3; obtain ⟨g5, g2, g3, g4⟩ := hT.r.later HA.out.2.2.2.2 (by omega))
  | (go_at_call 33; rw [← hT.eq]; refine h1.mono ?_; rintro e w1 ⟨rfl, hb1⟩; clear p0 p1 p2; obtain ⟨p0, p1, p2⟩ := hT.a.later hb1 (by omega))
  | (go_at_call 34; refine (h2 _ hb1).mono ?_; rintro e w2 ⟨rfl, hb2'⟩; have hb2 := bnext hb1 hb2'; clear hb2' p0 p1 p2; obtain ⟨p0, p1, p2⟩ := hT.a.later hb2 (by omega)))
 exact bodyPost_ret (v := .tuple #[.agg #[.bool n9, .slice o9 l9 c9, .slice p9 m9 k9], .int .i64 0]) (by simp [results, Tryz.results11, go_sem, g2, g3, g4]) rfl
  ⟨_, _, _, _, _, _, _, rfl, HA.out.1, (HA.out.2.1.store3 (by omega) _ _ _).mono (by omega), (HA.out.2.2.1.store3 (by omega) _ _ _).mono (by omega), HA.out.2.2.2.1, below_store3 (bnext hT.below HA.out.2.2.2.2) (by omega) _ _ _⟩
end Go.Proofs.YtgcahkhpbcklfaaGreatDoor
namespace Go.Proofs.YtgcahkhpbcklfaaGreatDoor
open Go.RowKit
theorem lim_powK (d : Int) (K m : Nat) (h : lim d ≤ K) : lim (d ^ m) ≤ K * m + 1 := by
 induction m with
 | zero =>
  rw [Int.pow_zero]; show lim 1 ≤ _; have : lim 1 = 1 := by decide
  omega
 | succ m ih => rw [Int.pow_succ, Nat.mul_succ]; have := lim_mul (d ^ m) d; omega
theorem powersOf_any (na : Bool) (ao : Option Addr) (la ca n : Nat) (L : Int) (w : World) (hx : IntAt w na ao la ca L) (hla : la ≤ 1000) (hn : 0 < n) (hn' : n ≤ 64) :
  Calls Tryz.prog 69 #[.agg #[.bool na, .slice ao la ca], .int .i64 (n : Int)] w fun e w' => ∃ g, e = .returned (.slice (some ⟨g, 0, none⟩) n n) ∧ PolyAt w' (some ⟨g, 0, none⟩) n n (tab n fun t => L ^ t) ∧ w.heap.size ≤ g ∧ g < w'.heap.size ∧ Below w.heap.size w w' := by
 obtain ⟨i0, hi, hz0, hz1, hz2⟩ := info_parts infoInt
 have b1 : Hid (i0.bytes * n ≤ 281474976710656) := by show _ ≤ _; rw [hz2]; omega
 have b2 : Hid (n ≤ maxLen) := by show _ ≤ _; unfold maxLen; omega
 obtain ⟨W, hW⟩ : ∃ W, W = w.alloc (.cells #[.bool na, .slice ao la ca] 28) := ⟨_, rfl⟩
 have HW : Hid (Below w.heap.size w W ∧ W.heap.size = w.heap.size + 1 ∧ (W.cell? ⟨w.heap.size, 0, none⟩ = some (.bool na) ∧ W.cell? ⟨w.heap.size, 1, none⟩ = some (.slice ao la ca)) ∧ IntAt W na ao la ca L) := by
  have hb : Below w.heap.size w W := by rw [hW]; exact (Below.refl _ _).alloc (Nat.le_refl _) _
  refine ⟨hb, by rw [hW]; simp, ?_, hx.later hb⟩
  rw [hW]; exact ⟨by simp [go_sem], by simp [go_sem]⟩
 have hn0 : (0 : Int) < (n : Int) := by omega
 clear hx
 go_enter Tryz.func69, Tryz.ntmps69
 go_wp2_with (first
  | (at_make; rw [← hW]; refine wpList_make_full _ rfl (.tmp 7) (.tmp 7) 23 rfl W.heap.size 28 i0 (.agg #[.bool false, .slice none 0 0]) 2 Tryz.underlying23 hi hz0 hz1 .i64 .i64 _ _ n rfl rfl rfl rfl b1.out b2.out (Nat.le_refl _) ?_; intro w1 hown1 hgrow1; have HM : Hid (PBlk w1 W.heap.size (List.replicate n 0) ∧ W.heap.size < w1.heap.size ∧ Below W.heap.size W w1) := ⟨(pblk_of_made hown1).1, (pblk_of_made hown1).2, grown_below hgrow1⟩; clear hown1 hgrow1)
  | (go_at_call 57; refine (from_any 1 _ (by decide) (by decide)).mono ?_; rintro e w2 ⟨n0, o0, l0, c0, rfl, hs0, ho0, hb2⟩; have H2 : Hid (PBlk w2 W.heap.size (List.replicate n 0) ∧ W.heap.size < w2.heap.size ∧ Below W.heap.size W w2 ∧ IntAt w2 n0 o0 l0 c0 1) := ⟨HM.out.1.later hb2 HM.out.2.1, Nat.lt_of_lt_of_le HM.out.2.1 hb2.size, bnext HM.out.2.2 hb2, ho0.int hs0⟩; clear hs0 ho0 hb2; have hfz := H2.out.1.soft; obtain ⟨m0, p0, k0, d0, ⟨r0', r1'⟩, _⟩ := H2.out.1.coef 0 (by simp; omega); rw [HW.out.2.1] at hfz r0' r1'; obtain ⟨r0, r1⟩ : w2.cell? ⟨w.heap.size + 1, 0, none⟩ = some (.bool m0) ∧ w2.cell? ⟨w.heap.size + 1, 1, none⟩ = some (.slice p0 k0 d0) := ⟨r0', r1'⟩; clear r0' r1'))
 obtain ⟨g, hg⟩ : ∃ g, g = w.heap.size + 1 := ⟨_, rfl⟩
 obtain ⟨rb, hrb⟩ : ∃ rb, rb = w.heap.size := ⟨_, rfl⟩
 obtain ⟨Y, hY⟩ : ∃ Y, Y = (w2.setCell ⟨g, 0, none⟩ (.bool n0)).setCell ⟨g, 1, none⟩ (.slice o0 l0 c0) := ⟨_, rfl⟩
 rw [← hg, ← hY, ← hrb]
 have HY : Hid (Below W.heap.size W Y ∧ g < Y.heap.size ∧ PBlk Y g ((List.replicate n 0).set 0 1) ∧ W.heap.size = g ∧ rb < W.heap.size ∧ rb ≠ g ∧ w.heap.size ≤ g) := by
  have hWg : W.heap.size = g := by rw [hg]; exact HW.out.2.1
  have h2 := H2.out
  rw [hWg] at h2
  refine ⟨?_, ?_, ?_, hWg, by omega, by omega, by omega⟩
  ·
   rw [hY, hWg]; exact (h2.2.2.1.setCell (p := ⟨g, 0, none⟩) (Nat.le_refl _) _).setCell (p := ⟨g, 1, none⟩) (Nat.le_refl _) _
  ·
   rw [hY]; have := h2.2.1; simp; omega
  ·
   rw [hY]; exact h2.1.put (t := 0) (by simp; omega) h2.2.2.2
 have HRB : Hid (W.cell? ⟨rb, 0, none⟩ = some (.bool na) ∧ W.cell? ⟨rb, 1, none⟩ = some (.slice ao la ca)) := by rw [hrb]; exact HW.out.2.2.1
 clear hY hg H2 HM r0 r1 hfz hrb
 go_loopw [6] (fun i wr => ∃ (j : Nat) (l : List Int), 0 < j ∧ j ≤ n ∧ i = .int .i64 (j : Int) ∧ Below W.heap.size W wr ∧ g < wr.heap.size ∧ PBlk wr g l ∧ FillSt n (fun t => L ^ t) j l) (fun i _ => n - (intOf i).toNat)
 case atStart => exact ⟨1, _, Nat.zero_lt_one, hn, rfl, HY.out.1, HY.out.2.1, HY.out.2.2.1, by have h := (FillSt.start n (fun t => L ^ t)).step hn; rw [Int.pow_zero] at h; exact h⟩
 case round =>
  obtain ⟨j, l, hj0, hj, rfl, hbel, hgw, hPB, hst⟩ := hrel
  have HPB : Hid (PBlk wr g l) := hPB
  have HST : Hid (FillSt n (fun t => L ^ t) j l ∧ Below W.heap.size W wr) := ⟨hst, hbel⟩
  by_cases hlt : j < n
  ·
   obtain ⟨i, rfl⟩ : ∃ i, j = i + 1 := ⟨j - 1, by omega⟩
   have HJ : Hid (i + 1 < l.length) := by show i + 1 < _; rw [hst.1]; exact hlt
   obtain ⟨n5, o5, l5, c5, ⟨q0, q1⟩, hi5⟩ := hPB.coef i (by rw [hst.1]; omega)
   have hd5 : dig l i = L ^ i := by rw [hst.2 _ (by omega), if_pos (by omega)]
   rw [hd5] at hi5
   have HI : Hid (IntAt wr n5 o5 l5 c5 (L ^ i) ∧ IntAt wr na ao la ca L) := ⟨hi5, HW.out.2.2.2.later hbel⟩
   have HE : Hid (L ^ i * L = L ^ (i + 1)) := by show _ = _; rw [← Int.pow_succ]
   have hl5 : l5 ≤ 100000 := by
    rw [hi5.lim]
    have h1 := lim_powK L 1000 i (by have := HI.out.2.lim; omega)
    have h2 : 1000 * i ≤ 1000 * 64 := Nat.mul_le_mul_left _ (by omega)
    omega
   have KS : Hid (∀ w', Below wr.heap.size wr w' → w'.cell? ⟨rb, 0, none⟩ = some (.bool na) ∧ w'.cell? ⟨rb, 1, none⟩ = some (.slice ao la ca)) := fun w' hb => by
    have h1 := HRB.out
    have hbW := bnext hbel hb
    exact ⟨(hbW.cell (p := ⟨rb, 0, none⟩) HY.out.2.2.2.2.1).trans h1.1, (hbW.cell (p := ⟨rb, 1, none⟩) HY.out.2.2.2.2.1).trans h1.2⟩
   have K2 : Hid (∀ (w' : World) (z : Nat) (x : Value), (w'.cell? ⟨rb, 0, none⟩ = some (.bool na) ∧ w'.cell? ⟨rb, 1, none⟩ = some (.slice ao la ca)) → ((w'.setCell ⟨g, z, none⟩ x).cell? ⟨rb, 0, none⟩ = some (.bool na) ∧ (w'.setCell ⟨g, z, none⟩ x).cell? ⟨rb, 1, none⟩ = some (.slice ao la ca))) := fun w' z x h => ⟨by rw [cell_off HY.out.2.2.2.2.2.1]; exact h.1, by rw [cell_off HY.out.2.2.2.2.2.1]; exact h.2⟩
   have z0 : ((i + 1 : Nat) : Int) - 1 = (i : Int) := by omega
   have zw : IntKind.i64.wrap (i : Int) = (i : Int) := by rw [IntKind.wrap_i64]; omega
   have z1 : (0 : Int) ≤ (i : Int) := by omega
   have z5 : (0 : Int) ≤ (i : Int) + 1 := by omega
   have z6 : (i : Int) + 1 < (n : Int) := by omega
   have z2 : (i : Int) < (n : Int) := by omega
   have z3 : (0 : Int) ≤ ((i + 1 : Nat) : Int) := by omega
   have z4 : ((i + 1 : Nat) : Int) < (n : Int) := by omega
   clear hPB hst hi5 hd5 hbel
   go_wp2
   refine wp_region_noPanic ?_
   refine wp_region_held_drew (S := fun w' => (w'.cell? ⟨rb, 0, none⟩ = some (.bool na) ∧ w'.cell? ⟨rb, 1, none⟩ = some (.slice ao la ca))) (by kernel_rfl) (by (try dsimp only); exact KS.out _ (Below.refl _ _).drew) (fun hHeld => ?_)
   refine wpAnyH_take (i := 0) (oi := Oper.mk (some 17) _ _ _ _ _) (v := ?_) rfl (by decide +kernel) (by decide +kernel) (by decide +kernel) (fun _ _ _ h => h) (Or.inl ⟨by rfl, ?_⟩) (by assumption) ?_
   rotate_left
   ·
    (intro w hSw; (try dsimp only at hSw); go_simp <;> (try with_reducible rfl))
   (try simp only [Act.put, List.setIfInBounds_toArray, List.set_cons_zero, List.set_cons_succ])
   refine wpAnyH_take (i := 1) (oi := Oper.mk (some 18) _ _ _ _ _) (v := ?_) rfl (by decide +kernel) (by decide +kernel) (by decide +kernel) (fun _ _ _ h => h) (Or.inl ⟨by rfl, ?_⟩) (by assumption) ?_
   rotate_left
   ·
    (intro w hSw; (try dsimp only at hSw); go_simp <;> (try with_reducible rfl))
   (try simp only [Act.put, List.setIfInBounds_toArray, List.set_cons_zero, List.set_cons_succ])
   refine wpAnyH_take (i := 2) (oi := Oper.mk (some 19) _ _ _ _ _) (v := ?_) rfl (by decide +kernel) (by decide +kernel) (by decide +kernel) (fun _ _ _ h => h) (Or.inl ⟨by rfl, ?_⟩) (by assumption) ?_
   rotate_left
   ·
    (intro w hSw; (try dsimp only at hSw); go_simp <;> (try with_reducible rfl))
   (try simp only [Act.put, List.setIfInBounds_toArray, List.set_cons_zero, List.set_cons_succ])
   refine wpAnyH_take (i := 3) (oi := Oper.mk (some 20) _ _ _ _ _) (v := ?_) rfl (by decide +kernel) (by decide +kernel) (by decide +kernel) (fun _ _ _ h => h) (Or.inl ⟨by rfl, ?_⟩) (by assumption) ?_
   rotate_left
   ·
    (intro w hSw; (try dsimp only at hSw); go_simp <;> (try with_reducible rfl))
   (try simp only [Act.put, List.setIfInBounds_toArray, List.set_cons_zero, List.set_cons_succ])
   refine wpAnyH_take (i := 4) (oi := Oper.mk (some 21) _ _ _ _ _) (v := ?_) rfl (by decide +kernel) (by decide +kernel) (by decide +kernel) (fun _ _ _ h => h) (Or.inl ⟨by rfl, ?_⟩) (by assumption) ?_
   rotate_left
   ·
    (intro w hSw; (try dsimp only at hSw); go_simp <;> (try with_reducible rfl))
   (try simp only [Act.put, List.setIfInBounds_toArray, List.set_cons_zero, List.set_cons_succ])
   refine wpAnyH_take (i := 5) (oi := Oper.mk (some 22) _ _ _ _ _) (v := ?_) rfl (by decide +kernel) (by decide +kernel) (by decide +kernel) (fun _ _ _ h => h) (Or.inl ⟨by rfl, ?_⟩) (by assumption) ?_
   rotate_left
   ·
    (intro w hSw; (try dsimp only at hSw); go_simp <;> (try with_reducible rfl))
   (try simp only [Act.put, List.setIfInBounds_toArray, List.set_cons_zero, List.set_cons_succ])
   refine wpAnyH_take (i := 7) (oi := Oper.mk (some 24) _ _ _ _ _) (v := ?_) rfl (by decide +kernel) (by decide +kernel) (by decide +kernel) (fun _ _ _ h => h) (Or.inl ⟨by rfl, ?_⟩) (by assumption) ?_
   rotate_left
   ·
    (intro w hSw; (try dsimp only at hSw); go_simp <;> (try with_reducible rfl))
   (try simp only [Act.put, List.setIfInBounds_toArray, List.set_cons_zero, List.set_cons_succ])
   refine wpAnyH_ready (rs := [6]) (by decide +kernel) (by simp) ?_
   refine AllReadyH.cons (o := Oper.mk (some 23) _ _ _ _ _) rfl (fun K hK => ?_) AllReadyH.nil
   go_simp
   clear hHeld
   refine hK.out _ _ (by (try dsimp only); exact KS.out _ (Below.refl _ _).drew) (fun hHeld => ?_)
   clear hK K
   (try simp only [Act.put, List.setIfInBounds_toArray, List.set_cons_zero, List.set_cons_succ])
   refine wpAnyH_ready (rs := [8]) (by decide +kernel) (by simp) ?_
   refine AllReadyH.cons (o := Oper.mk (some 25) _ _ _ _ _) rfl (fun K hK => ?_) AllReadyH.nil
   go_simp
   (go_at_call 58; refine (pltimes_any n5 na o5 ao l5 c5 la ca (L ^ i) L _ (HI.out.1.later (Below.refl _ _).drew) (HI.out.2.later (Below.refl _ _).drew) (by omega) (by omega)).mono ?_; rintro e w4 ⟨n7, o7, l7, c7, rfl, hs7, ho7, hb'⟩; have hb4 : Below wr.heap.size wr w4 := bnext (Below.refl _ _).drew hb'; have H7 : Hid (IntAt w4 n7 o7 l7 c7 (L ^ (i + 1))) := (by rw [← HE.out]; exact ho7.int hs7); clear hs7 ho7 hb'; have HP4 := HPB.out.later hb4 hgw; have hfz := HP4.soft; obtain ⟨m0, p0, k0, d0, ⟨r0, r1⟩, _⟩ := HP4.coef (i + 1) HJ.out; clear HP4)
   (try go_wp2_with fail)
   clear hHeld
   refine hK.out _ _ (by (try dsimp only); exact KS.out _ hb4) (fun hHeld => ?_)
   clear hK K
   (try simp only [Act.put, List.setIfInBounds_toArray, List.set_cons_zero, List.set_cons_succ])
   refine wpAnyH_take (i := 9) (oi := Oper.mk (some 26) _ _ _ _ _) (v := ?_) rfl (by decide +kernel) (by decide +kernel) (by decide +kernel) (fun _ _ _ h => h) (Or.inl ⟨by rfl, ?_⟩) (by assumption) ?_
   rotate_left
   ·
    (intro w hSw; (try dsimp only at hSw); go_simp <;> (try with_reducible rfl))
   (try simp only [Act.put, List.setIfInBounds_toArray, List.set_cons_zero, List.set_cons_succ])
   refine wpAnyH_ready (rs := [10]) (by decide +kernel) (by simp) ?_
   refine AllReadyH.cons (o := Oper.mk none _ _ _ _ _) rfl (fun K hK => ?_) AllReadyH.nil
   go_simp
   clear hHeld
   refine hK.out _ _ (by (try dsimp only); exact K2.out _ _ _ (K2.out _ _ _ (KS.out _ hb4))) (fun hHeld => ?_)
   clear hK K
   (try simp only [Act.put, List.setIfInBounds_toArray, List.set_cons_zero, List.set_cons_succ])
   refine wpAnyH_done (by decide +kernel) ?_ _
   refine NoPanic.normal ?_
   go_wp2
   go_roundw
   case rel => exact ⟨i + 1 + 1, l.set (i + 1) (L ^ (i + 1)), by omega, by omega, by go_num, ((bnext HST.out.2 hb4).setCell (p := ⟨g, (i + 1) * 2, none⟩) (by show _ ≤ g; rw [HY.out.2.2.2.1]; exact Nat.le_refl _) _).setCell (p := ⟨g, (i + 1) * 2 + 1, none⟩) (by show _ ≤ g; rw [HY.out.2.2.2.1]; exact Nat.le_refl _) _, by (have := hb4.size; simp; omega), (HPB.out.later hb4 hgw).put HJ.out H7.out, HST.out.1.step hlt⟩
   case measure => simp [intOf]; omega
  ·
   obtain rfl : j = n := by omega
   have hE : Hid (l = tab j fun t => L ^ t) := HST.out.1.done
   clear hPB hst hbel
   go_wp2
   go_ret
   exact ⟨g, rfl, by rw [← hE.out]; exact HPB.out.poly HST.out.1.1.symm, HY.out.2.2.2.2.2.2, hgw, bnext HW.out.1 HST.out.2⟩
end Go.Proofs.YtgcahkhpbcklfaaGreatDoor
