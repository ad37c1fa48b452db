/-
  A pack of walks and facts: UJ, ZB, UK, UL, YA, YC, YH, ZA.
-/
import Derived.Test.YtpbkonafojemiaaGreatDoorPK08
import Derived.Test.YtpbkonafojemiaaGreatDoorPK14
import Derived.Test.YtpbkonafojemiaaGreatDoorPK18
import Derived.Test.YtpbkonafojemiaaGreatDoorPK20
set_option maxRecDepth 100000
set_option maxHeartbeats 40000000
set_option linter.unusedVariables false
set_option linter.unusedSimpArgs false
namespace Go.Proofs.YtpbkonafojemiaaGreatDoor
open Go.RowKit
structure PArg (w : World) (ao : Option Addr) (len cap : Nat) (rs : List (Bool × List Int)) (m : Bool) (p : List Int) : Prop where
 raws : RawsAt w ao len cap rs
 short : len ≤ 11
 lims : ∀ t, (rv rs t).2.length ≤ 3
 may : pmayB len rs = m
 good : m = true → PolyAt w ao len cap p ∧ Lead p ∧ Lim 3 p
theorem PArg.later {w w' : World} {ao : Option Addr} {len cap : Nat} {rs : List (Bool × List Int)} {m : Bool} {p : List Int} (h : PArg w ao len cap rs m p) (hb : Below w.heap.size w w') : PArg w' ao len cap rs m p :=
 ⟨h.raws.later hb, h.short, h.lims, h.may, fun e => ⟨(h.good e).1.later hb, (h.good e).2⟩⟩
def PAns (B : Nat) (w : World) (c : Int) (ao : Option Addr) (l : Nat) (L : List Int) : Prop := (c = 0 ∧ POwn B w ao l l L) ∨ (c = 50 ∧ ao = none ∧ l = 0)
def NewAns (w w' : World) (e : Ending) (c : Int) (L : List Int) : Prop := ∃ ao l, e = .returned (.tuple #[.slice ao l l, .int .i64 c]) ∧ PAns w.heap.size w' c ao l L ∧ Below w.heap.size w w'
def bad1 (m : Bool) : Int := if m then 0 else 50
theorem pchecks_is (ao bo : Option Addr) (la ca lb cb : Nat) (rs ts : List (Bool × List Int)) (m k : Bool) (p s : List Int) (w : World) (hp : PArg w ao la ca rs m p) (hs : PArg w bo lb cb ts k s) (c : Int) (hc : bad1 (m && k) = c) :
  Calls Tryz.prog 45 #[.slice ao la ca, .slice bo lb cb] w fun e w' => e = .returned (.int .i64 c) ∧ Below w.heap.size w w' := by
 have HP : Hid (PArg w ao la ca rs m p ∧ PArg w bo lb cb ts k s) := ⟨hp, hs⟩
 have h1 : ∀ d, bad1 m = d → Calls Tryz.prog 24 #[.slice ao la ca] w fun e w' => e = .returned (.int .i64 d) ∧ Below w.heap.size w w' := fun d hd => pcheck_is ao la ca rs w hp.raws (by have := hp.short; omega) (fun t => Nat.le_trans (hp.lims t) (by decide)) d (by rw [hp.may]; exact hd)
 have h2 : ∀ W d, Below w.heap.size w W → bad1 k = d → Calls Tryz.prog 24 #[.slice bo lb cb] W fun e w' => e = .returned (.int .i64 d) ∧ Below W.heap.size W w' := fun W d hb hd => pcheck_is bo lb cb ts W (hs.later hb).raws (by have := hs.short; omega) (fun t => Nat.le_trans (hs.lims t) (by decide)) d (by rw [hs.may]; exact hd)
 clear hp hs
 cases m
 ·
  replace h1 := h1 50 rfl
  obtain rfl : c = 50 := hc.symm
  clear h2 hc
  go_enter Tryz.func45, Tryz.ntmps45
  go_wp2_with (go_at_call 24; refine h1.mono ?_; rintro e w1 ⟨rfl, hb1⟩)
  go_ret
  exact ⟨rfl, hb1⟩
 ·
  replace h1 := h1 0 rfl
  have hc' : bad1 k = c := by rw [← hc]; rfl
  have HK : Hid (bad1 k = c) := hc'
  clear hc hc'
  go_enter Tryz.func45, Tryz.ntmps45
  go_wp2_with (first
   | (go_at_call 24; have _t := hb1; refine (h2 _ c hb1 HK.out).mono ?_; rintro e w2 ⟨rfl, hb2⟩)
   | (go_at_call 24; refine h1.mono ?_; rintro e w1 ⟨rfl, hb1⟩))
  go_ret
  exact ⟨rfl, bnext hb1 hb2⟩
def mulP (p s : List Int) : List Int := if p.length = 0 ∨ s.length = 0 then [] else mulL p s
theorem mulP_trim {p s : List Int} (hp : Lead p) (hs : Lead s) (h1 : 0 < p.length) (h2 : 0 < s.length) : trimL (mulL p s) = mulP p s := by
 unfold mulP
 rw [if_neg (by omega), trimL_of_lead (mul_lead hp hs h1 h2)]
theorem plmul_is (ao bo : Option Addr) (la ca lb cb : Nat) (rs ts : List (Bool × List Int)) (m k : Bool) (p s : List Int) (w : World) (hp : PArg w ao la ca rs m p) (hs : PArg w bo lb cb ts k s) (c : Int) (hc : bad1 (m && k) = c) :
  Calls Tryz.prog 30 #[.slice ao la ca, .slice bo lb cb] w fun e w' => NewAns w w' e c (mulP p s) := by
 have h1 := pchecks_is ao bo la ca lb cb rs ts m k p s w hp hs c hc
 cases hmk : (m && k)
 ·
  obtain rfl : c = 50 := by rw [← hc, hmk]; rfl
  clear hp hs hc hmk
  go_enter Tryz.func30, Tryz.ntmps30
  go_wp2_with (go_at_call 45; refine h1.mono ?_; rintro e w1 ⟨rfl, hb1⟩)
  go_ret2
  exact ⟨_, _, rfl, Or.inr ⟨rfl, rfl, rfl⟩, hb1⟩
 ·
  obtain rfl : c = 0 := by rw [← hc, hmk]; rfl
  obtain ⟨rfl, rfl⟩ : m = true ∧ k = true := by simpa using hmk
  have e1 := (hp.good rfl).1.hlen
  have e2 := (hs.good rfl).1.hlen
  have s1 := hp.short
  have s2 := hs.short
  by_cases ha : la = 0
  ·
   subst ha
   have HZ : Hid (mulP p s = []) := by show mulP p s = []; unfold mulP; rw [if_pos (Or.inl e1.symm)]
   clear hp hs hc hmk e1 e2
   go_enter Tryz.func30, Tryz.ntmps30
   go_wp2_with (go_at_call 45; refine h1.mono ?_; rintro e w1 ⟨rfl, hb1⟩)
   go_ret2
   exact ⟨_, _, rfl, Or.inl ⟨rfl, by rw [HZ.out]; exact POwn.nil _ _⟩, hb1⟩
  ·
   have ha' : ((la : Int) == 0) = false := by simp; omega
   by_cases hb : lb = 0
   ·
    subst hb
    have HZ : Hid (mulP p s = []) := by show mulP p s = []; unfold mulP; rw [if_pos (Or.inr e2.symm)]
    clear hp hs hc hmk e1 e2 ha
    go_enter Tryz.func30, Tryz.ntmps30
    go_wp2_with (go_at_call 45; refine h1.mono ?_; rintro e w1 ⟨rfl, hb1⟩)
    go_ret2
    exact ⟨_, _, rfl, Or.inl ⟨rfl, by rw [HZ.out]; exact POwn.nil _ _⟩, hb1⟩
   ·
    have hb' : ((lb : Int) == 0) = false := by simp; omega
    have hd : ¬ ((1024 : Int) < (la : Int) + (lb : Int) - 2) := by omega
    have h2 : ∀ W, Below w.heap.size w W → Calls Tryz.prog 55 #[.slice ao la ca, .slice bo lb cb] W fun e w' => NewPO W w' e (mulP p s) := fun W hb => by
     have := product_any ao bo la ca lb cb 3 p s W ((hp.later hb).good rfl).1 ((hs.later hb).good rfl).1 (by omega) (by omega) (by omega) (by omega) (by decide) (hp.good rfl).2.2 (hs.good rfl).2.2
     rw [mulP_trim (hp.good rfl).2.1 (hs.good rfl).2.1 (by omega) (by omega)] at this
     exact this
    clear hp hs hc hmk e1 e2 ha hb
    go_enter Tryz.func30, Tryz.ntmps30
    go_wp2_with (first
     | (go_at_call 45; refine h1.mono ?_; rintro e w1 ⟨rfl, hb1⟩)
     | (go_at_call 55; refine (h2 _ hb1).mono ?_; rintro e w2 ⟨ao2, l2, rfl, ho2, hb2⟩))
    go_ret2
    exact ⟨_, _, rfl, Or.inl ⟨rfl, ho2.mono hb1.size⟩, bnext hb1 hb2⟩
theorem pllead0_any (ao : Option Addr) (k cap : Nat) (p : List Int) (w : World) (hp : PolyAt w ao (k + 1) cap p) (hl : k ≤ 1000) :
  Calls Tryz.prog 77 #[.slice ao (k + 1) cap] w fun e w' => RefInt w w' e (dig p k) := by
 have hbW : Below w.heap.size w (w.alloc (.cells #[.bool false, .slice none 0 0] 28)) := (Below.refl _ _).alloc (Nat.le_refl _) _
 obtain ⟨b, off, n1, ao1, l1, c1, rfl, h0', h1', hi⟩ := hp.at (show k < k + 1 by omega)
 have h0 := (hbW.cell (p := ⟨b, off + k * 2, none⟩) (cell_lt h0')).trans h0'
 have h1 := (hbW.cell (p := ⟨b, off + k * 2 + 1, none⟩) (cell_lt h1')).trans h1'
 have hki : ((k + 1 : Nat) : Int) - 1 = (k : Int) := by omega
 have hk1 : (k : Int) < ((k + 1 : Nat) : Int) := by omega
 have hk2 : (0 : Int) ≤ (k : Int) := by omega
 have HI : Hid (IntAt w n1 ao1 l1 c1 (dig p k)) := hi
 clear hp hi h0' h1'
 go_enter Tryz.func77, Tryz.ntmps77
 go_wp2
 exact bodyPost_ret (v := .agg #[.bool n1, .slice ao1 l1 c1]) (by simp [results, Tryz.results77, go_sem]) rfl
  ⟨_, _, _, _, rfl, HI.out.later ((Below.refl _ _).alloc (Nat.le_refl _) _), (Below.refl _ _).alloc (Nat.le_refl _) _⟩
end Go.Proofs.YtpbkonafojemiaaGreatDoor
namespace Go.Proofs.YtpbkonafojemiaaGreatDoor
open Go.RowKit
theorem plen_bl (n : Bool) (ao : Option Addr) (len cap : Nat) (v : Int) (w : World) (hx : IntAt w n ao len cap v) (hl : len ≤ 1000000) :
  Calls Tryz.prog 73 #[.agg #[.bool n, .slice ao len cap]] w fun e w' => ∃ L : Nat, e = .returned (.int .i64 (L : Int)) ∧ (v.natAbs < 2 ^ L ∧ (L = 0 ∨ 2 ^ (L - 1) ≤ v.natAbs) ∧ L ≤ 64 * len) ∧ Below w.heap.size w w' := by
 obtain ⟨L, hL, h2⟩ : ∃ L : Nat, rowBits len (dig (mag v.natAbs) (len - 1)) = (L : Int) ∧ (v.natAbs < 2 ^ L ∧ (L = 0 ∨ 2 ^ (L - 1) ≤ v.natAbs) ∧ L ≤ 64 * len) := by
  have hlen := hx.row.hlen
  by_cases h0 : 0 < v.natAbs
  ·
   obtain ⟨l, h1, h2, h3, h4, h5⟩ := row_bits h0 hlen
   exact ⟨l, h1, h5, Or.inr h4, h3⟩
  ·
   have hl0 : len = 0 := by
    by_cases h : 0 < len
    ·
     exact absurd (mag_len_pos.1 (hlen ▸ h)) h0
    ·
     omega
   exact ⟨0, by unfold rowBits; rw [if_pos hl0]; rfl, by simp; omega, Or.inl rfl, Nat.zero_le _⟩
 exact (blen_any n ao len cap v w hx (by omega)).mono fun e w' h => ⟨L, by rw [← hL]; exact h.1, h2, h.2⟩
theorem height_any (ao : Option Addr) (len cap A : Nat) (p : List Int) (w : World) (hp : PolyAt w ao len cap p) (hl : len ≤ 1000) (hA : A ≤ 1000) (hlim : Lim A p) :
  Calls Tryz.prog 47 #[.slice ao len cap] w fun e w' => ∃ h : Nat, e = .returned (.int .i64 (h : Int)) ∧ ((∀ t, (dig p t).natAbs < 2 ^ h) ∧ h ≤ 64 * A) ∧ Below w.heap.size w w' := by
 have HR : Hid (PolyAt w ao len cap p ∧ Lim A p ∧ len = p.length) := ⟨hp, hlim, hp.hlen⟩
 clear hp hlim
 go_enter Tryz.func47, Tryz.ntmps47
 go_wp2_with fail
 go_loopw [3, 8] (fun mm i wr => ∃ (k m : Nat), k ≤ len ∧ i = .int .i64 (k : Int) ∧ mm = .int .i64 (m : Int) ∧ Below w.heap.size w wr ∧ m ≤ 64 * A ∧ ∀ t, t < k → (dig p t).natAbs < 2 ^ m) (fun _ i _ => len - (intOf i).toNat)
 case atStart => exact ⟨0, 0, Nat.zero_le _, rfl, rfl, Below.refl _ _, Nat.zero_le _, fun t ht => absurd ht (by omega)⟩
 case round =>
  obtain ⟨k, m, hk, rfl, rfl, hbel, hm, ht⟩ := hrel
  have HS : Hid (∀ t, t < k → (dig p t).natAbs < 2 ^ m) := ht
  clear ht
  by_cases hlt : k < len
  ·
   obtain ⟨b, off, rfl, hat⟩ := (HR.out.1.later hbel).get (by omega)
   obtain ⟨n1, ao1, l1, c1, ⟨h1, h2⟩, hint⟩ := hat k hlt
   have hl1 : l1 ≤ A := by rw [hint.lim]; exact HR.out.2.1 _
   obtain ⟨W, hW⟩ : ∃ W, W = wr.alloc (.cells #[.bool n1, .slice ao1 l1 c1] 28) := ⟨_, rfl⟩
   have hA1 : Below wr.heap.size wr (wr.alloc (.cells #[.bool n1, .slice ao1 l1 c1] 28)) := (Below.refl _ _).alloc (Nat.le_refl _) _
   have HW : Hid (Below wr.heap.size wr W ∧ IntAt W n1 ao1 l1 c1 (dig p k)) := by rw [hW]; exact ⟨hA1, hint.later hA1⟩
   clear hat hint hA1
   go_wp2_with (go_at_call 73; rw [← hW]; clear hW; refine (plen_bl n1 ao1 l1 c1 (dig p k) _ HW.out.2 (by omega)).mono ?_; rintro e w2 ⟨L, rfl, hL, hb2⟩; obtain ⟨M, hM⟩ : ∃ M : Nat, M = max m L := ⟨_, rfl⟩; have hmx : max (m : Int) (L : Int) = (M : Int) := (by omega); have HL : Hid ((dig p k).natAbs < 2 ^ L ∧ m ≤ M ∧ L ≤ M ∧ M ≤ 64 * A) := ⟨hL.1, by omega, by omega, by have := hL.2.2; omega⟩; clear hL hM)
   go_roundw
   case rel =>
    refine ⟨k + 1, M, by omega, by go_num, by go_num, bnext hbel (bnext HW.out.1 hb2), HL.out.2.2.2, fun t ht => ?_⟩
    by_cases e : t = k
    ·
     subst e; exact Nat.lt_of_lt_of_le HL.out.1 (Nat.pow_le_pow_right (by decide) HL.out.2.2.1)
    ·
     exact Nat.lt_of_lt_of_le (HS.out t (by omega)) (Nat.pow_le_pow_right (by decide) HL.out.2.1)
   case measure => simp [intOf]; omega
  ·
   obtain rfl : k = len := by omega
   go_wp2
   go_ret
   refine ⟨m, rfl, ⟨fun t => ?_, hm⟩, hbel⟩
   by_cases e : t < k
   ·
    exact HS.out t e
   ·
    rw [dig_past (by rw [← HR.out.2.2]; omega)]; exact Nat.pow_pos (by decide)
end Go.Proofs.YtpbkonafojemiaaGreatDoor
namespace Go.Proofs.YtpbkonafojemiaaGreatDoor
open Go.RowKit
theorem add_none2 (g j : Nat) : (⟨g, 0, none⟩ : Addr).add j = ⟨g, j, none⟩ := by simp [Addr.add]; intro h; exact h.symm
theorem eqpoly_of {x y : Value} {w : World} (h : Calls Tryz.prog 56 #[x, y] w fun e w' => e = .returned (.bool true) ∧ Below w.heap.size w w') :
  Calls Tryz.prog 31 #[x, y] w fun e w' => e = .returned (.bool true) ∧ Below w.heap.size w w' := by
 go_enter Tryz.func31, Tryz.ntmps31
 go_wp2_with (go_at_call 56; refine h.mono ?_; rintro e w1 ⟨rfl, hb1⟩)
 go_ret
 exact ⟨rfl, hb1⟩
structure SpP (B : Nat) (w : World) (g : Nat) (p : List Int) (k : Nat) : Prop where
 soft : ∀ j, w.frozen? ⟨g, j, none⟩ = false
 coef : ∀ t, k ≤ t → t < p.length → CoefO B w g (t * 2) (dig p t)
 apart : ∀ s t, k ≤ s → k ≤ t → s < p.length → t < p.length → s ≠ t → ∀ (a b : Addr) (l l' c c' : Nat), w.cell? ⟨g, s * 2 + 1, none⟩ = some (.slice (some a) l c) → w.cell? ⟨g, t * 2 + 1, none⟩ = some (.slice (some b) l' c') → a.block ≠ b.block
 away : ∀ t, k ≤ t → t < p.length → ∀ (a : Addr) (l c : Nat), w.cell? ⟨g, t * 2 + 1, none⟩ = some (.slice (some a) l c) → a.block ≠ g
 there : ∀ j, j < p.length * 2 → ∃ u, w.cell? ⟨g, j, none⟩ = some u
theorem SpP.step {B : Nat} {w w1 : World} {g k l c : Nat} {p : List Int} {ao : Option Addr} {x y : Value} (h : SpP B w g p k) (hk : k < p.length) (hc : w.cell? ⟨g, k * 2 + 1, none⟩ = some (.slice ao l c)) (hs : Stay ao w w1) (hg : g < w.heap.size) : SpP B ((w1.setCell ⟨g, k * 2, none⟩ x).setCell ⟨g, k * 2 + 1, none⟩ y) g p (k + 1) := by
 have hng : ∀ a : Addr, ao = some a → a.block ≠ g := fun a ha => by subst ha; exact h.away k (Nat.le_refl _) hk a l c hc
 have e1 : ∀ j, w1.cell? ⟨g, j, none⟩ = w.cell? ⟨g, j, none⟩ := fun j => hs.cell hg hng
 have e2 : ∀ t, k + 1 ≤ t → ∀ i, i < 2 → ((w1.setCell ⟨g, k * 2, none⟩ x).setCell ⟨g, k * 2 + 1, none⟩ y).cell? ⟨g, t * 2 + i, none⟩ = w.cell? ⟨g, t * 2 + i, none⟩ := fun t ht i hi => by
  rw [setCell_ne (by rintro ⟨_, h⟩; simp only at h; omega), setCell_ne (by rintro ⟨_, h⟩; simp only at h; omega), e1]
 refine ⟨fun j => by rw [soft_far, soft_far, hs.frozen hg hng]; exact h.soft j, fun t ht htl => ?_, fun s t hs' ht hsl htl hn a b l l' c c' q1 q2 => h.apart s t (by omega) (by omega) hsl htl hn a b l l' c c' (by rw [← e2 s hs' 1 (by omega)]; exact q1) (by rw [← e2 t ht 1 (by omega)]; exact q2), fun t ht htl a l c q => h.away t (by omega) htl a l c (by rw [← e2 t ht 1 (by omega)]; exact q), fun j hj => ?_⟩
 ·
  obtain ⟨n, bo, l', c', ⟨q0, q1⟩, q2, ho⟩ := h.coef t (by omega) htl
  refine ⟨n, bo, l', c', ⟨(e2 t ht 0 (by omega)).trans q0, by rw [e2 t ht 1 (by omega)]; exact q1⟩, q2, ?_⟩
  rcases ho with ho | ⟨g', off, cur, r1, r2, r3, r4⟩
  ·
   exact Or.inl ho
  ·
   refine Or.inr ⟨g', off, cur, r1, r2, ?_, r4⟩
   have hne : g' ≠ g := by subst r1; exact h.away t (by omega) htl _ _ _ q1
   rw [Below.heap_setCell _ ⟨g, k * 2 + 1, none⟩ y _ hne, Below.heap_setCell _ ⟨g, k * 2, none⟩ x _ hne]
   rw [hs.block g' (heap_lt r3) ?_]
   ·
    exact r3
   ·
    intro a ha
    subst ha
    subst r1
    exact h.apart k t (Nat.le_refl _) (by omega) hk htl (by omega) _ _ _ _ _ _ hc q1
 ·
  obtain ⟨u, hu⟩ := h.there j hj
  obtain ⟨u0, hu0⟩ := h.there (k * 2) (by omega)
  obtain ⟨u1, hu1⟩ := h.there (k * 2 + 1) (by omega)
  rw [← e1] at hu hu0 hu1
  by_cases q1 : j = k * 2 + 1
  ·
   subst q1; exact ⟨y, by simp [go_sem, hu0, hu1]⟩
  ·
   by_cases q0 : j = k * 2
   ·
    subst q0; exact ⟨x, by simp [go_sem, hu0, hu1]⟩
   ·
    exact ⟨u, by rw [setCell_ne (by rintro ⟨_, h⟩; simp only at h; omega), setCell_ne (by rintro ⟨_, h⟩; simp only at h; omega)]; exact hu⟩
theorem SpP.later {B : Nat} {w w' : World} {g k : Nat} {p : List Int} (h : SpP B w g p k) (hb : Below w.heap.size w w') (hg : g < w.heap.size) (hk : p.length ≤ k) : SpP B w' g p k :=
 ⟨fun j => (hb.frozen (p := ⟨g, j, none⟩) hg).trans (h.soft j), fun t h1 h2 => absurd h2 (by omega), fun s t h1 _ h2 => absurd h2 (by omega), fun t h1 h2 => absurd h2 (by omega), fun j hj => by
  obtain ⟨u, hu⟩ := h.there j hj
  exact ⟨u, (hb.cell (p := ⟨g, j, none⟩) hg).trans hu⟩⟩
end Go.Proofs.YtpbkonafojemiaaGreatDoor
namespace Go.Proofs.YtpbkonafojemiaaGreatDoor
open Go.RowKit
def Cells (w : World) (r : Nat) (vs : List Value) : Prop := ∀ (j : Nat) (u : Value), vs[j]? = some u → w.cell? ⟨r, j, none⟩ = some u
theorem Cells.later {w w' : World} {r : Nat} {vs : List Value} (h : Cells w r vs) (hb : Below w.heap.size w w') (hr : r < w.heap.size) : Cells w' r vs := fun j u hu => (hb.cell (p := ⟨r, j, none⟩) hr).trans (h j u hu)
theorem Cells.new (w : World) (vs : Array Value) (t : TypeId) : Cells (w.alloc (.cells vs t)) w.heap.size vs.toList := fun j u hu => by
 have h := World.news_of_block (cs := vs) (t := t) (fr := (0, 0)) (heap_alloc_new w _) j u hu
 rw [add_none2] at h
 exact h
theorem longRat4_any (na : Bool) (ao po : Option Addr) (la ca lp cp : Nat) (n : Int) (w : World) :
  Calls Tryz.prog 16 #[.agg #[.bool na, .slice ao la ca, .slice po lp cp], .int .i64 n] w fun e w' => ∃ b, e = .returned (.bool b) ∧ Below w.heap.size w w' := by
 have hA : Below w.heap.size w (w.alloc (.cells #[.bool na, .slice ao la ca, .slice po lp cp] 30)) := (Below.refl _ _).alloc (Nat.le_refl _) _
 have HC := Cells.new w #[.bool na, .slice ao la ca, .slice po lp cp] 30
 obtain ⟨b, hb⟩ : ∃ b, decide (n < (la : Int)) = b := ⟨_, rfl⟩
 have hcon : ∀ X, Calls Tryz.prog 15 #[.agg #[.bool na, .slice ao la ca], .int .i64 n] X fun e w' => e = .returned (.bool b) ∧ Below X.heap.size X w' := fun X => (long_any na ao la ca n X).mono fun e w' h => by rw [hb] at h; exact h
 clear hb
 cases b
 ·
  go_enter Tryz.func16, Tryz.ntmps16
  go_wp2_with (go_at_call 15; refine (hcon _).mono ?_; rintro e w1 ⟨rfl, hb1⟩; have q2 := HC.later hb1 (by simp) 2 _ rfl)
  go_ret
  exact ⟨_, rfl, bnext hA hb1⟩
 ·
  go_enter Tryz.func16, Tryz.ntmps16
  go_wp2_with (go_at_call 15; refine (hcon _).mono ?_; rintro e w1 ⟨rfl, hb1⟩)
  go_ret
  exact ⟨_, rfl, bnext hA hb1⟩
theorem one4_any (ao bo co : Option Addr) (la ca lb cb lc cc : Nat) (n n4 n5 n6 : Bool) (o4 p4 o5 p5 o6 p6 : Option Addr) (l4 c4 m4 k4 l5 c5 m5 k5 l6 c6 m6 k6 : Nat) (rs : List (Bool × List Int)) (w : World) (hp : RawsAt w ao la ca rs) (hla : la ≤ 1000) (hlim : ∀ r ∈ rs, r.2.length ≤ 3) (m : Bool) (hm : pmayB la rs = m) (c : Int) (hc : bad1 m = c) :
  Calls Tryz.prog 5 #[.agg #[.slice ao la ca, .slice bo lb cb, .bool n, .slice co lc cc, .bool n4, .slice o4 l4 c4, .slice p4 m4 k4, .bool n5, .slice o5 l5 c5, .slice p5 m5 k5, .bool n6, .slice o6 l6 c6, .slice p6 m6 k6]] w fun e w' => e = .returned (.int .i64 c) ∧ Below w.heap.size w w' := by
 have hA : Below w.heap.size w (w.alloc (.cells #[.slice ao la ca, .slice bo lb cb, .bool n, .slice co lc cc, .bool n4, .slice o4 l4 c4, .slice p4 m4 k4, .bool n5, .slice o5 l5 c5, .slice p5 m5 k5, .bool n6, .slice o6 l6 c6, .slice p6 m6 k6] 34)) := (Below.refl _ _).alloc (Nat.le_refl _) _
 have h1 : Calls Tryz.prog 17 #[.slice ao la ca] (w.alloc (.cells #[.slice ao la ca, .slice bo lb cb, .bool n, .slice co lc cc, .bool n4, .slice o4 l4 c4, .slice p4 m4 k4, .bool n5, .slice o5 l5 c5, .slice p5 m5 k5, .bool n6, .slice o6 l6 c6, .slice p6 m6 k6] 34)) fun e w' => e = .returned (.bool m) ∧ Below (w.alloc (.cells #[.slice ao la ca, .slice bo lb cb, .bool n, .slice co lc cc, .bool n4, .slice o4 l4 c4, .slice p4 m4 k4, .bool n5, .slice o5 l5 c5, .slice p5 m5 k5, .bool n6, .slice o6 l6 c6, .slice p6 m6 k6] 34)).heap.size (w.alloc (.cells #[.slice ao la ca, .slice bo lb cb, .bool n, .slice co lc cc, .bool n4, .slice o4 l4 c4, .slice p4 m4 k4, .bool n5, .slice o5 l5 c5, .slice p5 m5 k5, .bool n6, .slice o6 l6 c6, .slice p6 m6 k6] 34)) w' := pmay_any ao la ca rs _ (hp.later hA) (by omega) (fun r hr => Nat.le_trans (hlim r hr) (by decide)) m hm
 clear hp hlim hm
 cases m
 ·
  obtain rfl : c = 50 := hc.symm
  clear hc
  go_enter Tryz.func5, Tryz.ntmps5
  go_wp2_with (go_at_call 17; refine h1.mono ?_; rintro e w1 ⟨rfl, hb1⟩)
  go_ret
  exact ⟨rfl, bnext hA hb1⟩
 ·
  obtain rfl : c = 0 := hc.symm
  clear hc
  go_enter Tryz.func5, Tryz.ntmps5
  go_wp2_with (go_at_call 17; refine h1.mono ?_; rintro e w1 ⟨rfl, hb1⟩)
  go_ret
  exact ⟨rfl, bnext hA hb1⟩
theorem num4_any (v : Int) (w : World) : Calls Tryz.prog 12 #[.int .i64 v] w fun e w' => e = .returned (.int .i64 v) ∧ Below w.heap.size w w' := by
 go_enter Tryz.func12, Tryz.ntmps12
 go_wp2
 go_ret
 exact ⟨rfl, Below.refl _ _⟩
theorem mayB_int (v : Int) : mayB (sgB v) (mag v.natAbs) = true := by
 by_cases e : v = 0
 ·
  subst e; rfl
 ·
  rw [mayB_last (fun q => lim_pos e (by unfold lim; rw [q]; rfl))]
  have := mag_can v.natAbs
  unfold Can at this
  rw [List.getLast?_eq_getElem?] at this
  simp only [bne_iff_ne, ne_eq]
  intro q
  apply this
  have hl : (mag v.natAbs).length - 1 < (mag v.natAbs).length := by have := lim_pos e; unfold lim at this; omega
  rw [List.getElem?_eq_getElem hl]
  unfold dig at q
  rw [List.getD_eq_getElem?_getD, List.getElem?_eq_getElem hl] at q
  simpa using q
theorem parg_of_poly {w : World} {ao : Option Addr} {len cap : Nat} {p : List Int} (hp : PolyAt w ao len cap p) (hs : len ≤ 11) (hL : Lead p) (hM : Lim 3 p) : PArg w ao len cap (rsOf p) true p := by
 have hrv : ∀ t, (rv (rsOf p) t).2.length ≤ 3 := fun t => by
  by_cases h : t < (rsOf p).length
  ·
   rw [rv_eq h, rsOf_get]; exact hM t
  ·
   unfold rv; rw [List.getD_eq_getElem?_getD, List.getElem?_eq_none (by omega)]; simp
 refine ⟨⟨by rw [rsOf_len]; exact hp.hlen, hp.hcap, hp.hnil, ?_⟩, hs, hrv, ?_, fun _ => ⟨hp, hL, hM⟩⟩
 ·
  rcases hp.hat with h0 | ⟨b, off, h1, h2⟩
  ·
   exact Or.inl h0
  ·
   refine Or.inr ⟨b, off, h1, fun t ht => ?_⟩
   obtain ⟨n, ao', l, c, hc, hi⟩ := h2 t (by rw [hp.hlen, ← rsOf_len]; exact ht)
   rw [rsOf_get]
   exact ⟨ao', l, c, ⟨by rw [← hi.sg]; exact hc.1, hc.2⟩, hi.row, mag_wd _⟩
 ·
  unfold pmayB
  rw [decide_eq_true (show len ≤ 1025 by omega), Bool.true_and, Bool.and_eq_true]
  refine ⟨?_, ?_⟩
  ·
   rw [List.all_eq_true]
   intro r hr
   obtain ⟨v, _, rfl⟩ := List.mem_map.1 hr
   exact mayB_int v
  ·
   by_cases e : len = 0
   ·
    rw [decide_eq_true e]; rfl
   ·
    rw [Bool.or_eq_true]
    right
    have hl : len - 1 < (rsOf p).length := by rw [rsOf_len, ← hp.hlen]; omega
    have e2 : (rsOf p).getD (len - 1) (false, []) = _ := rv_eq hl
    rw [e2, rsOf_get]
    refine decide_eq_true (fun q => ?_)
    have h3 := hL (by rw [← hp.hlen]; omega)
    rw [← hp.hlen] at h3
    exact lim_pos h3 (by unfold lim; rw [show mag (dig p (len - 1)).natAbs = [] from q]; rfl)
end Go.Proofs.YtpbkonafojemiaaGreatDoor
namespace Go.Proofs.YtpbkonafojemiaaGreatDoor
open Go.RowKit
def evQ : List Int → Rat → Rat
 | [], _ => 0
 | c :: l, x => (c : Rat) + x * evQ l x
def homo : List Int → Int → Int → Int
 | [], _, _ => 0
 | c :: l, n, d => homo l n d * n + c * d ^ l.length
theorem homo_val (l : List Int) (n d : Int) (x : Rat) (hx : x * (d : Rat) = (n : Rat)) : (homo l n d : Rat) * (d : Rat) = evQ l x * (d : Rat) ^ l.length := by
 induction l with
 | nil => simp [homo, evQ, Rat.zero_mul]
 | cons c l ih =>
  have e1 : (homo (c :: l) n d : Rat) = (homo l n d : Rat) * (n : Rat) + (c : Rat) * (d : Rat) ^ l.length := by
   show ((homo l n d * n + c * d ^ l.length : Int) : Rat) = _
   rw [Rat.intCast_add, Rat.intCast_mul, Rat.intCast_mul, Rat.intCast_pow]
  have e2 : evQ (c :: l) x = (c : Rat) + x * evQ l x := rfl
  rw [e1, e2, List.length_cons, Rat.pow_succ, Rat.add_mul, Rat.add_mul, ← hx]
  have e3 : (homo l n d : Rat) * (x * (d : Rat)) * (d : Rat) = ((homo l n d : Rat) * (d : Rat)) * (x * (d : Rat)) := by grind
  rw [e3, ih]
  grind
theorem homo_drop (p : List Int) (n d : Int) (j : Nat) (h : j < p.length) : homo (p.drop j) n d = homo (p.drop (j + 1)) n d * n + dig p j * d ^ (p.length - (j + 1)) := by
 rw [List.drop_eq_getElem_cons h]
 show homo (p.drop (j + 1)) n d * n + p[j] * d ^ (p.drop (j + 1)).length = _
 rw [List.length_drop]
 congr 2
 unfold dig; rw [List.getD_eq_getElem?_getD, List.getElem?_eq_getElem h]; rfl
theorem lim_pow (d : Int) (m : Nat) (h : lim d ≤ 2) : lim (d ^ m) ≤ 2 * m + 1 := by
 induction m with
 | zero => rw [Int.pow_zero]; decide
 | succ m ih => rw [Int.pow_succ]; have := lim_mul (d ^ m) d; omega
theorem homo_lim (A N : Nat) (n d : Int) (hn : lim n ≤ 2) (hd : lim d ≤ 2) : ∀ l : List Int, Lim A l → l.length ≤ N → lim (homo l n d) ≤ l.length * (A + 2 * N + 5) := by
 intro l
 induction l with
 | nil => intro _ _; show lim 0 ≤ _; rw [lim_zero]; omega
 | cons c l ih =>
  intro hA hN
  have h1 := ih (fun t => by have := hA (t + 1); rw [dig_cons] at this; exact this) (by simp at hN; omega)
  have h2 : lim c ≤ A := by have := hA 0; simpa [dig] using this
  have h3 := lim_mul (homo l n d) n
  have h4 := lim_mul c (d ^ l.length)
  have h5 := lim_pow d l.length hd
  have h6 := lim_add (homo l n d * n) (c * d ^ l.length)
  show lim (homo l n d * n + c * d ^ l.length) ≤ _
  rw [List.length_cons] at hN ⊢
  rw [Nat.succ_mul]
  omega
theorem homo_rat (l : List Int) (a : Rat) (D : Nat) (hD : (D : Int) = (a.den : Int) ^ (l.length - 1)) (h0 : D ≠ 0) : evQ l a = Rat.normalize (homo l a.num (a.den : Int)) D h0 := by
 rw [Rat.normalize_eq_mkRat, Rat.mkRat_eq_div]
 have hd0 : ((a.den : Int) : Rat) ≠ 0 := by
  intro h
  have := a.den_nz
  have h2 : (a.den : Int) = 0 := by exact_mod_cast h
  omega
 have hx : a * ((a.den : Int) : Rat) = (a.num : Rat) := by
  have h1 : (a.num : Rat) / ((a.den : Nat) : Rat) = a := by rw [← Rat.mkRat_eq_div, Rat.mkRat_self]
  have h2 : ((a.den : Nat) : Rat) = ((a.den : Int) : Rat) := by norm_cast
  have h3 : a = (a.num : Rat) * ((a.den : Int) : Rat)⁻¹ := by rw [← h2, ← Rat.div_def]; exact h1.symm
  have h4 := congrArg (· * ((a.den : Int) : Rat)) h3
  simp only [Rat.mul_assoc, Rat.inv_mul_cancel _ hd0, Rat.mul_one] at h4
  exact h4
 have hv := homo_val l a.num (a.den : Int) a hx
 have hDq : ((D : Nat) : Rat) = ((a.den : Int) : Rat) ^ (l.length - 1) := by
  have h1 : ((D : Int) : Rat) = ((a.den : Int) : Rat) ^ (l.length - 1) := by rw [hD, Rat.intCast_pow]
  exact_mod_cast h1
 have hDn : ((D : Nat) : Rat) ≠ 0 := by
  intro h
  exact h0 (by exact_mod_cast h)
 have key : evQ l a * ((D : Nat) : Rat) = (homo l a.num (a.den : Int) : Rat) := by
  cases l with
  | nil => simp [evQ, homo, Rat.zero_mul]
  | cons c l =>
   have e1 : ((a.den : Int) : Rat) ^ (c :: l).length = ((D : Nat) : Rat) * ((a.den : Int) : Rat) := by
    rw [hDq, ← Rat.pow_succ]; congr 1
   rw [e1, ← Rat.mul_assoc] at hv
   have h5 := congrArg (· * ((a.den : Int) : Rat)⁻¹) hv
   simp only [Rat.mul_assoc, Rat.mul_inv_cancel _ hd0, Rat.mul_one] at h5
   exact h5.symm
 rw [← key, Rat.div_def, Rat.mul_assoc, Rat.mul_inv_cancel _ hDn, Rat.mul_one]
end Go.Proofs.YtpbkonafojemiaaGreatDoor
namespace Go.Proofs.YtpbkonafojemiaaGreatDoor
open Go.RowKit
def PdSt (r1 b : List Int) (top L : Int) (i j : Nat) (l : List Int) : Prop := l.length = r1.length ∧ ∀ t, t < r1.length → dig l t = if i ≤ t ∧ t < i + j then dig r1 t * L - top * dig b (t - i) else dig r1 t
theorem PdSt.start (r1 b : List Int) (top L : Int) (i : Nat) : PdSt r1 b top L i 0 r1 := ⟨rfl, fun t ht => by rw [if_neg (by omega)]⟩
theorem PdSt.at {r1 b l : List Int} {top L : Int} {i j : Nat} (h : PdSt r1 b top L i j l) (hj : i + j < r1.length) : dig l (i + j) = dig r1 (i + j) := by rw [h.2 _ hj, if_neg (by omega)]
theorem PdSt.step {r1 b l : List Int} {top L : Int} {i j : Nat} (h : PdSt r1 b top L i j l) (hj : i + j < r1.length) : PdSt r1 b top L i (j + 1) (l.set (i + j) (dig l (i + j) * L - top * dig b j)) := by
 refine ⟨by simpa using h.1, fun t ht => ?_⟩
 rw [pdig_set _ _ _ _ (by rw [h.1]; exact ht)]
 by_cases e : t = i + j
 ·
  subst e
  rw [if_pos rfl, if_pos (by omega), h.at hj, show i + j - i = j by omega]
 ·
  rw [if_neg e, h.2 t ht]
  by_cases e2 : i ≤ t ∧ t < i + j
  ·
   rw [if_pos e2, if_pos (by omega)]
  ·
   rw [if_neg e2, if_neg (by omega)]
theorem PdSt.lim {r1 b l : List Int} {top L : Int} {i j M K : Nat} (h : PdSt r1 b top L i j l) (h1 : Lim M r1) (h2 : Lim K b) (h3 : lim top ≤ M) (h4 : lim L ≤ K) : Lim (2 * M + 2 * K + 1) l := by
 intro t
 by_cases ht : t < r1.length
 ·
  rw [h.2 t ht]
  split
  ·
   have a1 := lim_mul (dig r1 t) L
   have a2 := lim_mul top (dig b (t - i))
   have a3 := lim_add (dig r1 t * L) (-(top * dig b (t - i)))
   rw [lim_neg] at a3
   have a4 := h1 t
   have a5 := h2 (t - i)
   rw [Int.sub_eq_add_neg]
   omega
  ·
   have := h1 t; omega
 ·
  rw [dig_past (by rw [h.1]; omega), lim_zero]; omega
def evS (f : Nat → Int) (x : Int) : Nat → Int
 | 0 => 0
 | n + 1 => evS f x n + f n * x ^ n
theorem evS_congr {f g : Nat → Int} {x : Int} {n : Nat} (h : ∀ t, t < n → f t = g t) : evS f x n = evS g x n := by
 induction n with
 | zero => rfl
 | succ n ih => unfold evS; rw [ih (fun t ht => h t (by omega)), h n (by omega)]
theorem evS_take (l : List Int) (x : Int) (n : Nat) (h : n ≤ l.length) : ev (l.take n) x = evS (dig l) x n := by
 induction n with
 | zero => simp [ev, evS]
 | succ n ih => rw [ev_take l n x (by omega), ih (by omega)]; rfl
theorem evS_ev (l : List Int) (x : Int) : ev l x = evS (dig l) x l.length := by
 have := evS_take l x l.length (Nat.le_refl _); rwa [List.take_length] at this
theorem evS_shift (f : Nat → Int) (x : Int) (n : Nat) : evS f x (n + 1) = f 0 + x * evS (fun t => f (t + 1)) x n := by
 induction n with
 | zero => simp [evS]
 | succ n ih =>
  rw [evS, ih]
  show _ = f 0 + x * (evS (fun t => f (t + 1)) x n + f (n + 1) * x ^ n)
  rw [Int.pow_succ]; grind
theorem evS_lin (f g : Nat → Int) (a c x : Int) (n : Nat) : evS (fun t => f t * a - c * g t) x n = evS f x n * a - c * evS g x n := by
 induction n with
 | zero => simp [evS]
 | succ n ih => simp only [evS]; rw [ih]; grind
structure PDv (a b : List Int) (k J : Nat) (r q : List Int) : Prop where
 lr : r.length = a.length
 lq : q.length = k
 low : ∀ t, t < J → dig r t = dig a t
 zer : ∀ t, t < J → dig q t = 0
 idn : ∀ x, dig b (b.length - 1) ^ k * ev a x = ev q x * ev b x + dig b (b.length - 1) ^ k * evS (dig a) x J + dig b (b.length - 1) ^ J * x ^ J * evS (fun t => dig r (J + t)) x (b.length - 1)
theorem evS_split (f : Nat → Int) (x : Int) (m n : Nat) : evS f x (m + n) = evS f x m + x ^ m * evS (fun t => f (m + t)) x n := by
 induction n with
 | zero => simp [evS]
 | succ n ih =>
  rw [← Nat.add_assoc, evS, ih, evS, Int.pow_add]; grind
theorem PDv.start {a b : List Int} {k : Nat} (hb : 0 < b.length) (hk : a.length + 1 = b.length + k) : PDv a b k k a (List.replicate k 0) := by
 refine ⟨rfl, by simp, fun _ _ => rfl, fun t _ => rep_dig _ _, fun x => ?_⟩
 rw [rep_ev, evS_ev a x, show a.length = k + (b.length - 1) by omega, evS_split]
 grind
theorem ev_set0 {q : List Int} {i : Nat} {v x : Int} (hi : i < q.length) (h0 : dig q i = 0) : ev (q.set i v) x = ev q x + v * x ^ i := by
 have := ev_set q i v x hi
 rw [h0, Int.zero_add] at this; exact this
theorem PDv.step {a b r q l : List Int} {k i : Nat} {top L : Int} (h : PDv a b k (i + 1) r q) (hL : L = dig b (b.length - 1)) (hb : 0 < b.length) (hk : a.length + 1 = b.length + k) (hi : i < k)
  (htop : top = dig (r.set i (dig r i * L ^ (k - 1 - i))) (i + (b.length - 1))) (hl : PdSt (r.set i (dig r i * L ^ (k - 1 - i))) b top L i (b.length - 1) l) : PDv a b k i l (q.set i (top * L ^ i)) := by
 have hir : i < r.length := by rw [h.lr]; omega
 obtain ⟨r1, hr1⟩ : ∃ r1, r1 = r.set i (dig r i * L ^ (k - 1 - i)) := ⟨_, rfl⟩
 have hr1l : r1.length = a.length := by rw [hr1, List.length_set]; exact h.lr
 rw [← hr1] at htop hl
 have d0 : dig r1 i = dig a i * L ^ (k - 1 - i) := by rw [hr1, pdig_set _ _ _ _ hir, if_pos rfl, h.low i (by omega)]
 have d1 : ∀ t, t ≠ i → dig r1 t = dig r t := fun t ht => by
  by_cases e : t < r.length
  ·
   rw [hr1, pdig_set _ _ _ _ e, if_neg ht]
  ·
   rw [dig_past (by rw [hr1, List.length_set]; omega), dig_past (by omega)]
 refine ⟨by rw [hl.1]; exact hr1l, by rw [List.length_set]; exact h.lq, fun t ht => ?_, fun t ht => ?_, fun x => ?_⟩
 ·
  rw [hl.2 t (by omega), if_neg (by omega), d1 t (by omega), h.low t (by omega)]
 ·
  rw [pdig_set _ _ _ _ (by rw [h.lq]; omega), if_neg (by omega), h.zer t (by omega)]
 ·
  rw [h.idn x, ev_set0 (by rw [h.lq]; exact hi) (h.zer i (by omega)), ← hL]
  have e1 : evS (fun t => dig l (i + t)) x (b.length - 1) = evS (fun t => dig r1 (i + t) * L - top * dig b t) x (b.length - 1) := evS_congr fun t ht => by
   rw [hl.2 _ (by omega), if_pos (by omega), show i + t - i = t by omega]
  rw [e1, evS_lin (fun t => dig r1 (i + t)) (dig b) L top x]
  have e2 : evS (fun t => dig r1 (i + t)) x (b.length - 1 + 1) = evS (fun t => dig r1 (i + t)) x (b.length - 1) + top * x ^ (b.length - 1) := by rw [evS, htop]
  have e3 : evS (fun t => dig r1 (i + t)) x (b.length - 1 + 1) = dig a i * L ^ (k - 1 - i) + x * evS (fun t => dig r (i + 1 + t)) x (b.length - 1) := by
   rw [evS_shift]
   rw [show i + 0 = i from rfl, d0]
   congr 2
   exact evS_congr fun t ht => by rw [d1 _ (by omega), show i + (t + 1) = i + 1 + t by omega]
  have e4 : ev b x = evS (dig b) x (b.length - 1) + L * x ^ (b.length - 1) := by
   rw [evS_ev b x, show b.length = b.length - 1 + 1 by omega, evS, hL]; congr 2
  have e5 : evS (dig a) x (i + 1) = evS (dig a) x i + dig a i * x ^ i := rfl
  have e6 : L ^ k = L ^ i * L * L ^ (k - 1 - i) := by
   rw [← Int.pow_succ, ← Int.pow_add]; congr 1; omega
  have e7 : evS (fun t => dig r1 (i + t)) x (b.length - 1) = dig a i * L ^ (k - 1 - i) + x * evS (fun t => dig r (i + 1 + t)) x (b.length - 1) - top * x ^ (b.length - 1) := by rw [← e3, e2]; grind
  rw [e7, e5, e4, Int.pow_succ, Int.pow_succ, e6]
  grind
theorem PDv.done {a b r q : List Int} {k : Nat} (h : PDv a b k 0 r q) (hr : b.length - 1 ≤ r.length) (x : Int) : dig b (b.length - 1) ^ k * ev a x = ev q x * ev b x + ev (r.take (b.length - 1)) x := by
 rw [h.idn x, evS_take r x _ hr]
 have : evS (fun t => dig r (0 + t)) x (b.length - 1) = evS (dig r) x (b.length - 1) := evS_congr fun t _ => by rw [Nat.zero_add]
 rw [this]
 simp [evS]
end Go.Proofs.YtpbkonafojemiaaGreatDoor
namespace Go.Proofs.YtpbkonafojemiaaGreatDoor
open Go.RowKit
theorem mulP_lead {p s : List Int} (hp : Lead p) (hs : Lead s) : Lead (mulP p s) := by
 unfold mulP
 split
 ·
  intro h; simp at h
 ·
  rename_i h; exact mul_lead hp hs (by omega) (by omega)
end Go.Proofs.YtpbkonafojemiaaGreatDoor
namespace Go.Proofs.YtpbkonafojemiaaGreatDoor
open Go.RowKit
def syT (l : List Int) (x d : Int) : Nat → Int
 | 0 => dig l (l.length - 1)
 | m + 1 => dig l (l.length - 2 - m) + syT l x d m / d * x
theorem evQ_drop (l : List Int) (α : Rat) (i : Nat) (h : i < l.length) : evQ (l.drop i) α = (dig l i : Rat) + α * evQ (l.drop (i + 1)) α := by
 rw [List.drop_eq_getElem_cons h]
 show (l[i] : Rat) + α * evQ (l.drop (i + 1)) α = _
 congr 2
 unfold dig; rw [List.getD_eq_getElem?_getD, List.getElem?_eq_getElem h]; rfl
theorem evQ_split (l : List Int) (α : Rat) (i : Nat) (h : i ≤ l.length) : evQ l α = evQ (l.take i) α + α ^ i * evQ (l.drop i) α := by
 induction i with
 | zero => simp [evQ, Rat.zero_add, Rat.one_mul]
 | succ i ih =>
  rw [ih (by omega), evQ_drop l α i (by omega)]
  have h1 : evQ (l.take (i + 1)) α = evQ (l.take i) α + α ^ i * (dig l i : Rat) := by
   have h2 : ∀ (l : List Int) (i : Nat), i < l.length → evQ (l.take (i + 1)) α = evQ (l.take i) α + α ^ i * (dig l i : Rat) := by
    intro l
    induction l with
    | nil => intro i hi; simp at hi
    | cons a l ih2 =>
     intro i hi
     cases i with
     | zero => simp [evQ, dig]; grind
     | succ i =>
      have h3 := ih2 i (by simpa using hi)
      simp only [List.take_succ_cons, evQ, dig_cons]
      rw [h3, Rat.pow_succ]; grind
   exact h2 l i (by omega)
  rw [h1, Rat.pow_succ]; grind
theorem sy_horner {l : List Int} {x d : Int} {α : Rat} (hα : α * (d : Rat) = (x : Rat)) : ∀ m, m < l.length → (∀ j, j < m → d ∣ syT l x d j) → evQ (l.drop (l.length - 1 - m)) α = (syT l x d m : Rat) := by
 intro m
 induction m with
 | zero =>
  intro hm _
  rw [Nat.sub_zero, evQ_drop l α _ (by omega), show l.length - 1 + 1 = l.length by omega, List.drop_length]
  simp [evQ, syT, Rat.mul_zero, Rat.add_zero]
 | succ m ih =>
  intro hm hj
  have h1 := ih (by omega) (fun j h => hj j (by omega))
  rw [evQ_drop l α _ (by omega), show l.length - 1 - (m + 1) + 1 = l.length - 1 - m by omega, h1, show l.length - 1 - (m + 1) = l.length - 2 - m by omega]
  obtain ⟨c, hc⟩ := hj m (by omega)
  show _ = ((dig l (l.length - 2 - m) + syT l x d m / d * x : Int) : Rat)
  by_cases h0 : d = 0
  ·
   subst h0
   rw [hc]
   have hx : (x : Rat) = 0 := by rw [← hα]; simp [Rat.mul_zero]
   have hx' : x = 0 := by exact_mod_cast hx
   subst hx'
   simp [Rat.mul_zero, Rat.add_zero]
  ·
   have h2 : syT l x d m / d = c := by rw [hc]; exact Int.mul_ediv_cancel_left c h0
   rw [h2, hc, Rat.intCast_add, Rat.intCast_mul, Rat.intCast_mul, ← hα]; grind
theorem sy_dvd {l : List Int} {x d : Int} {α : Rat} (hα : α * (d : Rat) = (x : Rat)) (hg : Nat.Coprime d.natAbs x.natAbs) (h0 : evQ l α = 0) : ∀ m, m + 1 < l.length → d ∣ syT l x d m := by
 intro m
 induction m using Nat.strongRecOn with
 | _ m ih =>
  intro hm
  have h1 := sy_horner hα m (by omega) (fun j hj => ih j hj (by omega))
  have h2 := evQ_split l α (l.length - 1 - m) (by omega)
  rw [h0, h1] at h2
  have h3 := homo_val (l.take (l.length - 1 - m)) x d α hα
  have hl : (l.take (l.length - 1 - m)).length = l.length - 1 - m := by rw [List.length_take]; omega
  rw [hl] at h3
  obtain ⟨r, hr⟩ : ∃ r, r = l.length - 1 - m := ⟨_, rfl⟩
  rw [← hr] at h2 h3
  have h4 : (homo (l.take r) x d : Rat) * (d : Rat) + (x : Rat) ^ r * (syT l x d m : Rat) = 0 := by
   rw [h3, ← hα]
   have : (α * (d : Rat)) ^ r = α ^ r * (d : Rat) ^ r := by
    clear h2 h3 hr
    induction r with
    | zero => simp [Rat.one_mul]
    | succ r ih => rw [Rat.pow_succ, Rat.pow_succ, Rat.pow_succ, ih]; grind
   rw [this]
   have h5 : evQ (l.take r) α * (d : Rat) ^ r + α ^ r * (d : Rat) ^ r * (syT l x d m : Rat) = (evQ (l.take r) α + α ^ r * (syT l x d m : Rat)) * (d : Rat) ^ r := by grind
   rw [h5, ← h2, Rat.zero_mul]
  have h5 : homo (l.take r) x d * d + x ^ r * syT l x d m = 0 := by exact_mod_cast h4
  have h6 : d ∣ x ^ r * syT l x d m := ⟨-homo (l.take r) x d, by rw [Int.mul_comm d, Int.neg_mul]; omega⟩
  have h7 : d.natAbs ∣ x.natAbs ^ r * (syT l x d m).natAbs := by
   have := Int.natAbs_dvd_natAbs.2 h6
   rwa [Int.natAbs_mul, Int.natAbs_pow] at this
  exact Int.natAbs_dvd_natAbs.1 ((hg.pow_right r).dvd_of_dvd_mul_left h7)
def absS (l : List Int) : Nat → Nat
 | 0 => 0
 | k + 1 => absS l k + (dig l k).natAbs
theorem absS_mono (l : List Int) {j k : Nat} (h : j ≤ k) : absS l j ≤ absS l k := by
 induction k with
 | zero =>
  obtain rfl : j = 0 := by omega
  exact Nat.le_refl _
 | succ k ih =>
  by_cases e : j = k + 1
  ·
   subst e; exact Nat.le_refl _
  ·
   exact Nat.le_trans (ih (by omega)) (Nat.le_add_right _ _)
theorem absS_le {l : List Int} {M : Nat} (h : ∀ t, (dig l t).natAbs ≤ M) (k : Nat) : absS l k ≤ k * M := by
 induction k with
 | zero => exact Nat.zero_le _
 | succ k ih => rw [absS, Nat.succ_mul]; exact Nat.add_le_add ih (h k)
theorem le_of_mul {p a b c : Nat} (hp : 0 < p) (h : p * a ≤ b + p * c) : a ≤ b + c := by
 have h1 : b ≤ p * b := Nat.le_mul_of_pos_left b hp
 have h2 : p * a ≤ p * (b + c) := by rw [Nat.mul_add]; omega
 exact Nat.le_of_mul_le_mul_left h2 hp
theorem sy_small {l : List Int} {x d : Int} (hd : 0 < d) (hev : ∀ m, m + 1 < l.length → d ∣ syT l x d m) (hend : syT l x d (l.length - 1) = 0) : ∀ m, m + 1 < l.length → (syT l x d m / d).natAbs ≤ absS l l.length := by
 have hq : ∀ m, m + 1 < l.length → d * (syT l x d m / d) = syT l x d m := fun m hm => Int.mul_ediv_cancel' (hev m hm)
 by_cases hx : x.natAbs ≤ d.natAbs
 ·
  have key : ∀ m, m + 1 < l.length → (syT l x d m / d).natAbs + absS l (l.length - 1 - m) ≤ absS l l.length := by
   intro m
   induction m with
   | zero =>
    intro hm
    have h1 := hq 0 hm
    have h2 : d.natAbs * (syT l x d 0 / d).natAbs = (dig l (l.length - 1)).natAbs := by rw [← Int.natAbs_mul, h1]; rfl
    have h3 : (syT l x d 0 / d).natAbs ≤ d.natAbs * (syT l x d 0 / d).natAbs := Nat.le_mul_of_pos_left _ (by omega)
    have h4 : absS l l.length = absS l (l.length - 1) + (dig l (l.length - 1)).natAbs := by
     have : l.length = l.length - 1 + 1 := by omega
     rw [this]; rfl
    rw [Nat.sub_zero]; omega
   | succ m ih =>
    intro hm
    have h0 := ih (by omega)
    have h1 := hq (m + 1) hm
    have h2 : syT l x d (m + 1) = dig l (l.length - 2 - m) + syT l x d m / d * x := rfl
    have h3 : d.natAbs * (syT l x d (m + 1) / d).natAbs ≤ (dig l (l.length - 2 - m)).natAbs + d.natAbs * (syT l x d m / d).natAbs := by
     rw [← Int.natAbs_mul, h1, h2]
     refine Nat.le_trans (Int.natAbs_add_le _ _) ?_
     rw [Int.natAbs_mul, Nat.mul_comm (syT l x d m / d).natAbs]
     exact Nat.add_le_add_left (Nat.mul_le_mul_right _ hx) _
    have h4 := le_of_mul (by omega) h3
    have h5 : absS l (l.length - 1 - m) = absS l (l.length - 1 - (m + 1)) + (dig l (l.length - 2 - m)).natAbs := by
     have : l.length - 1 - m = l.length - 2 - m + 1 := by omega
     rw [this, absS, show l.length - 1 - (m + 1) = l.length - 2 - m by omega]
    omega
  intro m hm; have := key m hm; omega
 ·
  have hx0 : 0 < x.natAbs := by omega
  have key : ∀ i m, m + 2 + i = l.length → (syT l x d m / d).natAbs ≤ absS l (l.length - 1 - m) := by
   intro i
   induction i with
   | zero =>
    intro m hm
    have h1 : syT l x d (m + 1) = dig l (l.length - 2 - m) + syT l x d m / d * x := rfl
    rw [show m + 1 = l.length - 1 by omega, hend, show l.length - 2 - m = 0 by omega] at h1
    have h2 : syT l x d m / d * x = -dig l 0 := by omega
    have h3 : (syT l x d m / d).natAbs * x.natAbs = (dig l 0).natAbs := by rw [← Int.natAbs_mul, h2, Int.natAbs_neg]
    have h4 : (syT l x d m / d).natAbs ≤ (syT l x d m / d).natAbs * x.natAbs := Nat.le_mul_of_pos_right _ hx0
    rw [show l.length - 1 - m = 0 + 1 by omega, absS]
    omega
   | succ i ih =>
    intro m hm
    have h0 := ih (m + 1) (by omega)
    have h1 := hq (m + 1) (by omega)
    have h2 : syT l x d (m + 1) = dig l (l.length - 2 - m) + syT l x d m / d * x := rfl
    have h3 : x.natAbs * (syT l x d m / d).natAbs ≤ (dig l (l.length - 2 - m)).natAbs + x.natAbs * (syT l x d (m + 1) / d).natAbs := by
     have h4 : syT l x d m / d * x = d * (syT l x d (m + 1) / d) + -dig l (l.length - 2 - m) := by rw [h1, h2]; omega
     rw [Nat.mul_comm, ← Int.natAbs_mul, h4]
     refine Nat.le_trans (Int.natAbs_add_le _ _) ?_
     rw [Int.natAbs_neg, Int.natAbs_mul, Nat.add_comm]
     exact Nat.add_le_add_left (Nat.mul_le_mul_right _ (by omega)) _
    have h4 := le_of_mul hx0 h3
    rw [show l.length - 1 - m = l.length - 2 - m + 1 by omega, absS]
    rw [show l.length - 1 - (m + 1) = l.length - 2 - m by omega] at h0
    omega
  intro m hm
  exact Nat.le_trans (key (l.length - m - 2) m (by omega)) (absS_mono l (by omega))
theorem sy_root {l : List Int} {x d : Int} {α : Rat} (hα : α * (d : Rat) = (x : Rat)) (hg : Nat.Coprime d.natAbs x.natAbs) (hl : 0 < l.length) : evQ l α = 0 ↔ (∀ m, m + 1 < l.length → d ∣ syT l x d m) ∧ syT l x d (l.length - 1) = 0 := by
 constructor
 ·
  intro h0
  have h1 := sy_dvd hα hg h0
  refine ⟨h1, ?_⟩
  have h2 := sy_horner hα (l.length - 1) (by omega) (fun j hj => h1 j (by omega))
  rw [Nat.sub_self, List.drop_zero, h0] at h2
  have : ((0 : Int) : Rat) = (syT l x d (l.length - 1) : Rat) := by exact_mod_cast h2
  exact_mod_cast this.symm
 ·
  rintro ⟨h1, h2⟩
  have h3 := sy_horner hα (l.length - 1) (by omega) (fun j hj => h1 j (by omega))
  rw [Nat.sub_self, List.drop_zero, h2] at h3
  rw [h3]; rfl
end Go.Proofs.YtpbkonafojemiaaGreatDoor
