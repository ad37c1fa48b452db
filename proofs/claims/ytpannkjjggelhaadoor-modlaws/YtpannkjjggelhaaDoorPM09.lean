/-
  MO: ModLaws' walk. (gen/mo.py)
-/
import Derived.Test.YtpannkjjggelhaaDoorPM08
namespace Go.Proofs.YtpannkjjggelhaaDoor
open Go.RowKit Go.Shelf
set_option linter.unusedVariables false
set_option linter.unusedSimpArgs false
theorem rows3 {w : World} {ao bo co : Option Addr} {la ca lb cb lc cc : Nat} {x y z : List Int} (hx : RowAt w .u64 ao la ca x ∧ Wd 18446744073709551616 x ∧ la ≤ 9223372036854775807) (hy : RowAt w .u64 bo lb cb y ∧ Wd 18446744073709551616 y ∧ lb ≤ 9223372036854775807) (hz : RowAt w .u64 co lc cc z ∧ Wd 18446744073709551616 z ∧ lc ≤ 9223372036854775807) (t : TypeId) :
    RowsAt (w.alloc (.cells #[.slice ao la ca, .slice bo lb cb, .slice co lc cc] t)) w.heap.size 3 (fun t => if t = 0 then ao else if t = 1 then bo else co) (fun t => if t = 0 then la else if t = 1 then lb else lc) (fun t => if t = 0 then ca else if t = 1 then cb else cc) (fun t => if t = 0 then x else if t = 1 then y else z) := by
  have hb : Below w.heap.size w (w.alloc (.cells #[.slice ao la ca, .slice bo lb cb, .slice co lc cc] t)) := (Below.refl _ _).alloc (Nat.le_refl _) _
  constructor
  · intro t ht
    by_cases h : t = 0
    · subst h; simp [go_sem]
    · by_cases h1 : t = 1
      · subst h1; simp [go_sem]
      · obtain rfl : t = 2 := by omega
        simp [go_sem]
  · intro t ht
    by_cases h : t = 0
    · subst h; exact hx.1.later hb
    · by_cases h1 : t = 1
      · subst h1; exact hy.1.later hb
      · simp only [if_neg h, if_neg h1]; exact hz.1.later hb
  · intro t ht
    by_cases h : t = 0
    · subst h; exact hx.2.1
    · by_cases h1 : t = 1
      · subst h1; exact hy.2.1
      · simp only [if_neg h, if_neg h1]; exact hz.2.1
  · intro t ht
    by_cases h : t = 0
    · subst h; exact hx.2.2
    · by_cases h1 : t = 1
      · subst h1; exact hy.2.2
      · simp only [if_neg h, if_neg h1]; exact hz.2.2
/-- a polynomial modulo p that is A, as the law holds it -/
def EqA (p : Int) (w : World) (o : Option Addr) (l c : Nat) (r : List Int) (A : Int → Int) (L : Nat) : Prop := GoodF p w o l c r ∧ EqM p (fun x => ev r x) A ∧ r.length ≤ L
theorem EqA.later {p : Int} {w w' : World} {o : Option Addr} {l c : Nat} {r : List Int} {A : Int → Int} {L : Nat} (h : EqA p w o l c r A L) (hb : Below w.heap.size w w') : EqA p w' o l c r A L := ⟨h.1.later hb, h.2⟩
theorem aAdd (p : Int) (ao bo : Option Addr) (la ca lb cb : Nat) (f g : List Int) (A C : Int → Int) (L : Nat) (w : World) (hp : PrimeT p w) (hf : EqA p w ao la ca f A L) (hg : EqA p w bo lb cb g C L) (hL : L ≤ 1025) :
    Calls Tryd.prog 8 #[.slice ao la ca, .slice bo lb cb, .int .u64 p] w fun e w' => (∃ o l c r, e = .returned (.tuple #[.slice o l c, .int .i64 0]) ∧ EqA p w' o l c r (fun x => A x + C x) L) ∧ Below w.heap.size w w' :=
  (mAdd_any p ao bo la ca lb cb f g w ⟨hp, hf.1, hg.1⟩).mono fun e w' h => by
    obtain ⟨o, l, c, r, he, ho, ⟨hpm, heq, hlen⟩, hc, hb⟩ := h
    have h1 := hf.1.1.row.hlen
    have h2 := hg.1.1.row.hlen
    have h3 := hf.2.2
    have h4 := hg.2.2
    have h5 : r.length ≤ L := by omega
    exact ⟨⟨o, l, c, r, he, goodF_own ho hpm hc (by omega), heq.trans (hf.2.1.add hg.2.1), h5⟩, hb⟩
theorem aMul (p : Int) (ao bo : Option Addr) (la ca lb cb : Nat) (f g : List Int) (A C : Int → Int) (L M : Nat) (w : World) (hp : PrimeT p w) (hf : EqA p w ao la ca f A L) (hg : EqA p w bo lb cb g C M) (hC : IsP C) (hL : L + M ≤ 1025) :
    Calls Tryd.prog 9 #[.slice ao la ca, .slice bo lb cb, .int .u64 p] w fun e w' => (∃ o l c r, e = .returned (.tuple #[.slice o l c, .int .i64 0]) ∧ EqA p w' o l c r (fun x => A x * C x) (L + M)) ∧ Below w.heap.size w w' := by
  have h1 := hf.1.1.row.hlen
  have h2 := hg.1.1.row.hlen
  have h3 := hf.2.2
  have h4 := hg.2.2
  refine (mMul_any p ao bo la ca lb cb f g w ⟨hp, hf.1, hg.1⟩ (by omega)).mono fun e w' h => ?_
  obtain ⟨o, l, c, r, he, ho, rfl, hc, hb⟩ := h
  have h5 := prodL_len p f g
  exact ⟨⟨o, l, c, _, he, goodF_own ho (prodL_pm hp.1 hf.1.2.1 hg.1.2.1) hc (by omega), (prodL_eqm p f g).trans (hf.2.1.mul hg.2.1 (IsP.ev f) hC), by omega⟩, hb⟩
theorem aDiv (p : Int) (ao bo : Option Addr) (la ca lb cb : Nat) (f g : List Int) (L : Nat) (w : World) (h : Good2 p w ao bo la ca lb cb f g) (hlb : 0 < lb) (hf : f.length ≤ L) (hg : g.length ≤ L) (hL : L ≤ 1025) :
    Calls Tryd.prog 12 #[.slice ao la ca, .slice bo lb cb, .int .u64 p] w fun e w' => (∃ qo ql qc q o l c r, e = .returned (.tuple #[.slice qo ql qc, .slice o l c, .int .i64 0]) ∧ EqA p w' qo ql qc q (fun x => ev q x) L ∧ EqA p w' o l c r (fun x => ev r x) L ∧ l < lb ∧ EqM p (fun x => ev f x) (fun x => ev q x * ev g x + ev r x)) ∧ Below w.heap.size w w' :=
  (mDivMod_any p ao bo la ca lb cb f g w h hlb).mono fun e w' hd => by
    obtain ⟨qo, ql, qc, o, l, c, q, r, he, hq, hr, hpq, hql, hpr, hrl, heq, hqc, hrc, hb⟩ := hd
    have h1 := hr.row.hlen
    have h2 := h.2.2.1.row.hlen
    exact ⟨⟨qo, ql, qc, q, o, l, c, r, he, ⟨goodF_own hq hpq hqc (by omega), EqM.of_eq fun _ => rfl, by omega⟩, ⟨goodF_own hr hpr hrc (by omega), EqM.of_eq fun _ => rfl, by omega⟩, by omega, heq⟩, hb⟩
theorem EqA.same {p : Int} {w w' : World} {o o' : Option Addr} {l c l' c' : Nat} {r r' : List Int} {A C : Int → Int} {L L' : Nat} (h : EqA p w o l c r A L) (g : EqA p w' o' l' c' r' C L') (hp : 0 < p) (hAC : EqM p A C) : r = r' :=
  Pm.inj hp h.1.2.1 g.1.2.1 (h.2.1.trans (hAC.trans g.2.1.symm))
theorem drop_ev (x : List Int) (j : Nat) (hj : j < x.length) (t : Int) : ev (x.drop j) t = dig x j + t * ev (x.drop (j + 1)) t := by
  rw [List.drop_eq_getElem_cons hj, ev]
  simp [dig, hj]
theorem mPowP (p : Int) (ao bo : Option Addr) (la ca lb cb : Nat) (f g : List Int) (w : World) (h : Good2 p w ao bo la ca lb cb f g) (hlb : 0 < lb) :
    Calls Tryd.prog 13 #[.slice ao la ca, .int .u64 p, .slice bo lb cb, .int .u64 p] w fun e w' => (∃ o l c r, e = .returned (.tuple #[.slice o l c, .int .i64 0]) ∧ PowA p g w' o l c r (fun x => ev f x ^ p.toNat)) ∧ Below w.heap.size w w' := by
  have h0 := h.1.1.two
  have h1 := h.1.2.1
  have := mPowA p p.toNat ao bo la ca lb cb f g w h hlb (by omega)
  rwa [show ((p.toNat : Nat) : Int) = p by omega] at this
/-- a row with one place, cut if it is 0 -/
theorem oneRow {p z : Int} {w : World} {g : Nat} {n : Nat} (hz : 0 ≤ z ∧ z < p) (hb : Blk w g .u64 25 [z]) (hn : n ≤ 1) (hc : Can ([z].take n)) (h0 : ∀ t, n ≤ t → dig [z] t = 0) : EqA p w (some ⟨g, 0, none⟩) n 1 ([z].take n) (fun _ => z) 1 := by
  have hr : RowAt w .u64 (some ⟨g, 0, none⟩) n 1 ([z].take n) := (Own.whole (B := 0) hb (Nat.zero_le _) rfl).row.take hn
  have hw : Wd p ([z].take n) := fun y hy => by
    have := List.mem_of_mem_take hy
    rw [List.mem_singleton.1 this]; exact hz
  refine ⟨⟨⟨hr, hw, by omega⟩, ⟨hw, hc⟩, by omega⟩, (take_eqm p h0).trans (EqM.of_eq fun t => by simp [ev]), by simp; omega⟩
theorem mAddZ (p : Int) (ao bo : Option Addr) (la ca lb cb : Nat) (f g h : List Int) (A : Int → Int) (z : Int) (w : World) (hp : PrimeT p w) (hf : GoodF p w ao la ca f) (hA : Md p h (fun x => ev f x) A) (hg : EqA p w bo lb cb g (fun _ => z) 1) :
    Calls Tryd.prog 8 #[.slice ao la ca, .slice bo lb cb, .int .u64 p] w fun e w' => (∃ o l c r, e = .returned (.tuple #[.slice o l c, .int .i64 0]) ∧ GoodF p w' o l c r ∧ Md p h (fun x => ev r x) (fun t => A t + z)) ∧ Below w.heap.size w w' :=
  (mAdd_any p ao bo la ca lb cb f g w ⟨hp, hf, hg.1⟩).mono fun e w' hm => by
    obtain ⟨o, l, c, r, he, ho, ⟨hpm, heq, hlen⟩, hc, hb⟩ := hm
    have h1 := hf.2.2
    have h2 := hg.1.2.2
    exact ⟨⟨o, l, c, r, he, goodF_own ho hpm hc (by omega), (Md.ofEqM h heq).trans (hA.add (Md.ofEqM h hg.2.1))⟩, hb⟩
theorem EqA.wide {p : Int} {w : World} {o : Option Addr} {l c : Nat} {r : List Int} {A : Int → Int} {L M : Nat} (h : EqA p w o l c r A L) (hm : L ≤ M) : EqA p w o l c r A M := ⟨h.1, h.2.1, Nat.le_trans h.2.2 hm⟩
theorem goodX {p : Int} (hp : IsPr p) (w : World) : GoodF p (w.alloc (.cells #[.int .u64 0, .int .u64 1] 25)) (some ⟨w.heap.size, 0, none⟩) 2 2 [0, 1] := by
  have h2 := hp.two
  have hw : Wd p [0, 1] := fun z hz => by
    simp at hz; omega
  exact ⟨⟨(Own.whole (B := 0) (Blk.new w .u64 25 [0, 1]) (Nat.zero_le _) rfl).row, hw, by decide⟩, ⟨hw, can_of_dig fun _ => by decide⟩, by decide⟩
set_option maxRecDepth 100000 in
set_option maxHeartbeats 8000000 in
theorem modLaws_any (lo : Option Addr) (len cap : Nat) (w : World) (hE : Items11 w lo len) (hl : len ≤ 9223372036854775807) (hT : TabAt 0 Lib.deBruijn64tab w) :
    Calls Tryd.prog 3 #[.slice lo len cap] w fun e w' => e = .returned (.bool true) ∧ Below w.heap.size w w' := by
  have HE : Hid (Items11 w lo len ∧ TabAt 0 Lib.deBruijn64tab w) := ⟨hE, hT⟩
  clear hE hT
  go_enter Tryd.func3, Tryd.ntmps3
  go_wp2
  go_loopw [3] (fun i wr => ∃ k : Nat, k ≤ len ∧ i = .int .i64 (k : Int) ∧ Below w.heap.size w wr) (fun i _ => len - (intOf i).toNat)
  case atStart => exact ⟨0, Nat.zero_le _, rfl, Below.refl _ _⟩
  case round =>
    obtain ⟨k, hk, rfl, hbe⟩ := hrel
    have HB : Hid (Below w.heap.size w wr) := hbe
    clear hbe
    have hwk : ∀ W, Below w.heap.size w W → Calls Tryd.prog 15 #[] W fun e w' => e = .returned (.bool true) ∧ Below W.heap.size W w' := fun W hb => mwakes_any W (mtab_later HE.out.2 hb)
    by_cases hlt : k < len ∧ k < 20
    · obtain ⟨hk1, hk2⟩ := hlt
      obtain ⟨b, off, rfl, _, ao, bo, co, la, ca, lb, cb, lc, cc, N, P, po, pl, pc, x, y, z, ls, hcs, hx, hy, hz, hN, hP, hpl⟩ := (HE.out.1.later HB.out) k hk1
      have z1 : (k : Int) < (len : Int) := by omega
      have z2 : (k : Int) < 20 := by omega
      have z3 : (0 : Int) ≤ (k : Int) := by omega
      have c0 : wr.cell? ⟨b, off + k * 6, none⟩ = some (.slice ao la ca) := hcs 0 _ rfl
      have c1 : wr.cell? ⟨b, off + k * 6 + 1, none⟩ = some (.slice bo lb cb) := hcs 1 _ rfl
      have c2 : wr.cell? ⟨b, off + k * 6 + 2, none⟩ = some (.slice co lc cc) := hcs 2 _ rfl
      have c3 : wr.cell? ⟨b, off + k * 6 + 3, none⟩ = some (.int .u64 N) := hcs 3 _ rfl
      have c4 : wr.cell? ⟨b, off + k * 6 + 4, none⟩ = some (.int .u64 P) := hcs 4 _ rfl
      have c5 : wr.cell? ⟨b, off + k * 6 + 5, none⟩ = some (.slice po pl pc) := hcs 5 _ rfl
      clear hcs
      obtain ⟨W, hW⟩ : ∃ W, W = wr.alloc (.cells #[.slice ao la ca, .slice bo lb cb, .slice co lc cc, .int .u64 N, .int .u64 P, .slice po pl pc] 29) := ⟨_, rfl⟩
      have HW : Hid (Below wr.heap.size wr W ∧ Below w.heap.size w W) := by
        have h1 : Below wr.heap.size wr W := by rw [hW]; exact (Below.refl _ _).alloc (Nat.le_refl _) _
        exact ⟨h1, bnextM (B := 0) HB.out h1⟩
      have KC : Hid (∀ w', Below W.heap.size W w' → w'.cell? ⟨wr.heap.size, 0, none⟩ = some (.slice ao la ca) ∧ w'.cell? ⟨wr.heap.size, 1, none⟩ = some (.slice bo lb cb) ∧ w'.cell? ⟨wr.heap.size, 2, none⟩ = some (.slice co lc cc) ∧ w'.cell? ⟨wr.heap.size, 3, none⟩ = some (.int .u64 N) ∧ w'.cell? ⟨wr.heap.size, 4, none⟩ = some (.int .u64 P) ∧ w'.cell? ⟨wr.heap.size, 5, none⟩ = some (.slice po pl pc)) := fun w' h => by
        rw [hW] at h
        exact sixcells (newcells wr wr.heap.size _ _ rfl w' h)
      have HX : Hid ((RowAt W .u64 ao la ca x ∧ Wd 18446744073709551616 x ∧ la ≤ 9223372036854775807) ∧ (RowAt W .u64 bo lb cb y ∧ Wd 18446744073709551616 y ∧ lb ≤ 9223372036854775807) ∧ (RowAt W .u64 co lc cc z ∧ Wd 18446744073709551616 z ∧ lc ≤ 9223372036854775807) ∧ (0 ≤ P ∧ P < 18446744073709551616)) :=
        ⟨⟨hx.1.later HW.out.1, hx.2⟩, ⟨hy.1.later HW.out.1, hy.2⟩, ⟨hz.1.later HW.out.1, hz.2⟩, hP⟩
      obtain ⟨hv1, hh1⟩ : ∃ hv1, hvI la lb lc pl ls = hv1 := ⟨_, rfl⟩
      have hcH := mheavy_any hv1 ao bo co la ca lb cb lc cc N P po pl pc ls W (hpl.later HW.out.1) hh1
      clear hx hy hz hN hP hpl
      cases hv1
      · have HL : Hid (la ≤ 12 ∧ lb ≤ 12 ∧ lc ≤ 12) := by
          simp only [hvI, Bool.or_eq_false_iff, decide_eq_false_iff_not] at hh1
          exact ⟨by omega, by omega, by omega⟩
        clear hh1
        have HRW : Hid (∀ w1, Below W.heap.size W w1 → RowsAt (w1.alloc (.cells #[.slice ao la ca, .slice bo lb cb, .slice co lc cc] 24)) w1.heap.size 3 (fun t => if t = 0 then ao else if t = 1 then bo else co) (fun t => if t = 0 then la else if t = 1 then lb else lc) (fun t => if t = 0 then ca else if t = 1 then cb else cc) (fun t => if t = 0 then x else if t = 1 then y else z)) := fun w1 hb => rows3 ⟨HX.out.1.1.later hb, HX.out.1.2⟩ ⟨HX.out.2.1.1.later hb, HX.out.2.1.2⟩ ⟨HX.out.2.2.1.1.later hb, HX.out.2.2.1.2⟩ _
        by_cases hok : FormOk P 3 (fun t => if t = 0 then la else if t = 1 then lb else lc) (fun t => if t = 0 then x else if t = 1 then y else z)
        · have HOK : Hid (FormOk P 3 (fun t => if t = 0 then la else if t = 1 then lb else lc) (fun t => if t = 0 then x else if t = 1 then y else z)) := hok
          clear hok
          have HF : Hid (∀ w1, Below W.heap.size W w1 → Calls Tryd.prog 7 #[.int .u64 P, .slice (some ⟨w1.heap.size, 0, none⟩) 3 3] (w1.alloc (.cells #[.slice ao la ca, .slice bo lb cb, .slice co lc cc] 24)) fun e w' => e = .returned (.int .i64 0) ∧ Below W.heap.size W w') := fun w1 hb =>
            (form_ok P w1.heap.size 3 _ _ _ _ _ HX.out.2.2.2 (HRW.out w1 hb) (by decide) HOK.out).mono fun e w' h => ⟨h.1, by rw [h.2]; exact hb.alloc hb.size _⟩
          have HGD : Hid (∀ w', Below W.heap.size W w' → PrimeT P w' ∧ EqA P w' ao la ca x (fun t => ev x t) 12 ∧ EqA P w' bo lb cb y (fun t => ev y t) 12 ∧ EqA P w' co lc cc z (fun t => ev z t) 12) := fun w' hb => by
            have h0 := HOK.out.2 0 (by decide)
            have h1 := HOK.out.2 1 (by decide)
            have h2 := HOK.out.2 2 (by decide)
            simp only [if_true, if_neg (show ¬ (1 : Nat) = 0 by decide), if_neg (show ¬ (2 : Nat) = 0 by decide), if_neg (show ¬ (2 : Nat) = 1 by decide)] at h0 h1 h2
            have hL := HL.out
            have k0 := HX.out.1.1.hlen
            have k1 := HX.out.2.1.1.hlen
            have k2 := HX.out.2.2.1.1.hlen
            exact ⟨⟨HOK.out.1.1, HOK.out.1.2, mtab_later HE.out.2 (bnextM (B := 0) HW.out.2 hb)⟩, ⟨frow_of (HX.out.1.1.later hb) h0.1 h0.2, EqM.of_eq fun _ => rfl, by omega⟩, ⟨frow_of (HX.out.2.1.1.later hb) h1.1 h1.2, EqM.of_eq fun _ => rfl, by omega⟩, ⟨frow_of (HX.out.2.2.1.1.later hb) h2.1 h2.2, EqM.of_eq fun _ => rfl, by omega⟩⟩
          have HP0 : Hid (0 < P ∧ IsPr P ∧ la = x.length ∧ lb = y.length) := ⟨by have := HOK.out.1.1.two; omega, HOK.out.1.1, HX.out.1.1.hlen, HX.out.2.1.1.hlen⟩
          by_cases hlb : lb = 0
          · subst hlb
            go_wp2_with (first
              | (go_at_call 11; have _t := H7; refine (meqF_any true o4 o7 l4 k4 l7 k7 r4 r7 w7 H7.out.2.1.1.1.row H7.out.2.2.1.1.row (by have := H7.out.2.1.1.2.2; omega) (decide_eq_true (H7.out.2.1.same H7.out.2.2 HP0.out.1 (EqM.of_eq fun t => Int.mul_add _ _ _)))).mono ?_; rintro e w8 ⟨rfl, hb8⟩; obtain ⟨a8_0, a8_1, a8_2, a8_3, a8_4, a8_5⟩ := KC.out _ (bnextM (B := 0) H7.out.1 hb8); have H8 : Hid (Below W.heap.size W w8) := bnextM (B := 0) H7.out.1 hb8; clear hb8)
              | (go_at_call 10; refine (mnum_any 0 _).mono ?_; rintro e wn ⟨rfl, hwn⟩; replace hwn := hwn.symm; subst hwn)
              | (go_at_call 8; have _t := H6; refine (aAdd P o5 o6 l5 k5 l6 k6 r5 r6 _ _ 24 w6 (HGD.out _ H6.out.1).1 H6.out.2.2.1 H6.out.2.2.2 (by decide)).mono ?_; rintro e w7 ⟨⟨o7, l7, k7, r7, rfl, hq⟩, hb7⟩; obtain ⟨a7_0, a7_1, a7_2, a7_3, a7_4, a7_5⟩ := KC.out _ (bnextM (B := 0) H6.out.1 hb7); have H7 : Hid (Below W.heap.size W w7 ∧ EqA P w7 o4 l4 k4 r4 (fun t => ev x t * (ev y t + ev z t)) 24 ∧ EqA P w7 o7 l7 k7 r7 (fun t => ev x t * ev y t + ev x t * ev z t) 24) := ⟨bnextM (B := 0) H6.out.1 hb7, H6.out.2.1.later hb7, hq⟩; clear hb7)
              | (go_at_call 9; have _t := H5; refine (aMul P ao co la ca lc cc x z _ _ 12 12 w5 (HGD.out _ H5.out.1).1 (HGD.out _ H5.out.1).2.1 (HGD.out _ H5.out.1).2.2.2 (IsP.ev z) (by decide)).mono ?_; rintro e w6 ⟨⟨o6, l6, k6, r6, rfl, hq⟩, hb6⟩; obtain ⟨a6_0, a6_1, a6_2, a6_3, a6_4, a6_5⟩ := KC.out _ (bnextM (B := 0) H5.out.1 hb6); have H6 : Hid (Below W.heap.size W w6 ∧ EqA P w6 o4 l4 k4 r4 (fun t => ev x t * (ev y t + ev z t)) 24 ∧ EqA P w6 o5 l5 k5 r5 (fun t => ev x t * ev y t) 24 ∧ EqA P w6 o6 l6 k6 r6 (fun t => ev x t * ev z t) 24) := ⟨bnextM (B := 0) H5.out.1 hb6, H5.out.2.1.later hb6, H5.out.2.2.later hb6, hq⟩; clear hb6)
              | (go_at_call 9; have _t := H4; refine (aMul P ao bo la ca 0 cb x y _ _ 12 12 w4 (HGD.out _ H4.out.1).1 (HGD.out _ H4.out.1).2.1 (HGD.out _ H4.out.1).2.2.1 (IsP.ev y) (by decide)).mono ?_; rintro e w5 ⟨⟨o5, l5, k5, r5, rfl, hq⟩, hb5⟩; obtain ⟨a5_0, a5_1, a5_2, a5_3, a5_4, a5_5⟩ := KC.out _ (bnextM (B := 0) H4.out.1 hb5); have H5 : Hid (Below W.heap.size W w5 ∧ EqA P w5 o4 l4 k4 r4 (fun t => ev x t * (ev y t + ev z t)) 24 ∧ EqA P w5 o5 l5 k5 r5 (fun t => ev x t * ev y t) 24) := ⟨bnextM (B := 0) H4.out.1 hb5, H4.out.2.later hb5, hq⟩; clear hb5)
              | (go_at_call 9; have _t := H3; refine (aMul P ao o3 la ca l3 k3 x r3 _ _ 12 12 w3 (HGD.out _ H3.out.1).1 (HGD.out _ H3.out.1).2.1 H3.out.2 ((IsP.ev y).add (IsP.ev z)) (by decide)).mono ?_; rintro e w4 ⟨⟨o4, l4, k4, r4, rfl, hq⟩, hb4⟩; obtain ⟨a4_0, a4_1, a4_2, a4_3, a4_4, a4_5⟩ := KC.out _ (bnextM (B := 0) H3.out.1 hb4); have H4 : Hid (Below W.heap.size W w4 ∧ EqA P w4 o4 l4 k4 r4 (fun t => ev x t * (ev y t + ev z t)) 24) := ⟨bnextM (B := 0) H3.out.1 hb4, hq⟩; clear hb4)
              | (go_at_call 8; have _t := H2; refine (aAdd P bo co 0 cb lc cc y z _ _ 12 w2 (HGD.out _ H2.out).1 (HGD.out _ H2.out).2.2.1 (HGD.out _ H2.out).2.2.2 (by decide)).mono ?_; rintro e w3 ⟨⟨o3, l3, k3, r3, rfl, hq⟩, hb3⟩; obtain ⟨a3_0, a3_1, a3_2, a3_3, a3_4, a3_5⟩ := KC.out _ (bnextM (B := 0) H2.out hb3); have H3 : Hid (Below W.heap.size W w3 ∧ EqA P w3 o3 l3 k3 r3 (fun t => ev y t + ev z t) 12) := ⟨bnextM (B := 0) H2.out hb3, hq⟩; clear hb3)
              | (go_at_call 6; rw [← hW]; refine hcH.mono ?_; rintro e w1 ⟨rfl, hb1⟩; obtain ⟨q0, q1, q2, q3, q4, q5⟩ := KC.out _ hb1)
              | (go_at_call 7; refine (HF.out _ hb1).mono ?_; rintro e w2 ⟨rfl, hb2⟩; obtain ⟨f0, f1, f2, f3, f4, f5⟩ := KC.out _ hb2; have H2 : Hid (Below W.heap.size W w2) := hb2))
            go_roundw
            case rel => exact ⟨k + 1, by omega, by go_num, bnextM (B := 0) HW.out.2 H8.out⟩
            case measure => simp [intOf]; omega
          · have hlb' : ((lb : Int) == 0) = false := by simp; omega
            have HLB : Hid (0 < lb) := by show _ < _; omega
            have hla12 : la ≤ 12 := HL.out.1
            clear hlb
            go_wp2_with (first
              | (go_at_call 13; have _t := H13; have hA : Below w13.heap.size w13 (w13.alloc (.cells #[.int .u64 0, .int .u64 1] 25)) := (Below.refl _ _).alloc (Nat.le_refl _) _; have hG := HGD.out _ (bnextM (B := 0) H13.out.1 hA); refine (mPowP P (some ⟨w13.heap.size, 0, none⟩) bo 2 2 lb cb [0, 1] y _ ⟨hG.1, goodX HP0.out.2.1 w13, hG.2.2.1.1⟩ HLB.out).mono ?_; rintro e w14 ⟨⟨o14, l14, k14, r14, rfl, hq⟩, hb14'⟩; have hb14 := bnextM (B := 0) hA hb14'; obtain ⟨a14_0, a14_1, a14_2, a14_3, a14_4, a14_5⟩ := KC.out _ (bnextM (B := 0) H13.out.1 hb14); have H14 : Hid (Below W.heap.size W w14 ∧ PowA P y w14 o13 l13 k13 r13 (fun t => ev x t ^ P.toNat) ∧ PowA P y w14 o14 l14 k14 r14 (fun t => t ^ P.toNat)) := ⟨bnextM (B := 0) H13.out.1 hb14, H13.out.2.later hb14, hq.1, hq.2.1, hq.2.2.trans (Md.of_eq fun t => by simp [ev])⟩; clear hA hG hb14 hb14' hq)
              | (go_at_call 13; have _t := H12; refine (mPowP P ao bo la ca lb cb x y w12 ⟨(HGD.out _ H12.out).1, (HGD.out _ H12.out).2.1.1, (HGD.out _ H12.out).2.2.1.1⟩ HLB.out).mono ?_; rintro e w13 ⟨⟨o13, l13, k13, r13, rfl, hq⟩, hb13⟩; obtain ⟨a13_0, a13_1, a13_2, a13_3, a13_4, a13_5⟩ := KC.out _ (bnextM (B := 0) H12.out hb13); have H13 : Hid (Below W.heap.size W w13 ∧ PowA P y w13 o13 l13 k13 r13 (fun t => ev x t ^ P.toNat)) := ⟨bnextM (B := 0) H12.out hb13, hq⟩; clear hb13; have hz13 : wr.heap.size < w13.heap.size := cell_lt a13_0)
              | (go_at_call 11; have _t := H11; refine (meqF_any true o11 ao l11 k11 la ca r11 x w11 H11.out.2.2.1.1.row (HGD.out _ H11.out.1).2.1.1.1.row (by have := H11.out.2.2.1.2.2; omega) (decide_eq_true (H11.out.2.2.same (HGD.out _ H11.out.1).2.1 HP0.out.1 H11.out.2.1.symm))).mono ?_; rintro e w12 ⟨rfl, hb12⟩; obtain ⟨a12_0, a12_1, a12_2, a12_3, a12_4, a12_5⟩ := KC.out _ (bnextM (B := 0) H11.out.1 hb12); have H12 : Hid (Below W.heap.size W w12) := bnextM (B := 0) H11.out.1 hb12; clear hb12)
              | (go_at_call 8; have _t := H10; refine (aAdd P o10 v9 l10 k10 m9 n9 r10 s9 _ _ 24 w10 (HGD.out _ H10.out.1).1 H10.out.2.2.2 (H10.out.2.1.wide (by decide)) (by decide)).mono ?_; rintro e w11 ⟨⟨o11, l11, k11, r11, rfl, hq⟩, hb11⟩; obtain ⟨a11_0, a11_1, a11_2, a11_3, a11_4, a11_5⟩ := KC.out _ (bnextM (B := 0) H10.out.1 hb11); have H11 : Hid (Below W.heap.size W w11 ∧ EqM P (fun t => ev x t) (fun t => ev r9 t * ev y t + ev s9 t) ∧ EqA P w11 o11 l11 k11 r11 (fun t => ev r9 t * ev y t + ev s9 t) 24) := ⟨bnextM (B := 0) H10.out.1 hb11, H10.out.2.2.1, hq⟩; clear hb11)
              | (go_at_call 9; have _t := H9; refine (aMul P o9 bo l9 k9 lb cb r9 y _ _ 12 12 w9 (HGD.out _ H9.out.1).1 H9.out.2.1 (HGD.out _ H9.out.1).2.2.1 (IsP.ev y) (by decide)).mono ?_; rintro e w10 ⟨⟨o10, l10, k10, r10, rfl, hq⟩, hb10⟩; obtain ⟨a10_0, a10_1, a10_2, a10_3, a10_4, a10_5⟩ := KC.out _ (bnextM (B := 0) H9.out.1 hb10); have H10 : Hid (Below W.heap.size W w10 ∧ EqA P w10 v9 m9 n9 s9 (fun t => ev s9 t) 12 ∧ EqM P (fun t => ev x t) (fun t => ev r9 t * ev y t + ev s9 t) ∧ EqA P w10 o10 l10 k10 r10 (fun t => ev r9 t * ev y t) 24) := ⟨bnextM (B := 0) H9.out.1 hb10, H9.out.2.2.1.later hb10, H9.out.2.2.2, hq⟩; clear hb10)
              | (go_at_call 12; have _t := H8; refine (aDiv P ao bo la ca lb cb x y 12 w8 ⟨(HGD.out _ H8.out).1, (HGD.out _ H8.out).2.1.1, (HGD.out _ H8.out).2.2.1.1⟩ HLB.out (HGD.out _ H8.out).2.1.2.2 (HGD.out _ H8.out).2.2.1.2.2 (by decide)).mono ?_; rintro e w9 ⟨⟨o9, l9, k9, r9, v9, m9, n9, s9, rfl, hq1, hq2, hq3, hq4⟩, hb9⟩; obtain ⟨a9_0, a9_1, a9_2, a9_3, a9_4, a9_5⟩ := KC.out _ (bnextM (B := 0) H8.out hb9); have H9 : Hid (Below W.heap.size W w9 ∧ EqA P w9 o9 l9 k9 r9 (fun t => ev r9 t) 12 ∧ EqA P w9 v9 m9 n9 s9 (fun t => ev s9 t) 12 ∧ EqM P (fun t => ev x t) (fun t => ev r9 t * ev y t + ev s9 t)) := ⟨bnextM (B := 0) H8.out hb9, hq1, hq2, hq4⟩; clear hb9; have hmlb : ¬ (lb : Int) ≤ (m9 : Int) := (by omega); clear hq3)
              | (go_at_call 11; have _t := H7; refine (meqF_any true o4 o7 l4 k4 l7 k7 r4 r7 w7 H7.out.2.1.1.1.row H7.out.2.2.1.1.row (by have := H7.out.2.1.1.2.2; omega) (decide_eq_true (H7.out.2.1.same H7.out.2.2 HP0.out.1 (EqM.of_eq fun t => Int.mul_add _ _ _)))).mono ?_; rintro e w8 ⟨rfl, hb8⟩; obtain ⟨a8_0, a8_1, a8_2, a8_3, a8_4, a8_5⟩ := KC.out _ (bnextM (B := 0) H7.out.1 hb8); have H8 : Hid (Below W.heap.size W w8) := bnextM (B := 0) H7.out.1 hb8; clear hb8)
              | (go_at_call 10; refine (mnum_any 0 _).mono ?_; rintro e wn ⟨rfl, hwn⟩; replace hwn := hwn.symm; subst hwn)
              | (go_at_call 8; have _t := H6; refine (aAdd P o5 o6 l5 k5 l6 k6 r5 r6 _ _ 24 w6 (HGD.out _ H6.out.1).1 H6.out.2.2.1 H6.out.2.2.2 (by decide)).mono ?_; rintro e w7 ⟨⟨o7, l7, k7, r7, rfl, hq⟩, hb7⟩; obtain ⟨a7_0, a7_1, a7_2, a7_3, a7_4, a7_5⟩ := KC.out _ (bnextM (B := 0) H6.out.1 hb7); have H7 : Hid (Below W.heap.size W w7 ∧ EqA P w7 o4 l4 k4 r4 (fun t => ev x t * (ev y t + ev z t)) 24 ∧ EqA P w7 o7 l7 k7 r7 (fun t => ev x t * ev y t + ev x t * ev z t) 24) := ⟨bnextM (B := 0) H6.out.1 hb7, H6.out.2.1.later hb7, hq⟩; clear hb7)
              | (go_at_call 9; have _t := H5; refine (aMul P ao co la ca lc cc x z _ _ 12 12 w5 (HGD.out _ H5.out.1).1 (HGD.out _ H5.out.1).2.1 (HGD.out _ H5.out.1).2.2.2 (IsP.ev z) (by decide)).mono ?_; rintro e w6 ⟨⟨o6, l6, k6, r6, rfl, hq⟩, hb6⟩; obtain ⟨a6_0, a6_1, a6_2, a6_3, a6_4, a6_5⟩ := KC.out _ (bnextM (B := 0) H5.out.1 hb6); have H6 : Hid (Below W.heap.size W w6 ∧ EqA P w6 o4 l4 k4 r4 (fun t => ev x t * (ev y t + ev z t)) 24 ∧ EqA P w6 o5 l5 k5 r5 (fun t => ev x t * ev y t) 24 ∧ EqA P w6 o6 l6 k6 r6 (fun t => ev x t * ev z t) 24) := ⟨bnextM (B := 0) H5.out.1 hb6, H5.out.2.1.later hb6, H5.out.2.2.later hb6, hq⟩; clear hb6)
              | (go_at_call 9; have _t := H4; refine (aMul P ao bo la ca lb cb x y _ _ 12 12 w4 (HGD.out _ H4.out.1).1 (HGD.out _ H4.out.1).2.1 (HGD.out _ H4.out.1).2.2.1 (IsP.ev y) (by decide)).mono ?_; rintro e w5 ⟨⟨o5, l5, k5, r5, rfl, hq⟩, hb5⟩; obtain ⟨a5_0, a5_1, a5_2, a5_3, a5_4, a5_5⟩ := KC.out _ (bnextM (B := 0) H4.out.1 hb5); have H5 : Hid (Below W.heap.size W w5 ∧ EqA P w5 o4 l4 k4 r4 (fun t => ev x t * (ev y t + ev z t)) 24 ∧ EqA P w5 o5 l5 k5 r5 (fun t => ev x t * ev y t) 24) := ⟨bnextM (B := 0) H4.out.1 hb5, H4.out.2.later hb5, hq⟩; clear hb5)
              | (go_at_call 9; have _t := H3; refine (aMul P ao o3 la ca l3 k3 x r3 _ _ 12 12 w3 (HGD.out _ H3.out.1).1 (HGD.out _ H3.out.1).2.1 H3.out.2 ((IsP.ev y).add (IsP.ev z)) (by decide)).mono ?_; rintro e w4 ⟨⟨o4, l4, k4, r4, rfl, hq⟩, hb4⟩; obtain ⟨a4_0, a4_1, a4_2, a4_3, a4_4, a4_5⟩ := KC.out _ (bnextM (B := 0) H3.out.1 hb4); have H4 : Hid (Below W.heap.size W w4 ∧ EqA P w4 o4 l4 k4 r4 (fun t => ev x t * (ev y t + ev z t)) 24) := ⟨bnextM (B := 0) H3.out.1 hb4, hq⟩; clear hb4)
              | (go_at_call 8; have _t := H2; refine (aAdd P bo co lb cb lc cc y z _ _ 12 w2 (HGD.out _ H2.out).1 (HGD.out _ H2.out).2.2.1 (HGD.out _ H2.out).2.2.2 (by decide)).mono ?_; rintro e w3 ⟨⟨o3, l3, k3, r3, rfl, hq⟩, hb3⟩; obtain ⟨a3_0, a3_1, a3_2, a3_3, a3_4, a3_5⟩ := KC.out _ (bnextM (B := 0) H2.out hb3); have H3 : Hid (Below W.heap.size W w3 ∧ EqA P w3 o3 l3 k3 r3 (fun t => ev y t + ev z t) 12) := ⟨bnextM (B := 0) H2.out hb3, hq⟩; clear hb3)
              | (go_at_call 6; rw [← hW]; refine hcH.mono ?_; rintro e w1 ⟨rfl, hb1⟩; obtain ⟨q0, q1, q2, q3, q4, q5⟩ := KC.out _ hb1)
              | (go_at_call 7; refine (HF.out _ hb1).mono ?_; rintro e w2 ⟨rfl, hb2⟩; obtain ⟨f0, f1, f2, f3, f4, f5⟩ := KC.out _ hb2; have H2 : Hid (Below W.heap.size W w2) := hb2))
            obtain ⟨wo, hwo⟩ : ∃ wo, wo = wr := ⟨_, rfl⟩
            subst hwo
            go_loopw [23, 24] (fun z i w2 => ∃ (j : Nat) (ro : Option Addr) (rl rc : Nat) (r : List Int), i = .int .i64 ((j : Int) - 1) ∧ j ≤ la ∧ z = .slice ro rl rc ∧ Hid (PowA P y w2 ro rl rc r (fun t => ev (x.drop j) (t ^ P.toNat)) ∧ PowA P y w2 o13 l13 k13 r13 (fun t => ev x t ^ P.toNat) ∧ PowA P y w2 o14 l14 k14 r14 (fun t => t ^ P.toNat) ∧ Below W.heap.size W w2)) (fun _ i _ => (intOf i + 1).toNat)
            case atStart => exact ⟨la, none, 0, 0, [], by go_num, Nat.le_refl _, rfl, ⟨⟨⟨RowAt.nilRow _ _, Wd.nil _, by decide⟩, Pm.nil _, by decide⟩, by rw [← HP0.out.2.2.2]; exact HLB.out, Md.of_eq fun t => by rw [List.drop_of_length_le (by have := HP0.out.2.2.1; omega)]; rfl⟩, H14.out.2.1, H14.out.2.2, H14.out.1⟩
            case round =>
              obtain ⟨j, ro, rl, rc, r, rfl, hj, rfl, HS⟩ := hrel
              obtain ⟨g0, g1, g2, g3, g4, g5⟩ := KC.out _ HS.out.2.2.2
              rcases j with _ | j
              · have HQ : Hid (r = r13) := by
                  show _ = _
                  have h1 := HS.out.1.2.2
                  rw [List.drop_zero] at h1
                  refine Md.inj HP0.out.2.1 (HGD.out _ HS.out.2.2.2).2.2.1.1.2.1 HS.out.1.1.2.1 HS.out.2.1.1.2.1 HS.out.1.2.1 HS.out.2.1.2.1 (h1.trans (Md.trans (Md.ofEqM y (HP0.out.2.1.frobs (F := x) fun v hv => ((HGD.out _ HS.out.2.2.2).2.1.1.2.1.wd v hv).1).symm) HS.out.2.1.2.2.symm))
                go_wp2_with (go_at_call 11; refine (meqF_any true ro o13 rl rc l13 k13 r r13 _ HS.out.1.1.1.row HS.out.2.1.1.1.row (by have := HS.out.1.1.2.2; omega) (decide_eq_true HQ.out)).mono ?_; rintro e w8 ⟨rfl, hb8⟩; have HZ : Hid (Below w.heap.size w w8) := bnextM (B := 0) HW.out.2 (bnextM (B := 0) HS.out.2.2.2 hb8); clear hb8)
                go_roundw
                case rel => exact ⟨k + 1, by omega, by go_num, HZ.out⟩
                case measure => simp [intOf]; omega
              · have hjl : j < la := by omega
                obtain ⟨bx, ox, rfl, hbx, hxc⟩ := HX.out.1.1.get (by omega)
                have hxj := hxc j hjl
                obtain ⟨z', hz'⟩ : ∃ z', dig x j = z' := ⟨_, rfl⟩
                rw [hz'] at hxj
                have HZJ : Hid (dig x j = z' ∧ j < x.length ∧ (0 ≤ z' ∧ z' < P)) := ⟨hz', by have := HP0.out.2.2.1; omega, by rw [← hz']; exact (HGD.out _ HS.out.2.2.2).2.1.1.2.1.wd.dig HP0.out.1 j⟩
                have HXC : Hid (∀ w', Below W.heap.size W w' → w'.cell? ⟨wo.heap.size, 0, none⟩ = some (.slice (some ⟨bx, ox, none⟩) la ca) ∧ w'.cell? ⟨wo.heap.size, 4, none⟩ = some (.int .u64 P) ∧ w'.cell? ⟨bx, ox + j, none⟩ = some (.int .u64 z')) := fun w' hb => ⟨(KC.out _ hb).1, (KC.out _ hb).2.2.2.2.1, (hb.cell (p := ⟨bx, ox + j, none⟩) hbx).trans hxj⟩
                clear hxc hxj hz' hbx
                have y1 : (j : Int) < (la : Int) := by omega
                have hj12 : j ≤ 12 := by omega
                have y2 : (0 : Int) ≤ (j : Int) := by omega
                go_wp2_with (go_at_call 9; refine (mMulA P ro o14 rl rc l14 k14 r r14 y _ _ _ (HGD.out _ HS.out.2.2.2).1 HS.out.1 HS.out.2.2.1 (by have := HL.out; have := HP0.out; omega) (IsP.id.pow _)).mono ?_; rintro e X ⟨⟨om, lm, km, rm, rfl, hs1, hs2⟩, hbX⟩; have HM : Hid (GoodF P X om lm km rm ∧ Md P y (fun t => ev rm t) (fun t => ev (x.drop (j + 1)) (t ^ P.toNat) * t ^ P.toNat) ∧ PowA P y X o13 l13 k13 r13 (fun t => ev x t ^ P.toNat) ∧ PowA P y X o14 l14 k14 r14 (fun t => t ^ P.toNat) ∧ Below W.heap.size W X) := ⟨hs1, hs2, HS.out.2.1.later hbX, HS.out.2.2.1.later hbX, bnextM (B := 0) HS.out.2.2.2 hbX⟩; clear hs1 hs2 hbX)
                have KS : Hid (∀ w', Below X.heap.size X w' → w'.cell? ⟨wo.heap.size, 0, none⟩ = some (.slice (some ⟨bx, ox, none⟩) la ca) ∧ w'.cell? ⟨wo.heap.size, 4, none⟩ = some (.int .u64 P) ∧ w'.cell? ⟨bx, ox + j, none⟩ = some (.int .u64 z')) := fun w' hb => HXC.out _ (bnextM (B := 0) HM.out.2.2.2.2 hb)
                refine wp_region_noPanic ?_
                refine wp_region_held_drew (S := fun w' => (w'.cell? ⟨wo.heap.size, 0, none⟩ = some (.slice (some ⟨bx, ox, none⟩) la ca) ∧ w'.cell? ⟨wo.heap.size, 4, none⟩ = some (.int .u64 P) ∧ w'.cell? ⟨bx, ox + j, none⟩ = some (.int .u64 z'))) (by kernel_rfl) (by (try dsimp only); exact KS.out _ (Below.refl _ _).drew) (fun hHeld => ?_)
                refine wpAnyH_take (i := 0) (oi := Oper.mk (some 211) _ _ _ _ _) (v := ?_) rfl (by decide +kernel) (by decide +kernel) (by decide +kernel) (fun _ _ _ h => h) (Or.inl ⟨by rfl, ?_⟩) (by assumption) ?_
                rotate_left
                · (intro w hSw; (try dsimp only at hSw); go_simp <;> (try with_reducible rfl))
                (try simp only [Act.put, List.setIfInBounds_toArray, List.set_cons_zero, List.set_cons_succ])
                refine wpAnyH_take (i := 1) (oi := Oper.mk (some 212) _ _ _ _ _) (v := ?_) rfl (by decide +kernel) (by decide +kernel) (by decide +kernel) (fun _ _ _ h => h) (Or.inl ⟨by rfl, ?_⟩) (by assumption) ?_
                rotate_left
                · (intro w hSw; (try dsimp only at hSw); go_simp <;> (try with_reducible rfl))
                (try simp only [Act.put, List.setIfInBounds_toArray, List.set_cons_zero, List.set_cons_succ])
                refine wpAnyH_take (i := 2) (oi := Oper.mk (some 213) _ _ _ _ _) (v := ?_) rfl (by decide +kernel) (by decide +kernel) (by decide +kernel) (fun _ _ _ h => h) (Or.inl ⟨by rfl, ?_⟩) (by assumption) ?_
                rotate_left
                · (intro w hSw; (try dsimp only at hSw); go_simp <;> (try with_reducible rfl))
                (try simp only [Act.put, List.setIfInBounds_toArray, List.set_cons_zero, List.set_cons_succ])
                refine wpAnyH_take (i := 3) (oi := Oper.mk (some 214) _ _ _ _ _) (v := ?_) rfl (by decide +kernel) (by decide +kernel) (by decide +kernel) (fun _ _ _ h => h) (Or.inl ⟨by rfl, ?_⟩) (by assumption) ?_
                rotate_left
                · (intro w hSw; (try dsimp only at hSw); go_simp <;> (try with_reducible rfl))
                (try simp only [Act.put, List.setIfInBounds_toArray, List.set_cons_zero, List.set_cons_succ])
                refine wpAnyH_take (i := 4) (oi := Oper.mk (some 215) _ _ _ _ _) (v := ?_) rfl (by decide +kernel) (by decide +kernel) (by decide +kernel) (fun _ _ _ h => h) (Or.inl ⟨by rfl, ?_⟩) (by assumption) ?_
                rotate_left
                · (intro w hSw; (try dsimp only at hSw); go_simp <;> (try with_reducible rfl))
                (try simp only [Act.put, List.setIfInBounds_toArray, List.set_cons_zero, List.set_cons_succ])
                refine wpAnyH_take (i := 5) (oi := Oper.mk (some 216) _ _ _ _ _) (v := ?_) rfl (by decide +kernel) (by decide +kernel) (by decide +kernel) (fun _ _ _ h => h) (Or.inl ⟨by rfl, ?_⟩) (by assumption) ?_
                rotate_left
                · (intro w hSw; (try dsimp only at hSw); go_simp <;> (try with_reducible rfl))
                (try simp only [Act.put, List.setIfInBounds_toArray, List.set_cons_zero, List.set_cons_succ])
                refine wpAnyH_take (i := 8) (oi := Oper.mk (some 219) _ _ _ _ _) (v := ?_) rfl (by decide +kernel) (by decide +kernel) (by decide +kernel) (fun _ _ _ h => h) (Or.inl ⟨by rfl, ?_⟩) (by assumption) ?_
                rotate_left
                · (intro w hSw; (try dsimp only at hSw); go_simp <;> (try with_reducible rfl))
                (try simp only [Act.put, List.setIfInBounds_toArray, List.set_cons_zero, List.set_cons_succ])
                refine wpAnyH_take (i := 9) (oi := Oper.mk (some 220) _ _ _ _ _) (v := ?_) rfl (by decide +kernel) (by decide +kernel) (by decide +kernel) (fun _ _ _ h => h) (Or.inl ⟨by rfl, ?_⟩) (by assumption) ?_
                rotate_left
                · (intro w hSw; (try dsimp only at hSw); go_simp <;> (try with_reducible rfl))
                (try simp only [Act.put, List.setIfInBounds_toArray, List.set_cons_zero, List.set_cons_succ])
                refine wpAnyH_ready (rs := [6]) (by decide +kernel) (by simp) ?_
                refine AllReadyH.cons (o := Oper.mk (some 217) _ _ _ _ _) rfl (fun K hK => ?_) AllReadyH.nil
                go_simp
                clear hHeld
                refine hK.out _ _ (by (try dsimp only); exact KS.out _ ((Below.refl _ _).drew.alloc (Nat.le_refl _) _)) (fun hHeld => ?_)
                clear hK K
                (try simp only [Act.put, List.setIfInBounds_toArray, List.set_cons_zero, List.set_cons_succ])
                refine wpAnyH_ready (rs := [7]) (by decide +kernel) (by simp) ?_
                refine AllReadyH.cons (o := Oper.mk (some 218) _ _ _ _ _) rfl (fun K hK => ?_) AllReadyH.nil
                go_simp
                (go_at_call 14; have hbY : Below X.heap.size X (X.alloc (.cells #[.int .u64 z'] 25)).drew := ((Below.refl _ X).alloc (Nat.le_refl _) _).drew; have hbk : Blk (X.alloc (.cells #[.int .u64 z'] 25)).drew X.heap.size .u64 25 [z'] := (Blk.new X .u64 25 [z']).drew; refine (rtrim_any (some ⟨X.heap.size, 0, none⟩) 1 1 [z'] _ (Own.whole (B := 0) hbk (Nat.zero_le _) rfl).row (by decide)).mono ?_; rintro e wt ⟨⟨n, hn, rfl, hcan, hn0⟩, rfl⟩; have HT : Hid (Below X.heap.size X (X.alloc (.cells #[.int .u64 z'] 25)).drew ∧ EqA P (X.alloc (.cells #[.int .u64 z'] 25)).drew (some ⟨X.heap.size, 0, none⟩) n 1 ([z'].take n) (fun _ => z') 1) := ⟨hbY, oneRow HZJ.out.2.2 hbk hn hcan hn0⟩; clear hbY hbk hn hcan hn0)
                (try go_wp2_with fail)
                clear hHeld
                refine hK.out _ _ (by (try dsimp only); exact KS.out _ HT.out.1) (fun hHeld => ?_)
                clear hK K
                (try simp only [Act.put, List.setIfInBounds_toArray, List.set_cons_zero, List.set_cons_succ])
                refine wpAnyH_ready (rs := [10]) (by decide +kernel) (by simp) ?_
                refine AllReadyH.cons (o := Oper.mk (some 221) _ _ _ _ _) rfl (fun K hK => ?_) AllReadyH.nil
                go_simp
                (go_at_call 8; refine (mAddZ P om (some ⟨X.heap.size, 0, none⟩) lm km n 1 rm ([z'].take n) y _ z' _ (HGD.out _ (bnextM (B := 0) HM.out.2.2.2.2 HT.out.1)).1 (HM.out.1.later HT.out.1) HM.out.2.1 HT.out.2).mono ?_; rintro e w6 ⟨⟨oa, la', ka, ra, rfl, hs1, hs2⟩, hb6'⟩; have hb6 := bnextM (B := 0) HT.out.1 hb6'; have HA : Hid (GoodF P w6 oa la' ka ra ∧ Md P y (fun t => ev ra t) (fun t => ev (x.drop j) (t ^ P.toNat)) ∧ Below X.heap.size X w6) := ⟨hs1, hs2.trans (Md.of_eq fun t => by rw [drop_ev x j HZJ.out.2.1, HZJ.out.1, Int.mul_comm (t ^ P.toNat), Int.add_comm]), hb6⟩; clear hs1 hs2 hb6 hb6')
                (try go_wp2_with fail)
                clear hHeld
                refine hK.out _ _ (by (try dsimp only); exact KS.out _ HA.out.2.2) (fun hHeld => ?_)
                clear hK K
                (try simp only [Act.put, List.setIfInBounds_toArray, List.set_cons_zero, List.set_cons_succ])
                refine wpAnyH_take (i := 11) (oi := Oper.mk (some 210) _ _ _ _ _) (v := ?_) rfl (by decide +kernel) (by decide +kernel) (by decide +kernel) (fun _ _ _ h => h) (Or.inl ⟨by rfl, ?_⟩) (by assumption) ?_
                rotate_left
                · (intro w hSw; (try dsimp only at hSw); go_simp <;> (try with_reducible rfl))
                (try simp only [Act.put, List.setIfInBounds_toArray, List.set_cons_zero, List.set_cons_succ])
                refine wpAnyH_take (i := 12) (oi := Oper.mk (some 222) _ _ _ _ _) (v := ?_) rfl (by decide +kernel) (by decide +kernel) (by decide +kernel) (fun _ _ _ h => h) (Or.inl ⟨by rfl, ?_⟩) (by assumption) ?_
                rotate_left
                · (intro w hSw; (try dsimp only at hSw); go_simp <;> (try with_reducible rfl))
                (try simp only [Act.put, List.setIfInBounds_toArray, List.set_cons_zero, List.set_cons_succ])
                refine wpAnyH_take (i := 13) (oi := Oper.mk (some 223) _ _ _ _ _) (v := ?_) rfl (by decide +kernel) (by decide +kernel) (by decide +kernel) (fun _ _ _ h => h) (Or.inl ⟨by rfl, ?_⟩) (by assumption) ?_
                rotate_left
                · (intro w hSw; (try dsimp only at hSw); go_simp <;> (try with_reducible rfl))
                (try simp only [Act.put, List.setIfInBounds_toArray, List.set_cons_zero, List.set_cons_succ])
                refine wpAnyH_take (i := 14) (oi := Oper.mk (some 23) _ _ _ _ _) (v := ?_) rfl (by decide +kernel) (by decide +kernel) (by decide +kernel) (fun _ _ _ h => h) (Or.inl ⟨by rfl, ?_⟩) (by assumption) ?_
                rotate_left
                · (intro w hSw; (try dsimp only at hSw); go_simp <;> (try with_reducible rfl))
                (try simp only [Act.put, List.setIfInBounds_toArray, List.set_cons_zero, List.set_cons_succ])
                refine wpAnyH_done (by decide +kernel) ?_ _
                refine NoPanic.normal ?_
                have HB6 : Hid (Below W.heap.size W w6) := bnextM (B := 0) HM.out.2.2.2.2 HA.out.2.2
                obtain ⟨e0, e1, e2, e3, e4, e5⟩ := KC.out _ HB6.out
                go_wp2_with (go_at_call 12; refine (mDivA P oa bo la' ka lb cb ra y w6 _ ⟨(HGD.out _ HB6.out).1, HA.out.1, (HGD.out _ HB6.out).2.2.1.1⟩ HLB.out HA.out.2.1).mono ?_; rintro e w7 ⟨⟨qd, qld, qkd, od, ld, kd, rd, rfl, hd⟩, hb7⟩; have HD : Hid (PowA P y w7 od ld kd rd (fun t => ev (x.drop j) (t ^ P.toNat)) ∧ PowA P y w7 o13 l13 k13 r13 (fun t => ev x t ^ P.toNat) ∧ PowA P y w7 o14 l14 k14 r14 (fun t => t ^ P.toNat) ∧ Below W.heap.size W w7) := ⟨hd, (HM.out.2.2.1.later HA.out.2.2).later hb7, (HM.out.2.2.2.1.later HA.out.2.2).later hb7, bnextM (B := 0) HB6.out hb7⟩; clear hd hb7)
                go_roundw
                case rel => exact ⟨j, od, ld, kd, rd, by go_num, by omega, rfl, HD.out⟩
                case measure => simp [intOf]
        · have HOK : Hid (¬ FormOk P 3 (fun t => if t = 0 then la else if t = 1 then lb else lc) (fun t => if t = 0 then x else if t = 1 then y else z)) := hok
          clear hok
          have HF : Hid (∀ w1, Below W.heap.size W w1 → Calls Tryd.prog 7 #[.int .u64 P, .slice (some ⟨w1.heap.size, 0, none⟩) 3 3] (w1.alloc (.cells #[.slice ao la ca, .slice bo lb cb, .slice co lc cc] 24)) fun e w' => e = .returned (.int .i64 90) ∧ Below W.heap.size W w') := fun w1 hb =>
            (form_no P w1.heap.size 3 _ _ _ _ _ HX.out.2.2.2 (HRW.out w1 hb) (by decide) HOK.out).mono fun e w' h => ⟨h.1, by rw [h.2]; exact hb.alloc hb.size _⟩
          go_wp2_with (first
            | (go_at_call 6; rw [← hW]; refine hcH.mono ?_; rintro e w1 ⟨rfl, hb1⟩; obtain ⟨q0, q1, q2, q3, q4, q5⟩ := KC.out _ hb1)
            | (go_at_call 7; refine (HF.out _ hb1).mono ?_; rintro e w2 ⟨rfl, hb2⟩))
          go_roundw
          case rel => exact ⟨k + 1, by omega, by go_num, bnextM (B := 0) HW.out.2 hb2⟩
          case measure => simp [intOf]; omega
      · clear hh1
        go_wp2_with (go_at_call 6; rw [← hW]; refine hcH.mono ?_; rintro e w1 ⟨rfl, hb1⟩)
        go_ret
        exact ⟨rfl, bnextM (B := 0) HW.out.2 hb1⟩
    · by_cases hk1 : k < len
      · have z1 : (k : Int) < (len : Int) := by omega
        have z2 : ¬ (k : Int) < 20 := by omega
        clear hlt
        go_wp2_with (go_at_call 15; refine (hwk _ HB.out).mono ?_; rintro e w1 ⟨rfl, hb1⟩)
        go_ret
        exact ⟨rfl, bnextM (B := 0) HB.out hb1⟩
      · have z1 : ¬ (k : Int) < (len : Int) := by omega
        clear hlt
        go_wp2_with (go_at_call 15; refine (hwk _ HB.out).mono ?_; rintro e w1 ⟨rfl, hb1⟩)
        go_ret
        exact ⟨rfl, bnextM (B := 0) HB.out hb1⟩
end Go.Proofs.YtpannkjjggelhaaDoor
