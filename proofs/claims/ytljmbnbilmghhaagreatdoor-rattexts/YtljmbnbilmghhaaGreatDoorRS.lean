/-
  The walk of RatTexts.
-/
import Derived.Test.YtljmbnbilmghhaaGreatDoorRQ
import Derived.Test.YtljmbnbilmghhaaGreatDoorRL
namespace Go.Proofs.YtljmbnbilmghhaaGreatDoor
open Go.RowKit
set_option linter.unusedVariables false
set_option linter.unusedSimpArgs false

set_option maxRecDepth 100000 in
set_option maxHeartbeats 1000000 in
theorem heavy2_any (na nb : Bool) (ao po bo qo : Option Addr) (la ca lp cp lb cb lq cq : Nat) (N : Int) (w : World) (c : Bool) (hc : ((decide ((8 : Int) < (la : Int)) || decide ((8 : Int) < (lp : Int))) || (decide ((8 : Int) < (lb : Int)) || decide ((8 : Int) < (lq : Int)))) = c) :
    Calls Tryz.prog 9 #[.agg #[.bool na, .slice ao la ca, .slice po lp cp, .bool nb, .slice bo lb cb, .slice qo lq cq, .int .i64 N]] w fun e w' => e = .returned (.bool c) ∧ Below w.heap.size w w' := by
  obtain ⟨W, hT⟩ := InR.mk' w na nb ao po bo qo la ca lp cp lb cb lq cq N
  have hsz := hT.size
  cases h1 : (decide ((8 : Int) < (la : Int)) || decide ((8 : Int) < (lp : Int)))
  · have HC : Hid ((decide ((8 : Int) < (lb : Int)) || decide ((8 : Int) < (lq : Int))) = c) := by show _ = _; rw [← hc, h1, Bool.false_or]
    have H1 : Hid ((decide ((8 : Int) < (la : Int)) || decide ((8 : Int) < (lp : Int))) = false) := h1
    clear h1 hc
    go_enter Tryz.func9, Tryz.ntmps9
    go_wp2_with (first
      | (go_at_call 61; have _t := hb1; refine (longRat_any nb bo qo lb cb lq cq 8 _ c HC.out).mono ?_; rintro e w2 ⟨rfl, hb2⟩)
      | (go_at_call 61; rw [← hT.eq]; refine (longRat_any na ao po la ca lp cp 8 _ false H1.out).mono ?_; rintro e w1 ⟨rfl, hb1⟩; obtain ⟨q0, q1, q2, q3, q4, q5, q6⟩ := hT.p.later hb1 (by omega)))
    go_ret
    exact ⟨rfl, bnext hT.below (bnext hb1 hb2)⟩
  · obtain rfl : c = true := by rw [← hc, h1]; rfl
    have H1 : Hid ((decide ((8 : Int) < (la : Int)) || decide ((8 : Int) < (lp : Int))) = true) := h1
    clear h1 hc
    go_enter Tryz.func9, Tryz.ntmps9
    go_wp2_with (go_at_call 61; rw [← hT.eq]; refine (longRat_any na ao po la ca lp cp 8 _ true H1.out).mono ?_; rintro e w1 ⟨rfl, hb1⟩)
    go_ret
    exact ⟨rfl, bnext hT.below hb1⟩
/-- a list of texts -/
def StrsR (w : World) (so : Option Addr) (n : Nat) : Prop := ∀ i, i < n → ∃ b off s, so = some ⟨b, off, none⟩ ∧ b < w.heap.size ∧ w.cell? ⟨b, off + i, none⟩ = some (.string s) ∧ s.size ≤ 9223372036854775807
set_option maxRecDepth 100000 in
set_option maxHeartbeats 8000000 in
theorem ratTexts_any (lo so : Option Addr) (len cap sl sc : Nat) (w : World) (hE : ElemsR w lo len) (hl : len ≤ 9223372036854775807) (hS : StrsR w so sl) (hsl : sl ≤ 9223372036854775807) (hT0 : TabAt 0 Lib.deBruijn64tab w) (hP0 : Pow10 w) :
    Calls Tryz.prog 6 #[.agg #[.slice lo len cap, .slice so sl sc]] w fun e w' => e = .returned (.bool true) ∧ Below w.heap.size w w' := by
  have HE : Hid (ElemsR w lo len ∧ StrsR w so sl ∧ TabAt 0 Lib.deBruijn64tab w ∧ Pow10 w) := ⟨hE, hS, hT0, hP0⟩
  have hA : Below w.heap.size w (w.alloc (.cells #[.slice lo len cap, .slice so sl sc] 61)) := (Below.refl _ _).alloc (Nat.le_refl _) _
  have hwk : ∀ X, Below w.heap.size w X → Calls Tryz.prog 23 #[] X fun e w' => e = .returned (.bool true) ∧ Below X.heap.size X w' := fun X h => wakes2_any X (tab_later HE.out.2.2.1 h) (HE.out.2.2.2.later h)
  clear hE hS hT0 hP0
  go_enter Tryz.func6, Tryz.ntmps6
  go_wp2
  go_loopw [5] (fun i wr => ∃ k : Nat, k ≤ len ∧ k ≤ 30 ∧ i = .int .i64 k ∧ Below w.heap.size w wr) (fun i _ => 30 - (intOf i).toNat)
  case atStart => exact ⟨0, Nat.zero_le _, by omega, rfl, hA⟩
  case round =>
    clear hA
    obtain ⟨k, hk, hk30, rfl, hbel⟩ := hrel
    by_cases hlt : k < len ∧ k < 30
    · obtain ⟨hlt, hlt30⟩ := hlt
      obtain ⟨b, off, rfl, hbw, hel⟩ := HE.out.1 k hlt
      obtain ⟨na, nb, ao, po, bo, qo, la, ca, lp, cp, lb, cb, lq, cq, N, x, d, y, f, ⟨h0, h1, h2, h3, h4, h5, h6⟩, r1, v1, r2, v2, r3, v3, r4, v4, hn1, hn2⟩ := hel.later hbel hbw
      have hbs : b < wr.heap.size := Nat.lt_of_lt_of_le hbw hbel.size
      have KS : Hid (∀ w' : World, Below wr.heap.size wr w' → w'.cell? ⟨b, off + k * 7, none⟩ = some (.bool na) ∧ w'.cell? ⟨b, off + k * 7 + 1, none⟩ = some (.slice ao la ca) ∧ w'.cell? ⟨b, off + k * 7 + 2, none⟩ = some (.slice po lp cp) ∧ w'.cell? ⟨b, off + k * 7 + 3, none⟩ = some (.bool nb) ∧ w'.cell? ⟨b, off + k * 7 + 4, none⟩ = some (.slice bo lb cb) ∧ w'.cell? ⟨b, off + k * 7 + 5, none⟩ = some (.slice qo lq cq) ∧ w'.cell? ⟨b, off + k * 7 + 6, none⟩ = some (.int .i64 N)) := fun w' hb => ⟨(hb.cell (p := ⟨b, off + k * 7, none⟩) hbs).trans h0, (hb.cell (p := ⟨b, off + k * 7 + 1, none⟩) hbs).trans h1, (hb.cell (p := ⟨b, off + k * 7 + 2, none⟩) hbs).trans h2, (hb.cell (p := ⟨b, off + k * 7 + 3, none⟩) hbs).trans h3, (hb.cell (p := ⟨b, off + k * 7 + 4, none⟩) hbs).trans h4, (hb.cell (p := ⟨b, off + k * 7 + 5, none⟩) hbs).trans h5, (hb.cell (p := ⟨b, off + k * 7 + 6, none⟩) hbs).trans h6⟩
      have HX : Hid (RowAt wr .u64 ao la ca x ∧ Wd 18446744073709551616 x ∧ RowAt wr .u64 po lp cp d ∧ Wd 18446744073709551616 d ∧ TabAt 0 Lib.deBruijn64tab wr ∧ Pow10 wr) := ⟨r1, v1, r2, v2, tab_later HE.out.2.2.1 hbel, HE.out.2.2.2.later hbel⟩
      have z1 : (0 : Int) ≤ (k : Int) := by omega
      have z2 : (k : Int) < (len : Int) := by omega
      clear r1 v1 r2 v2 r3 v3 r4 v4 hel
      cases hhv : ((decide ((8 : Int) < (la : Int)) || decide ((8 : Int) < (lp : Int))) || (decide ((8 : Int) < (lb : Int)) || decide ((8 : Int) < (lq : Int))))
      · have HH : Hid (((decide ((8 : Int) < (la : Int)) || decide ((8 : Int) < (lp : Int))) || (decide ((8 : Int) < (lb : Int)) || decide ((8 : Int) < (lq : Int)))) = false) := hhv
        have hla : la ≤ 8 := by simp at hhv; omega
        have hlp : lp ≤ 8 := by simp at hhv; omega
        clear hhv
        cases hm : mayR na x d
        · as_aux_lemma =>
          have hMay : ∀ X, Below wr.heap.size wr X → Calls Tryz.prog 24 #[.agg #[.bool na, .slice ao la ca, .slice po lp cp]] X fun e w' => e = .returned (.bool false) ∧ Below X.heap.size X w' := fun X h => qmay_any na ao po la ca lp cp x d X (HX.out.1.later h) HX.out.2.1 (HX.out.2.2.1.later h) HX.out.2.2.2.1 (by omega) (by omega) false hm
          clear hm
          go_wp2_with (first
            | (go_at_call 9; refine (heavy2_any na nb ao po bo qo la ca lp cp lb cb lq cq N _ false HH.out).mono ?_; rintro e w1 ⟨rfl, hb1⟩; clear h0 h1 h2 h3 h4 h5 h6; obtain ⟨h0, h1, h2, h3, h4, h5, h6⟩ := KS.out _ hb1)
            | (go_at_call 24; refine (hMay _ hb1).mono ?_; rintro e w2 ⟨rfl, hb2'⟩; have hb2 := bnext hb1 hb2'; clear hb2'; clear h0 h1 h2 h3 h4 h5 h6; obtain ⟨h0, h1, h2, h3, h4, h5, h6⟩ := KS.out _ hb2))
          go_roundw
          case rel => exact ⟨k + 1, by omega, by omega, by go_num, bnext hbel hb2⟩
          case measure => simp [intOf]; omega
        · have hMay : ∀ X, Below wr.heap.size wr X → Calls Tryz.prog 24 #[.agg #[.bool na, .slice ao la ca, .slice po lp cp]] X fun e w' => e = .returned (.bool true) ∧ Below X.heap.size X w' := fun X h => qmay_any na ao po la ca lp cp x d X (HX.out.1.later h) HX.out.2.1 (HX.out.2.2.1.later h) HX.out.2.2.2.1 (by omega) (by omega) true hm
          obtain ⟨a, hA, ea, ed⟩ := rat_of_may HX.out.1 HX.out.2.1 HX.out.2.2.1 HX.out.2.2.2.1 hm
          have HA : Hid (RatAt wr na ao la ca po lp cp a ∧ Sz a 50) := ⟨hA, ⟨by rw [← hA.num.row.hlen]; omega, by rw [← hA.den.hlen]; omega⟩⟩
          obtain ⟨s, hs⟩ : ∃ s, strOfNums (rnums a) = s := ⟨_, rfl⟩
          have hbt : ∀ X, Below wr.heap.size wr X → Calls Tryz.prog 34 #[.agg #[.bool na, .slice ao la ca, .slice po lp cp]] X fun e w' => e = .returned (.string s) ∧ Below X.heap.size X w' := fun X hb => by rw [← hs]; exact ratText_any na ao po la ca lp cp a X (HA.out.1.later hb) (by omega) (by omega) (tab_later HX.out.2.2.2.2.1 hb) (HX.out.2.2.2.2.2.later hb)
          have hrt : ∀ X, Below wr.heap.size wr X → Calls Tryz.prog 56 #[.agg #[.bool na, .slice ao la ca, .slice po lp cp]] X fun e w' => e = .returned (.string s) ∧ Below X.heap.size X w' := fun X hb => by rw [← hs]; exact qtext_any na ao po la ca lp cp a X (HA.out.1.later hb) (by omega) (by omega)
          have hpar : ∀ X, Below wr.heap.size wr X → Calls Tryz.prog 55 #[.string s] X fun e w' => SomeRat X w' e (.int .i64 0) a := fun X hb => parse_text HA.out.2 s X hs.symm (tab_later HX.out.2.2.2.2.1 hb)
          clear hm hA ea ed hs
          go_wp2_with (first
            | (go_at_call 9; refine (heavy2_any na nb ao po bo qo la ca lp cp lb cb lq cq N _ false HH.out).mono ?_; rintro e w1 ⟨rfl, hb1⟩; clear h0 h1 h2 h3 h4 h5 h6; obtain ⟨h0, h1, h2, h3, h4, h5, h6⟩ := KS.out _ hb1)
            | (go_at_call 24; refine (hMay _ hb1).mono ?_; rintro e w2 ⟨rfl, hb2'⟩; have hb2 := bnext hb1 hb2'; clear hb2'; clear h0 h1 h2 h3 h4 h5 h6; obtain ⟨h0, h1, h2, h3, h4, h5, h6⟩ := KS.out _ hb2)
            | (go_at_call 34; refine (hbt _ hb2).mono ?_; rintro e w3 ⟨rfl, hb3'⟩; have hb3 := bnext hb2 hb3'; clear hb3'; clear h0 h1 h2 h3 h4 h5 h6; obtain ⟨h0, h1, h2, h3, h4, h5, h6⟩ := KS.out _ hb3)
            | (go_at_call 55; refine (hpar _ hb3).mono ?_; rintro e w4 ⟨n5, o5, l5, c5, p5, m5, d5, rfl, hr5, hb4'⟩; have HB4 : Hid (RatAt w4 n5 o5 l5 c5 p5 m5 d5 a ∧ Below wr.heap.size wr w4) := ⟨hr5, bnext hb3 hb4'⟩; clear hr5 hb4'; have HP := RVar.new HB4.out.2 HB4.out.1; clear h0 h1 h2 h3 h4 h5 h6; skip))
          obtain ⟨Z, hZ⟩ : ∃ Z, Z = w4.alloc (.cells #[.bool n5, .slice o5 l5 c5, .slice p5 m5 d5] 28) := ⟨_, rfl⟩
          rw [← hZ] at HP ⊢
          clear hZ
          have KZ : Hid (∀ w' : World, Below Z.heap.size Z w' → Below Z.heap.size Z w' ∧ w'.cell? ⟨b, off + k * 7, none⟩ = some (.bool na) ∧ w'.cell? ⟨b, off + k * 7 + 1, none⟩ = some (.slice ao la ca) ∧ w'.cell? ⟨b, off + k * 7 + 2, none⟩ = some (.slice po lp cp) ∧ w'.cell? ⟨w4.heap.size, 0, none⟩ = some (.bool n5) ∧ w'.cell? ⟨w4.heap.size, 1, none⟩ = some (.slice o5 l5 c5) ∧ w'.cell? ⟨w4.heap.size, 2, none⟩ = some (.slice p5 m5 d5)) := fun w' hb => by
            obtain ⟨t0, t1, t2, _⟩ := KS.out _ (bnext HP.out.2.1 hb)
            obtain ⟨t3, t4, t5⟩ := HP.out.1.box.later hb HP.out.1.lt
            exact ⟨hb, t0, t1, t2, t3, t4, t5⟩
          go_region_held3 (fun w' => Below Z.heap.size Z w' ∧ w'.cell? ⟨b, off + k * 7, none⟩ = some (.bool na) ∧ w'.cell? ⟨b, off + k * 7 + 1, none⟩ = some (.slice ao la ca) ∧ w'.cell? ⟨b, off + k * 7 + 2, none⟩ = some (.slice po lp cp) ∧ w'.cell? ⟨w4.heap.size, 0, none⟩ = some (.bool n5) ∧ w'.cell? ⟨w4.heap.size, 1, none⟩ = some (.slice o5 l5 c5) ∧ w'.cell? ⟨w4.heap.size, 2, none⟩ = some (.slice p5 m5 d5))
            (first
              | exact KZ.out _ (Below.refl _ _).drew
              | exact KZ.out _ (by assumption)
              | assumption)
            (first
              | (go_at_call 56; refine (hrt _ (bnext HP.out.2.1 (Below.refl _ _).drew)).mono ?_; rintro e w5 ⟨rfl, hb5'⟩; have hb5 : Below Z.heap.size Z w5 := bnext (Below.refl _ _).drew hb5'; clear hb5')
              | (go_at_call 26; refine (num2_any 0 _).mono ?_; rintro e w6 ⟨rfl, hw6⟩; replace hw6 := hw6.symm; subst hw6)
              | (go_at_call 22; refine (eqrat_same n5 na o5 p5 ao po l5 c5 m5 d5 la ca lp cp a w5 (HP.out.1.rat.later hb5) (HA.out.1.later (bnext HP.out.2.1 hb5)) (by have h1 := (HP.out.1.rat.len HA.out.2).1; omega) (by have h1 := (HP.out.1.rat.len HA.out.2).2; omega)).mono ?_; rintro e w7 ⟨rfl, hb7'⟩; have hb7 : Below Z.heap.size Z w7 := bnext hb5 hb7'; clear hb7'))
          go_wp2
          go_roundw
          case rel => exact ⟨k + 1, by omega, by omega, by go_num, bnext hbel (bnext HP.out.2.1 hb7)⟩
          case measure => simp [intOf]; omega
      · as_aux_lemma =>
        have HH : Hid (((decide ((8 : Int) < (la : Int)) || decide ((8 : Int) < (lp : Int))) || (decide ((8 : Int) < (lb : Int)) || decide ((8 : Int) < (lq : Int)))) = true) := hhv
        clear hhv
        go_wp2_with (go_at_call 9; refine (heavy2_any na nb ao po bo qo la ca lp cp lb cb lq cq N _ true HH.out).mono ?_; rintro e w1 ⟨rfl, hb1⟩)
        go_ret
        exact ⟨rfl, bnext hbel hb1⟩
    · have hend : ¬ k < len ∨ k = 30 := by omega
      rcases hend with he | he
      · as_aux_lemma =>
        go_wp2
        go_loopw [9] (fun i wr => ∃ k : Nat, k ≤ sl ∧ k ≤ 30 ∧ i = .int .i64 k ∧ Below w.heap.size w wr) (fun i _ => 30 - (intOf i).toNat)
        case atStart => exact ⟨0, Nat.zero_le _, by omega, rfl, hbel⟩
        case round =>
          clear hbel hk hk30
          obtain ⟨k, hk, hk30, rfl, hbel⟩ := hrel
          by_cases hlt : k < sl ∧ k < 30
          · obtain ⟨hlt, hlt30⟩ := hlt
            obtain ⟨b, off, s, rfl, hbw, hcell, hss⟩ := HE.out.2.1 k hlt
            have hbs : b < wr.heap.size := Nat.lt_of_lt_of_le hbw hbel.size
            have hc0 : wr.cell? ⟨b, off + k, none⟩ = some (.string s) := (hbel.cell (p := ⟨b, off + k, none⟩) hbw).trans hcell
            have HC : Hid (wr.cell? ⟨b, off + k, none⟩ = some (.string s)) := hc0
            have z1 : (0 : Int) ≤ (k : Int) := by omega
            have z2 : (k : Int) < (sl : Int) := by omega
            clear hcell
            obtain ⟨c, neg, zs, ds, hzd, hp1, hp2⟩ := both_tell s hss
            have HZ : Hid (zs.length ≤ 1024 ∧ ds.length ≤ 1024) := hzd
            have hcc : (c == c) = true := by simp
            clear hzd
            go_wp2_with (first
              | (go_at_call 55; refine (hp1 _ (tab_later HE.out.2.2.1 hbel)).mono ?_; rintro e w1 ⟨o1, l1, c1, p1, m1, d1, rfl, i1, j1, hb1⟩; have HA1 : Hid (RowAt (w1.alloc (.cells #[.bool neg, .slice o1 l1 c1, .slice p1 m1 d1] 28)) .u64 o1 l1 c1 zs ∧ RowAt (w1.alloc (.cells #[.bool neg, .slice o1 l1 c1, .slice p1 m1 d1] 28)) .u64 p1 m1 d1 ds ∧ Boxed3 (w1.alloc (.cells #[.bool neg, .slice o1 l1 c1, .slice p1 m1 d1] 28)) w1.heap.size neg o1 l1 c1 p1 m1 d1 ∧ Below wr.heap.size wr (w1.alloc (.cells #[.bool neg, .slice o1 l1 c1, .slice p1 m1 d1] 28)) ∧ w1.heap.size < (w1.alloc (.cells #[.bool neg, .slice o1 l1 c1, .slice p1 m1 d1] 28)).heap.size ∧ (l1 ≤ 1024 ∧ m1 ≤ 1024)) := ⟨i1.later ((Below.refl _ _).alloc (Nat.le_refl _) _), j1.later ((Below.refl _ _).alloc (Nat.le_refl _) _), ⟨by simp [go_sem], by simp [go_sem], by simp [go_sem]⟩, below_alloc hb1 (Nat.le_refl _), by simp, by rw [i1.hlen]; exact HZ.out.1, by rw [j1.hlen]; exact HZ.out.2⟩; clear i1 j1 hb1 hc0; have hc0 := (HA1.out.2.2.2.1.cell (p := ⟨b, off + k, none⟩) hbs).trans HC.out)
              | (go_at_call 57; refine (hp2 _).mono ?_; rintro e w2 ⟨o2, l2, c2, p2, m2, d2, rfl, i2, j2, hb2⟩; have hA2 : Below w2.heap.size w2 (w2.alloc (.cells #[.bool neg, .slice o2 l2 c2, .slice p2 m2 d2] 28)) := (Below.refl _ _).alloc (Nat.le_refl _) _; have HA2 : Hid (RowAt (w2.alloc (.cells #[.bool neg, .slice o2 l2 c2, .slice p2 m2 d2] 28)) .u64 o2 l2 c2 zs ∧ RowAt (w2.alloc (.cells #[.bool neg, .slice o2 l2 c2, .slice p2 m2 d2] 28)) .u64 p2 m2 d2 ds ∧ RowAt (w2.alloc (.cells #[.bool neg, .slice o2 l2 c2, .slice p2 m2 d2] 28)) .u64 o1 l1 c1 zs ∧ RowAt (w2.alloc (.cells #[.bool neg, .slice o2 l2 c2, .slice p2 m2 d2] 28)) .u64 p1 m1 d1 ds ∧ Below wr.heap.size wr (w2.alloc (.cells #[.bool neg, .slice o2 l2 c2, .slice p2 m2 d2] 28))) := ⟨i2.later hA2, j2.later hA2, (HA1.out.1.later hb2).later hA2, (HA1.out.2.1.later hb2).later hA2, bnext (bnext HA1.out.2.2.2.1 hb2) hA2⟩; obtain ⟨t0, t1, t2⟩ := HA1.out.2.2.1.later hb2 HA1.out.2.2.2.2.1; have hz2 : w1.heap.size < w2.heap.size := (by have := hb2.size; simp at this; omega); clear i2 j2 hb2 hA2)
              | (go_at_call 26; refine (num2_any c _).mono ?_; rintro e w3 ⟨rfl, hw3⟩; replace hw3 := hw3.symm; subst hw3)
              | (go_at_call 22; refine (eqraw_same neg o1 p1 o2 p2 l1 c1 m1 d1 l2 c2 m2 d2 zs ds _ HA2.out.2.2.1 HA2.out.2.2.2.1 HA2.out.1 HA2.out.2.1 (by have := HA1.out.2.2.2.2.2.1; omega) (by have := HA1.out.2.2.2.2.2.2; omega)).mono ?_; rintro e w4 ⟨rfl, hb4⟩))
            go_roundw
            case rel => exact ⟨k + 1, by omega, by omega, by go_num, bnext hbel (bnext HA2.out.2.2.2.2 hb4)⟩
            case measure => simp [intOf]; omega
          · have hend : ¬ k < sl ∨ k = 30 := by omega
            rcases hend with he | he
            · go_wp2_with (go_at_call 23; refine (hwk _ hbel).mono ?_; rintro e w1 ⟨rfl, hb1⟩)
              go_ret
              exact ⟨rfl, bnext hbel hb1⟩
            · subst he
              by_cases hq : 30 < sl
              · go_wp2_with (go_at_call 23; refine (hwk _ hbel).mono ?_; rintro e w1 ⟨rfl, hb1⟩)
                go_ret
                exact ⟨rfl, bnext hbel hb1⟩
              · go_wp2_with (go_at_call 23; refine (hwk _ hbel).mono ?_; rintro e w1 ⟨rfl, hb1⟩)
                go_ret
                exact ⟨rfl, bnext hbel hb1⟩
      · subst he
        by_cases hq : 30 < len
        · as_aux_lemma =>
          go_wp2
          go_loopw [9] (fun i wr => ∃ k : Nat, k ≤ sl ∧ k ≤ 30 ∧ i = .int .i64 k ∧ Below w.heap.size w wr) (fun i _ => 30 - (intOf i).toNat)
          case atStart => exact ⟨0, Nat.zero_le _, by omega, rfl, hbel⟩
          case round =>
            clear hbel hk hk30
            obtain ⟨k, hk, hk30, rfl, hbel⟩ := hrel
            by_cases hlt : k < sl ∧ k < 30
            · obtain ⟨hlt, hlt30⟩ := hlt
              obtain ⟨b, off, s, rfl, hbw, hcell, hss⟩ := HE.out.2.1 k hlt
              have hbs : b < wr.heap.size := Nat.lt_of_lt_of_le hbw hbel.size
              have hc0 : wr.cell? ⟨b, off + k, none⟩ = some (.string s) := (hbel.cell (p := ⟨b, off + k, none⟩) hbw).trans hcell
              have HC : Hid (wr.cell? ⟨b, off + k, none⟩ = some (.string s)) := hc0
              have z1 : (0 : Int) ≤ (k : Int) := by omega
              have z2 : (k : Int) < (sl : Int) := by omega
              clear hcell
              obtain ⟨c, neg, zs, ds, hzd, hp1, hp2⟩ := both_tell s hss
              have HZ : Hid (zs.length ≤ 1024 ∧ ds.length ≤ 1024) := hzd
              have hcc : (c == c) = true := by simp
              clear hzd
              go_wp2_with (first
                | (go_at_call 55; refine (hp1 _ (tab_later HE.out.2.2.1 hbel)).mono ?_; rintro e w1 ⟨o1, l1, c1, p1, m1, d1, rfl, i1, j1, hb1⟩; have HA1 : Hid (RowAt (w1.alloc (.cells #[.bool neg, .slice o1 l1 c1, .slice p1 m1 d1] 28)) .u64 o1 l1 c1 zs ∧ RowAt (w1.alloc (.cells #[.bool neg, .slice o1 l1 c1, .slice p1 m1 d1] 28)) .u64 p1 m1 d1 ds ∧ Boxed3 (w1.alloc (.cells #[.bool neg, .slice o1 l1 c1, .slice p1 m1 d1] 28)) w1.heap.size neg o1 l1 c1 p1 m1 d1 ∧ Below wr.heap.size wr (w1.alloc (.cells #[.bool neg, .slice o1 l1 c1, .slice p1 m1 d1] 28)) ∧ w1.heap.size < (w1.alloc (.cells #[.bool neg, .slice o1 l1 c1, .slice p1 m1 d1] 28)).heap.size ∧ (l1 ≤ 1024 ∧ m1 ≤ 1024)) := ⟨i1.later ((Below.refl _ _).alloc (Nat.le_refl _) _), j1.later ((Below.refl _ _).alloc (Nat.le_refl _) _), ⟨by simp [go_sem], by simp [go_sem], by simp [go_sem]⟩, below_alloc hb1 (Nat.le_refl _), by simp, by rw [i1.hlen]; exact HZ.out.1, by rw [j1.hlen]; exact HZ.out.2⟩; clear i1 j1 hb1 hc0; have hc0 := (HA1.out.2.2.2.1.cell (p := ⟨b, off + k, none⟩) hbs).trans HC.out)
                | (go_at_call 57; refine (hp2 _).mono ?_; rintro e w2 ⟨o2, l2, c2, p2, m2, d2, rfl, i2, j2, hb2⟩; have hA2 : Below w2.heap.size w2 (w2.alloc (.cells #[.bool neg, .slice o2 l2 c2, .slice p2 m2 d2] 28)) := (Below.refl _ _).alloc (Nat.le_refl _) _; have HA2 : Hid (RowAt (w2.alloc (.cells #[.bool neg, .slice o2 l2 c2, .slice p2 m2 d2] 28)) .u64 o2 l2 c2 zs ∧ RowAt (w2.alloc (.cells #[.bool neg, .slice o2 l2 c2, .slice p2 m2 d2] 28)) .u64 p2 m2 d2 ds ∧ RowAt (w2.alloc (.cells #[.bool neg, .slice o2 l2 c2, .slice p2 m2 d2] 28)) .u64 o1 l1 c1 zs ∧ RowAt (w2.alloc (.cells #[.bool neg, .slice o2 l2 c2, .slice p2 m2 d2] 28)) .u64 p1 m1 d1 ds ∧ Below wr.heap.size wr (w2.alloc (.cells #[.bool neg, .slice o2 l2 c2, .slice p2 m2 d2] 28))) := ⟨i2.later hA2, j2.later hA2, (HA1.out.1.later hb2).later hA2, (HA1.out.2.1.later hb2).later hA2, bnext (bnext HA1.out.2.2.2.1 hb2) hA2⟩; obtain ⟨t0, t1, t2⟩ := HA1.out.2.2.1.later hb2 HA1.out.2.2.2.2.1; have hz2 : w1.heap.size < w2.heap.size := (by have := hb2.size; simp at this; omega); clear i2 j2 hb2 hA2)
                | (go_at_call 26; refine (num2_any c _).mono ?_; rintro e w3 ⟨rfl, hw3⟩; replace hw3 := hw3.symm; subst hw3)
                | (go_at_call 22; refine (eqraw_same neg o1 p1 o2 p2 l1 c1 m1 d1 l2 c2 m2 d2 zs ds _ HA2.out.2.2.1 HA2.out.2.2.2.1 HA2.out.1 HA2.out.2.1 (by have := HA1.out.2.2.2.2.2.1; omega) (by have := HA1.out.2.2.2.2.2.2; omega)).mono ?_; rintro e w4 ⟨rfl, hb4⟩))
              go_roundw
              case rel => exact ⟨k + 1, by omega, by omega, by go_num, bnext hbel (bnext HA2.out.2.2.2.2 hb4)⟩
              case measure => simp [intOf]; omega
            · have hend : ¬ k < sl ∨ k = 30 := by omega
              rcases hend with he | he
              · go_wp2_with (go_at_call 23; refine (hwk _ hbel).mono ?_; rintro e w1 ⟨rfl, hb1⟩)
                go_ret
                exact ⟨rfl, bnext hbel hb1⟩
              · subst he
                by_cases hq : 30 < sl
                · go_wp2_with (go_at_call 23; refine (hwk _ hbel).mono ?_; rintro e w1 ⟨rfl, hb1⟩)
                  go_ret
                  exact ⟨rfl, bnext hbel hb1⟩
                · go_wp2_with (go_at_call 23; refine (hwk _ hbel).mono ?_; rintro e w1 ⟨rfl, hb1⟩)
                  go_ret
                  exact ⟨rfl, bnext hbel hb1⟩
        · as_aux_lemma =>
          go_wp2
          go_loopw [9] (fun i wr => ∃ k : Nat, k ≤ sl ∧ k ≤ 30 ∧ i = .int .i64 k ∧ Below w.heap.size w wr) (fun i _ => 30 - (intOf i).toNat)
          case atStart => exact ⟨0, Nat.zero_le _, by omega, rfl, hbel⟩
          case round =>
            clear hbel hk hk30
            obtain ⟨k, hk, hk30, rfl, hbel⟩ := hrel
            by_cases hlt : k < sl ∧ k < 30
            · obtain ⟨hlt, hlt30⟩ := hlt
              obtain ⟨b, off, s, rfl, hbw, hcell, hss⟩ := HE.out.2.1 k hlt
              have hbs : b < wr.heap.size := Nat.lt_of_lt_of_le hbw hbel.size
              have hc0 : wr.cell? ⟨b, off + k, none⟩ = some (.string s) := (hbel.cell (p := ⟨b, off + k, none⟩) hbw).trans hcell
              have HC : Hid (wr.cell? ⟨b, off + k, none⟩ = some (.string s)) := hc0
              have z1 : (0 : Int) ≤ (k : Int) := by omega
              have z2 : (k : Int) < (sl : Int) := by omega
              clear hcell
              obtain ⟨c, neg, zs, ds, hzd, hp1, hp2⟩ := both_tell s hss
              have HZ : Hid (zs.length ≤ 1024 ∧ ds.length ≤ 1024) := hzd
              have hcc : (c == c) = true := by simp
              clear hzd
              go_wp2_with (first
                | (go_at_call 55; refine (hp1 _ (tab_later HE.out.2.2.1 hbel)).mono ?_; rintro e w1 ⟨o1, l1, c1, p1, m1, d1, rfl, i1, j1, hb1⟩; have HA1 : Hid (RowAt (w1.alloc (.cells #[.bool neg, .slice o1 l1 c1, .slice p1 m1 d1] 28)) .u64 o1 l1 c1 zs ∧ RowAt (w1.alloc (.cells #[.bool neg, .slice o1 l1 c1, .slice p1 m1 d1] 28)) .u64 p1 m1 d1 ds ∧ Boxed3 (w1.alloc (.cells #[.bool neg, .slice o1 l1 c1, .slice p1 m1 d1] 28)) w1.heap.size neg o1 l1 c1 p1 m1 d1 ∧ Below wr.heap.size wr (w1.alloc (.cells #[.bool neg, .slice o1 l1 c1, .slice p1 m1 d1] 28)) ∧ w1.heap.size < (w1.alloc (.cells #[.bool neg, .slice o1 l1 c1, .slice p1 m1 d1] 28)).heap.size ∧ (l1 ≤ 1024 ∧ m1 ≤ 1024)) := ⟨i1.later ((Below.refl _ _).alloc (Nat.le_refl _) _), j1.later ((Below.refl _ _).alloc (Nat.le_refl _) _), ⟨by simp [go_sem], by simp [go_sem], by simp [go_sem]⟩, below_alloc hb1 (Nat.le_refl _), by simp, by rw [i1.hlen]; exact HZ.out.1, by rw [j1.hlen]; exact HZ.out.2⟩; clear i1 j1 hb1 hc0; have hc0 := (HA1.out.2.2.2.1.cell (p := ⟨b, off + k, none⟩) hbs).trans HC.out)
                | (go_at_call 57; refine (hp2 _).mono ?_; rintro e w2 ⟨o2, l2, c2, p2, m2, d2, rfl, i2, j2, hb2⟩; have hA2 : Below w2.heap.size w2 (w2.alloc (.cells #[.bool neg, .slice o2 l2 c2, .slice p2 m2 d2] 28)) := (Below.refl _ _).alloc (Nat.le_refl _) _; have HA2 : Hid (RowAt (w2.alloc (.cells #[.bool neg, .slice o2 l2 c2, .slice p2 m2 d2] 28)) .u64 o2 l2 c2 zs ∧ RowAt (w2.alloc (.cells #[.bool neg, .slice o2 l2 c2, .slice p2 m2 d2] 28)) .u64 p2 m2 d2 ds ∧ RowAt (w2.alloc (.cells #[.bool neg, .slice o2 l2 c2, .slice p2 m2 d2] 28)) .u64 o1 l1 c1 zs ∧ RowAt (w2.alloc (.cells #[.bool neg, .slice o2 l2 c2, .slice p2 m2 d2] 28)) .u64 p1 m1 d1 ds ∧ Below wr.heap.size wr (w2.alloc (.cells #[.bool neg, .slice o2 l2 c2, .slice p2 m2 d2] 28))) := ⟨i2.later hA2, j2.later hA2, (HA1.out.1.later hb2).later hA2, (HA1.out.2.1.later hb2).later hA2, bnext (bnext HA1.out.2.2.2.1 hb2) hA2⟩; obtain ⟨t0, t1, t2⟩ := HA1.out.2.2.1.later hb2 HA1.out.2.2.2.2.1; have hz2 : w1.heap.size < w2.heap.size := (by have := hb2.size; simp at this; omega); clear i2 j2 hb2 hA2)
                | (go_at_call 26; refine (num2_any c _).mono ?_; rintro e w3 ⟨rfl, hw3⟩; replace hw3 := hw3.symm; subst hw3)
                | (go_at_call 22; refine (eqraw_same neg o1 p1 o2 p2 l1 c1 m1 d1 l2 c2 m2 d2 zs ds _ HA2.out.2.2.1 HA2.out.2.2.2.1 HA2.out.1 HA2.out.2.1 (by have := HA1.out.2.2.2.2.2.1; omega) (by have := HA1.out.2.2.2.2.2.2; omega)).mono ?_; rintro e w4 ⟨rfl, hb4⟩))
              go_roundw
              case rel => exact ⟨k + 1, by omega, by omega, by go_num, bnext hbel (bnext HA2.out.2.2.2.2 hb4)⟩
              case measure => simp [intOf]; omega
            · have hend : ¬ k < sl ∨ k = 30 := by omega
              rcases hend with he | he
              · go_wp2_with (go_at_call 23; refine (hwk _ hbel).mono ?_; rintro e w1 ⟨rfl, hb1⟩)
                go_ret
                exact ⟨rfl, bnext hbel hb1⟩
              · subst he
                by_cases hq : 30 < sl
                · go_wp2_with (go_at_call 23; refine (hwk _ hbel).mono ?_; rintro e w1 ⟨rfl, hb1⟩)
                  go_ret
                  exact ⟨rfl, bnext hbel hb1⟩
                · go_wp2_with (go_at_call 23; refine (hwk _ hbel).mono ?_; rintro e w1 ⟨rfl, hb1⟩)
                  go_ret
                  exact ⟨rfl, bnext hbel hb1⟩
end Go.Proofs.YtljmbnbilmghhaaGreatDoor
