/-
  The walk of BigTexts.
-/
import Derived.Test.YtnodcfeimiimbaaDoorIH
import Derived.Test.YtnodcfeimiimbaaDoorLA0
namespace Go.Proofs.YtnodcfeimiimbaaDoor
open Go.RowKit
set_option linter.unusedVariables false
set_option linter.unusedSimpArgs false

/-- a list of texts -/
def StrsAt (w : World) (so : Option Addr) (n : Nat) : Prop := ∀ i, i < n → ∃ b off s, so = some ⟨b, off, none⟩ ∧ b < w.heap.size ∧ w.cell? ⟨b, off + i, none⟩ = some (.string s) ∧ s.size ≤ 9223372036854775807
/-- both read a text alike -/
def ReadBoth (s : ByteArray) : Prop :=
    (∃ v : Int, (mag v.natAbs).length ≤ 4611686018427387904 ∧ (∀ W, Calls Tryd.prog 7 #[.string s] W fun e w' => ∃ n ao l c, e = .returned (.tuple #[.agg #[.bool n, .slice ao l c], .int .i64 0]) ∧ IntAt w' n ao l c v ∧ Below W.heap.size W w') ∧ (∀ W, Calls Tryd.prog 11 #[.string s] W fun e w' => ∃ n ao l c, e = .returned (.tuple #[.agg #[.bool n, .slice ao l c], .int .i64 0]) ∧ IntAt w' n ao l c v ∧ Below W.heap.size W w')) ∨
    ((∀ W, Calls Tryd.prog 7 #[.string s] W fun e w' => e = .returned (.tuple #[.agg #[.bool false, .slice none 0 0], .int .i64 13]) ∧ Below W.heap.size W w') ∧ (∀ W, Calls Tryd.prog 11 #[.string s] W fun e w' => e = .returned (.tuple #[.agg #[.bool false, .slice none 0 0], .int .i64 13]) ∧ Below W.heap.size W w'))
theorem parse_both (s : ByteArray) (hs : s.size ≤ 9223372036854775807) : ReadBoth s := by
  have key : ∀ (neg : Bool) (d : ByteArray), (∀ W, Calls Tryd.prog 7 #[.string s] W fun e w' => RParse neg d W w' e) → (∀ W, Calls Tryd.prog 11 #[.string s] W fun e w' => RParse neg d W w' e) → ReadBoth s := fun neg d h1 h2 => by
    by_cases hd : Dig d ∧ (neg = true → decVal d d.size ≠ 0)
    · refine Or.inl ⟨sgn neg (decVal d d.size), by rw [natAbs_sgn]; exact dig_len hd.1, fun W => (h1 W).mono fun e w' h => ?_, fun W => (h2 W).mono fun e w' h => ?_⟩
      · rcases h.2 with ⟨n, ao, l, c, he, _, _, hi⟩ | ⟨_, hno⟩
        · exact ⟨n, ao, l, c, he, hi, h.1⟩
        · exact absurd hd hno
      · rcases h.2 with ⟨n, ao, l, c, he, _, _, hi⟩ | ⟨_, hno⟩
        · exact ⟨n, ao, l, c, he, hi, h.1⟩
        · exact absurd hd hno
    · refine Or.inr ⟨fun W => (h1 W).mono fun e w' h => ?_, fun W => (h2 W).mono fun e w' h => ?_⟩
      · rcases h.2 with ⟨n, ao, l, c, he, hy, hz, hi⟩ | ⟨he, _⟩
        · exact absurd ⟨hy, hz⟩ hd
        · exact ⟨he, h.1⟩
      · rcases h.2 with ⟨n, ao, l, c, he, hy, hz, hi⟩ | ⟨he, _⟩
        · exact absurd ⟨hy, hz⟩ hd
        · exact ⟨he, h.1⟩
  by_cases hsg : Signed s
  · exact key true _ (fun W => bparse_neg s W hs hsg) (fun W => rparse_neg s W hs hsg)
  · by_cases h0 : 0 < s.size
    · exact key false s (fun W => bparse_plain s W hs hsg) (fun W => rparse_pos s W hs h0 (fun e => hsg ⟨h0, e⟩))
    · exact key false s (fun W => bparse_plain s W hs hsg) (fun W => rparse_nil s W hs (by omega))
theorem eqnil2_any (w : World) : Calls Tryd.prog 10 #[.agg #[.bool false, .slice none 0 0], .agg #[.bool false, .slice none 0 0]] w fun e w' => e = .returned (.bool true) ∧ Below w.heap.size w w' :=
  (eqint_any false false none none 0 0 0 0 [] [] w (RowAt.nilRow w .u64) (RowAt.nilRow w .u64) (by decide)).mono fun e w' h => by simpa using h

set_option maxRecDepth 100000 in
set_option maxHeartbeats 8000000 in
theorem bigTexts_any (lo so : Option Addr) (len cap sl sc : Nat) (w : World) (hE : ElemsAt w lo len) (hl : len ≤ 9223372036854775807) (hS : StrsAt w so sl) (hsl : sl ≤ 9223372036854775807) (htab : Pow10 w) :
    Calls Tryd.prog 3 #[.agg #[.slice lo len cap, .slice so sl sc]] w fun e w' => e = .returned (.bool true) ∧ Below w.heap.size w w' := by
  have HE : Hid (ElemsAt w lo len ∧ StrsAt w so sl ∧ Pow10 w) := ⟨hE, hS, htab⟩
  have hA : Below w.heap.size w (w.alloc (.cells #[.slice lo len cap, .slice so sl sc] 25)) := (Below.refl _ _).alloc (Nat.le_refl _) _
  clear hE hS htab
  go_enter Tryd.func3, Tryd.ntmps3
  go_wp2
  go_loopw [5] (fun i wr => ∃ k : Nat, k ≤ len ∧ k ≤ 40 ∧ i = .int .i64 k ∧ Below w.heap.size w wr) (fun i _ => 40 - (intOf i).toNat)
  case atStart => exact ⟨0, Nat.zero_le _, by omega, rfl, hA⟩
  case round =>
    clear hA
    obtain ⟨k, hk, hk40, rfl, hbel⟩ := hrel
    by_cases hlt : k < len ∧ k < 40
    · obtain ⟨hlt, hlt40⟩ := hlt
      obtain ⟨b, off, rfl, hbw, hel⟩ := HE.out.1 k hlt
      obtain ⟨na, nb, ao, bo, la, ca, lb, cb, N, x, y, ⟨h0, h1, h2, h3, h4⟩, hx, wx, hy, wy, hn1, hn2⟩ := hel.later hbel hbw
      have hbs : b < wr.heap.size := Nat.lt_of_lt_of_le hbw hbel.size
      have KS : Hid (∀ w' : World, Below wr.heap.size wr w' → w'.cell? ⟨b, off + k * 5, none⟩ = some (.bool na) ∧ w'.cell? ⟨b, off + k * 5 + 1, none⟩ = some (.slice ao la ca) ∧ w'.cell? ⟨b, off + k * 5 + 2, none⟩ = some (.bool nb) ∧ w'.cell? ⟨b, off + k * 5 + 3, none⟩ = some (.slice bo lb cb) ∧ w'.cell? ⟨b, off + k * 5 + 4, none⟩ = some (.int .i64 N)) := fun w' hb => ⟨(hb.cell (p := ⟨b, off + k * 5, none⟩) hbs).trans h0, (hb.cell (p := ⟨b, off + k * 5 + 1, none⟩) hbs).trans h1, (hb.cell (p := ⟨b, off + k * 5 + 2, none⟩) hbs).trans h2, (hb.cell (p := ⟨b, off + k * 5 + 3, none⟩) hbs).trans h3, (hb.cell (p := ⟨b, off + k * 5 + 4, none⟩) hbs).trans h4⟩
      have HX : Hid (RowAt wr .u64 ao la ca x ∧ Wd 18446744073709551616 x ∧ Pow10 wr) := ⟨hx, wx, HE.out.2.2.later hbel⟩
      have z1 : (0 : Int) ≤ (k : Int) := by omega
      have z2 : (k : Int) < (len : Int) := by omega
      clear hx hy wx wy hel
      cases hhv : (decide (30 < (la : Int)) || decide (30 < (lb : Int)))
      · have HH : Hid ((decide (30 < (la : Int)) || decide (30 < (lb : Int))) = false) := hhv
        have hla : la ≤ 30 := by simp at hhv; omega
        clear hhv
        cases hm : mayB na x
        · as_aux_lemma =>
          have HM : Hid (mayB na x = false ∧ (if mayB na x then 0 else 10 : Int) = 10) := ⟨hm, by rw [hm]; rfl⟩
          clear hm
          go_wp2_with (first
            | (go_at_call 4; refine (heavy_any na nb ao bo la ca lb cb N _ false HH.out).mono ?_; rintro e w1 ⟨rfl, hb1⟩; clear h0 h1 h2 h3 h4; obtain ⟨h0, h1, h2, h3, h4⟩ := KS.out _ hb1)
            | (go_at_call 5; refine (btext_bad na ao la ca x _ (HX.out.1.later hb1) (by omega) HM.out.1).mono ?_; rintro e w2 ⟨rfl, hb2⟩; clear h0 h1 h2 h3 h4; have hb12 := bnext hb1 hb2; obtain ⟨h0, h1, h2, h3, h4⟩ := KS.out _ hb12)
            | (go_at_call 6; refine (one_any na nb ao bo la ca lb cb N x _ (HX.out.1.later hb12) (by omega) 10 HM.out.2).mono ?_; rintro e w3 ⟨rfl, hb3⟩))
          go_roundw
          case rel => exact ⟨k + 1, by omega, by omega, by go_num, bnext hbel (bnext hb12 hb3)⟩
          case measure => simp [intOf]; omega
        · have HM : Hid ((if mayB na x then 0 else 10 : Int) = 0) := by show _ = _; rw [hm]; rfl
          obtain ⟨v, hIv, hxv⟩ := int_of_may HX.out.1 HX.out.2.1 hm
          obtain ⟨s, hs⟩ : ∃ s, s = strOfNums (itext v) := ⟨_, rfl⟩
          have hdl : (dnums v.natAbs).length ≤ 1024 := by have := dnums_len hIv.row.hlen; omega
          have hpar : ∀ W, Calls Tryd.prog 7 #[.string s] W fun e w' => ∃ n ao l c, e = .returned (.tuple #[.agg #[.bool n, .slice ao l c], .int .i64 0]) ∧ IntAt w' n ao l c v ∧ Below W.heap.size W w' := fun W => by rw [hs]; exact bparse_text v W hdl
          have HI : Hid (IntAt wr na ao la ca v) := hIv
          have hbt : ∀ W, Below wr.heap.size wr W → Calls Tryd.prog 5 #[.agg #[.bool na, .slice ao la ca]] W fun e w' => e = .returned (.string s) ∧ Below W.heap.size W w' := fun W hb => by rw [hs]; exact btext_any na ao la ca v W (HI.out.later hb) (by omega) (HX.out.2.2.later hb)
          have hrt : ∀ W, Below wr.heap.size wr W → Calls Tryd.prog 8 #[.agg #[.bool na, .slice ao la ca]] W fun e w' => e = .returned (.string s) ∧ Below W.heap.size W w' := fun W hb => by rw [hs]; exact rtext_any na ao la ca v W (HI.out.later hb) (by omega)
          clear hm hxv hIv hs hdl
          go_wp2_with (first
            | (go_at_call 4; refine (heavy_any na nb ao bo la ca lb cb N _ false HH.out).mono ?_; rintro e w1 ⟨rfl, hb1⟩; clear h0 h1 h2 h3 h4; obtain ⟨h0, h1, h2, h3, h4⟩ := KS.out _ hb1)
            | (go_at_call 5; refine (hbt _ hb1).mono ?_; rintro e w2 ⟨rfl, hb2⟩; clear h0 h1 h2 h3 h4; have hb12 := bnext hb1 hb2; obtain ⟨h0, h1, h2, h3, h4⟩ := KS.out _ hb12)
            | (go_at_call 6; refine (one_any na nb ao bo la ca lb cb N x _ (HX.out.1.later hb12) (by omega) 0 HM.out).mono ?_; rintro e w3 ⟨rfl, hb3⟩; clear h0 h1 h2 h3 h4; have hb13 := bnext hb12 hb3; obtain ⟨h0, h1, h2, h3, h4⟩ := KS.out _ hb13)
            | (go_at_call 7; refine (hpar _).mono ?_; rintro e w4 ⟨n5, o5, l5, c5, rfl, hi5, hb4⟩; clear h0 h1 h2 h3 h4; have hb14 := bnext hb13 hb4; have HP : Hid (IntAt (w4.alloc (.cells #[.bool n5, .slice o5 l5 c5] 30)) n5 o5 l5 c5 v ∧ Below wr.heap.size wr (w4.alloc (.cells #[.bool n5, .slice o5 l5 c5] 30)) ∧ Boxed (w4.alloc (.cells #[.bool n5, .slice o5 l5 c5] 30)) w4.heap.size n5 o5 l5 c5 ∧ w4.heap.size < (w4.alloc (.cells #[.bool n5, .slice o5 l5 c5] 30)).heap.size) := ⟨hi5.later ((Below.refl _ _).alloc (Nat.le_refl _) _), bnext hb14 ((Below.refl _ _).alloc (Nat.le_refl _) _), ⟨by simp [go_sem], by simp [go_sem]⟩, by simp⟩; clear hi5))
          obtain ⟨Z, hZ⟩ : ∃ Z, Z = w4.alloc (.cells #[.bool n5, .slice o5 l5 c5] 30) := ⟨_, rfl⟩
          rw [← hZ] at HP ⊢
          clear hZ
          have KZ : Hid (∀ w' : World, Below Z.heap.size Z w' → Below Z.heap.size Z w' ∧ w'.cell? ⟨b, off + k * 5, none⟩ = some (.bool na) ∧ w'.cell? ⟨b, off + k * 5 + 1, none⟩ = some (.slice ao la ca) ∧ w'.cell? ⟨w4.heap.size, 0, none⟩ = some (.bool n5) ∧ w'.cell? ⟨w4.heap.size, 1, none⟩ = some (.slice o5 l5 c5)) := fun w' hb => by
            obtain ⟨t0, t1, _⟩ := KS.out _ (bnext HP.out.2.1 hb)
            obtain ⟨t2, t3⟩ := HP.out.2.2.1.later hb HP.out.2.2.2
            exact ⟨hb, t0, t1, t2, t3⟩
          go_region_held3 (fun w' => Below Z.heap.size Z w' ∧ w'.cell? ⟨b, off + k * 5, none⟩ = some (.bool na) ∧ w'.cell? ⟨b, off + k * 5 + 1, none⟩ = some (.slice ao la ca) ∧ w'.cell? ⟨w4.heap.size, 0, none⟩ = some (.bool n5) ∧ w'.cell? ⟨w4.heap.size, 1, none⟩ = some (.slice o5 l5 c5))
            (first
              | exact KZ.out _ (Below.refl _ _).drew
              | exact KZ.out _ (by assumption)
              | assumption)
            (first
              | (go_at_call 8; refine (hrt _ (bnext HP.out.2.1 (Below.refl _ _).drew)).mono ?_; rintro e w5 ⟨rfl, hb5'⟩; have hb5 : Below Z.heap.size Z w5 := bnext (Below.refl _ _).drew hb5'; clear hb5')
              | (go_at_call 9; refine (num_any 0 _).mono ?_; rintro e w6 ⟨rfl, hw6⟩; replace hw6 := hw6.symm; subst hw6)
              | (go_at_call 10; refine (eqint_at n5 na o5 ao l5 c5 la ca v v w5 (HP.out.1.later hb5) (HI.out.later (bnext HP.out.2.1 hb5)) (by have h1 := HP.out.1.row.hlen; have h2 := HI.out.row.hlen; omega) true (decide_eq_true rfl)).mono ?_; rintro e w7 ⟨rfl, hb7'⟩; have hb7 : Below Z.heap.size Z w7 := bnext hb5 hb7'; clear hb7'))
          go_wp2
          go_roundw
          case rel => exact ⟨k + 1, by omega, by omega, by go_num, bnext hbel (bnext HP.out.2.1 hb7)⟩
          case measure => simp [intOf]; omega
      · as_aux_lemma =>
        have HH : Hid ((decide (30 < (la : Int)) || decide (30 < (lb : Int))) = true) := hhv
        clear hhv
        go_wp2_with (go_at_call 4; refine (heavy_any na nb ao bo la ca lb cb N _ true HH.out).mono ?_; rintro e w1 ⟨rfl, hb1⟩)
        go_ret
        exact ⟨rfl, bnext hbel hb1⟩
    · have hend : ¬ k < len ∨ k = 40 := by omega
      rcases hend with he | he
      · as_aux_lemma =>
        go_wp2
        go_loopw [9] (fun i wr => ∃ k : Nat, k ≤ sl ∧ k ≤ 40 ∧ i = .int .i64 k ∧ Below w.heap.size w wr) (fun i _ => 40 - (intOf i).toNat)
        case atStart => exact ⟨0, Nat.zero_le _, by omega, rfl, hbel⟩
        case round =>
          clear hbel hk hk40
          obtain ⟨k, hk, hk40, rfl, hbel⟩ := hrel
          by_cases hlt : k < sl ∧ k < 40
          · obtain ⟨hlt, hlt40⟩ := hlt
            obtain ⟨b, off, s, rfl, hbw, hcell, hss⟩ := HE.out.2.1 k hlt
            have hbs : b < wr.heap.size := Nat.lt_of_lt_of_le hbw hbel.size
            have hc0 : wr.cell? ⟨b, off + k, none⟩ = some (.string s) := (hbel.cell (p := ⟨b, off + k, none⟩) hbw).trans hcell
            have HC : Hid (wr.cell? ⟨b, off + k, none⟩ = some (.string s)) := hc0
            have z1 : (0 : Int) ≤ (k : Int) := by omega
            have z2 : (k : Int) < (sl : Int) := by omega
            clear hcell
            rcases parse_both s hss with ⟨v, hvl, hp1, hp2⟩ | ⟨hp1, hp2⟩
            · as_aux_lemma =>
              go_wp2_with (first
                | (go_at_call 7; refine (hp1 _).mono ?_; rintro e w1 ⟨n1, o1, l1, c1, rfl, hi1, hb1⟩; have HA : Hid (IntAt (w1.alloc (.cells #[.bool n1, .slice o1 l1 c1] 30)) n1 o1 l1 c1 v ∧ Below wr.heap.size wr (w1.alloc (.cells #[.bool n1, .slice o1 l1 c1] 30)) ∧ Boxed (w1.alloc (.cells #[.bool n1, .slice o1 l1 c1] 30)) w1.heap.size n1 o1 l1 c1 ∧ w1.heap.size < (w1.alloc (.cells #[.bool n1, .slice o1 l1 c1] 30)).heap.size ∧ l1 ≤ 4611686018427387904) := ⟨hi1.later ((Below.refl _ _).alloc (Nat.le_refl _) _), bnext hb1 ((Below.refl _ _).alloc (Nat.le_refl _) _), ⟨by simp [go_sem], by simp [go_sem]⟩, by simp, by rw [hi1.row.hlen]; exact hvl⟩; clear hi1 hb1 hc0; have hc0 : (w1.alloc (.cells #[.bool n1, .slice o1 l1 c1] 30)).cell? ⟨b, off + k, none⟩ = some (.string s) := (HA.out.2.1.cell (p := ⟨b, off + k, none⟩) hbs).trans HC.out)
                | (go_at_call 11; refine (hp2 _).mono ?_; rintro e w2 ⟨n2, o2, l2, c2, rfl, hi2, hb2⟩; have HB : Hid (IntAt (w2.alloc (.cells #[.bool n2, .slice o2 l2 c2] 30)) n2 o2 l2 c2 v ∧ IntAt (w2.alloc (.cells #[.bool n2, .slice o2 l2 c2] 30)) n1 o1 l1 c1 v ∧ Below wr.heap.size wr (w2.alloc (.cells #[.bool n2, .slice o2 l2 c2] 30)) ∧ Boxed (w2.alloc (.cells #[.bool n2, .slice o2 l2 c2] 30)) w2.heap.size n2 o2 l2 c2 ∧ Boxed (w2.alloc (.cells #[.bool n2, .slice o2 l2 c2] 30)) w1.heap.size n1 o1 l1 c1) := ⟨hi2.later ((Below.refl _ _).alloc (Nat.le_refl _) _), (HA.out.1.later hb2).later ((Below.refl _ _).alloc (Nat.le_refl _) _), bnext (bnext HA.out.2.1 hb2) ((Below.refl _ _).alloc (Nat.le_refl _) _), ⟨by simp [go_sem], by simp [go_sem]⟩, HA.out.2.2.1.later (bnext hb2 ((Below.refl _ _).alloc (Nat.le_refl _) _)) HA.out.2.2.2.1⟩; clear hi2 hb2 hc0; obtain ⟨t0, t1⟩ := HB.out.2.2.2.1; obtain ⟨t2, t3⟩ := HB.out.2.2.2.2)
                | (go_at_call 9; refine (num_any 0 _).mono ?_; rintro e w3 ⟨rfl, hw3⟩; replace hw3 := hw3.symm; subst hw3)
                | (go_at_call 10; refine (eqint_at n1 n2 o1 o2 l1 c1 l2 c2 v v _ HB.out.2.1 HB.out.1 HA.out.2.2.2.2 true (decide_eq_true rfl)).mono ?_; rintro e w4 ⟨rfl, hb4⟩))
              go_roundw
              case rel => exact ⟨k + 1, by omega, by omega, by go_num, bnext hbel (bnext HB.out.2.2.1 hb4)⟩
              case measure => simp [intOf]; omega
            · as_aux_lemma =>
              go_wp2_with (first
                | (go_at_call 7; refine (hp1 _).mono ?_; rintro e w1 ⟨rfl, hb1⟩; have HA : Hid (Below wr.heap.size wr (w1.alloc (.cells #[.bool false, .slice none 0 0] 30)) ∧ Boxed (w1.alloc (.cells #[.bool false, .slice none 0 0] 30)) w1.heap.size false none 0 0 ∧ w1.heap.size < (w1.alloc (.cells #[.bool false, .slice none 0 0] 30)).heap.size) := ⟨bnext hb1 ((Below.refl _ _).alloc (Nat.le_refl _) _), ⟨by simp [go_sem], by simp [go_sem]⟩, by simp⟩; clear hb1 hc0; have hc0 : (w1.alloc (.cells #[.bool false, .slice none 0 0] 30)).cell? ⟨b, off + k, none⟩ = some (.string s) := (HA.out.1.cell (p := ⟨b, off + k, none⟩) hbs).trans HC.out)
                | (go_at_call 11; refine (hp2 _).mono ?_; rintro e w2 ⟨rfl, hb2⟩; have HB : Hid (Below wr.heap.size wr (w2.alloc (.cells #[.bool false, .slice none 0 0] 30)) ∧ Boxed (w2.alloc (.cells #[.bool false, .slice none 0 0] 30)) w2.heap.size false none 0 0 ∧ Boxed (w2.alloc (.cells #[.bool false, .slice none 0 0] 30)) w1.heap.size false none 0 0) := ⟨bnext (bnext HA.out.1 hb2) ((Below.refl _ _).alloc (Nat.le_refl _) _), ⟨by simp [go_sem], by simp [go_sem]⟩, HA.out.2.1.later (bnext hb2 ((Below.refl _ _).alloc (Nat.le_refl _) _)) HA.out.2.2⟩; clear hb2 hc0; obtain ⟨t0, t1⟩ := HB.out.2.1; obtain ⟨t2, t3⟩ := HB.out.2.2)
                | (go_at_call 9; refine (num_any 13 _).mono ?_; rintro e w3 ⟨rfl, hw3⟩; replace hw3 := hw3.symm; subst hw3)
                | (go_at_call 10; refine (eqnil2_any _).mono ?_; rintro e w4 ⟨rfl, hb4⟩))
              go_roundw
              case rel => exact ⟨k + 1, by omega, by omega, by go_num, bnext hbel (bnext HB.out.1 hb4)⟩
              case measure => simp [intOf]; omega
          · have hend : ¬ k < sl ∨ k = 40 := by omega
            rcases hend with he | he
            · go_wp2_with (go_at_call 12; refine (wakes_any _).mono ?_; rintro e w1 ⟨rfl, hb1⟩)
              go_ret
              exact ⟨rfl, bnext hbel hb1⟩
            · subst he
              by_cases hq : 40 < sl
              · go_wp2_with (go_at_call 12; refine (wakes_any _).mono ?_; rintro e w1 ⟨rfl, hb1⟩)
                go_ret
                exact ⟨rfl, bnext hbel hb1⟩
              · go_wp2_with (go_at_call 12; refine (wakes_any _).mono ?_; rintro e w1 ⟨rfl, hb1⟩)
                go_ret
                exact ⟨rfl, bnext hbel hb1⟩
      · subst he
        by_cases hq : 40 < len
        · as_aux_lemma =>
          go_wp2
          go_loopw [9] (fun i wr => ∃ k : Nat, k ≤ sl ∧ k ≤ 40 ∧ i = .int .i64 k ∧ Below w.heap.size w wr) (fun i _ => 40 - (intOf i).toNat)
          case atStart => exact ⟨0, Nat.zero_le _, by omega, rfl, hbel⟩
          case round =>
            clear hbel hk hk40
            obtain ⟨k, hk, hk40, rfl, hbel⟩ := hrel
            by_cases hlt : k < sl ∧ k < 40
            · obtain ⟨hlt, hlt40⟩ := hlt
              obtain ⟨b, off, s, rfl, hbw, hcell, hss⟩ := HE.out.2.1 k hlt
              have hbs : b < wr.heap.size := Nat.lt_of_lt_of_le hbw hbel.size
              have hc0 : wr.cell? ⟨b, off + k, none⟩ = some (.string s) := (hbel.cell (p := ⟨b, off + k, none⟩) hbw).trans hcell
              have HC : Hid (wr.cell? ⟨b, off + k, none⟩ = some (.string s)) := hc0
              have z1 : (0 : Int) ≤ (k : Int) := by omega
              have z2 : (k : Int) < (sl : Int) := by omega
              clear hcell
              rcases parse_both s hss with ⟨v, hvl, hp1, hp2⟩ | ⟨hp1, hp2⟩
              · as_aux_lemma =>
                go_wp2_with (first
                  | (go_at_call 7; refine (hp1 _).mono ?_; rintro e w1 ⟨n1, o1, l1, c1, rfl, hi1, hb1⟩; have HA : Hid (IntAt (w1.alloc (.cells #[.bool n1, .slice o1 l1 c1] 30)) n1 o1 l1 c1 v ∧ Below wr.heap.size wr (w1.alloc (.cells #[.bool n1, .slice o1 l1 c1] 30)) ∧ Boxed (w1.alloc (.cells #[.bool n1, .slice o1 l1 c1] 30)) w1.heap.size n1 o1 l1 c1 ∧ w1.heap.size < (w1.alloc (.cells #[.bool n1, .slice o1 l1 c1] 30)).heap.size ∧ l1 ≤ 4611686018427387904) := ⟨hi1.later ((Below.refl _ _).alloc (Nat.le_refl _) _), bnext hb1 ((Below.refl _ _).alloc (Nat.le_refl _) _), ⟨by simp [go_sem], by simp [go_sem]⟩, by simp, by rw [hi1.row.hlen]; exact hvl⟩; clear hi1 hb1 hc0; have hc0 : (w1.alloc (.cells #[.bool n1, .slice o1 l1 c1] 30)).cell? ⟨b, off + k, none⟩ = some (.string s) := (HA.out.2.1.cell (p := ⟨b, off + k, none⟩) hbs).trans HC.out)
                  | (go_at_call 11; refine (hp2 _).mono ?_; rintro e w2 ⟨n2, o2, l2, c2, rfl, hi2, hb2⟩; have HB : Hid (IntAt (w2.alloc (.cells #[.bool n2, .slice o2 l2 c2] 30)) n2 o2 l2 c2 v ∧ IntAt (w2.alloc (.cells #[.bool n2, .slice o2 l2 c2] 30)) n1 o1 l1 c1 v ∧ Below wr.heap.size wr (w2.alloc (.cells #[.bool n2, .slice o2 l2 c2] 30)) ∧ Boxed (w2.alloc (.cells #[.bool n2, .slice o2 l2 c2] 30)) w2.heap.size n2 o2 l2 c2 ∧ Boxed (w2.alloc (.cells #[.bool n2, .slice o2 l2 c2] 30)) w1.heap.size n1 o1 l1 c1) := ⟨hi2.later ((Below.refl _ _).alloc (Nat.le_refl _) _), (HA.out.1.later hb2).later ((Below.refl _ _).alloc (Nat.le_refl _) _), bnext (bnext HA.out.2.1 hb2) ((Below.refl _ _).alloc (Nat.le_refl _) _), ⟨by simp [go_sem], by simp [go_sem]⟩, HA.out.2.2.1.later (bnext hb2 ((Below.refl _ _).alloc (Nat.le_refl _) _)) HA.out.2.2.2.1⟩; clear hi2 hb2 hc0; obtain ⟨t0, t1⟩ := HB.out.2.2.2.1; obtain ⟨t2, t3⟩ := HB.out.2.2.2.2)
                  | (go_at_call 9; refine (num_any 0 _).mono ?_; rintro e w3 ⟨rfl, hw3⟩; replace hw3 := hw3.symm; subst hw3)
                  | (go_at_call 10; refine (eqint_at n1 n2 o1 o2 l1 c1 l2 c2 v v _ HB.out.2.1 HB.out.1 HA.out.2.2.2.2 true (decide_eq_true rfl)).mono ?_; rintro e w4 ⟨rfl, hb4⟩))
                go_roundw
                case rel => exact ⟨k + 1, by omega, by omega, by go_num, bnext hbel (bnext HB.out.2.2.1 hb4)⟩
                case measure => simp [intOf]; omega
              · as_aux_lemma =>
                go_wp2_with (first
                  | (go_at_call 7; refine (hp1 _).mono ?_; rintro e w1 ⟨rfl, hb1⟩; have HA : Hid (Below wr.heap.size wr (w1.alloc (.cells #[.bool false, .slice none 0 0] 30)) ∧ Boxed (w1.alloc (.cells #[.bool false, .slice none 0 0] 30)) w1.heap.size false none 0 0 ∧ w1.heap.size < (w1.alloc (.cells #[.bool false, .slice none 0 0] 30)).heap.size) := ⟨bnext hb1 ((Below.refl _ _).alloc (Nat.le_refl _) _), ⟨by simp [go_sem], by simp [go_sem]⟩, by simp⟩; clear hb1 hc0; have hc0 : (w1.alloc (.cells #[.bool false, .slice none 0 0] 30)).cell? ⟨b, off + k, none⟩ = some (.string s) := (HA.out.1.cell (p := ⟨b, off + k, none⟩) hbs).trans HC.out)
                  | (go_at_call 11; refine (hp2 _).mono ?_; rintro e w2 ⟨rfl, hb2⟩; have HB : Hid (Below wr.heap.size wr (w2.alloc (.cells #[.bool false, .slice none 0 0] 30)) ∧ Boxed (w2.alloc (.cells #[.bool false, .slice none 0 0] 30)) w2.heap.size false none 0 0 ∧ Boxed (w2.alloc (.cells #[.bool false, .slice none 0 0] 30)) w1.heap.size false none 0 0) := ⟨bnext (bnext HA.out.1 hb2) ((Below.refl _ _).alloc (Nat.le_refl _) _), ⟨by simp [go_sem], by simp [go_sem]⟩, HA.out.2.1.later (bnext hb2 ((Below.refl _ _).alloc (Nat.le_refl _) _)) HA.out.2.2⟩; clear hb2 hc0; obtain ⟨t0, t1⟩ := HB.out.2.1; obtain ⟨t2, t3⟩ := HB.out.2.2)
                  | (go_at_call 9; refine (num_any 13 _).mono ?_; rintro e w3 ⟨rfl, hw3⟩; replace hw3 := hw3.symm; subst hw3)
                  | (go_at_call 10; refine (eqnil2_any _).mono ?_; rintro e w4 ⟨rfl, hb4⟩))
                go_roundw
                case rel => exact ⟨k + 1, by omega, by omega, by go_num, bnext hbel (bnext HB.out.1 hb4)⟩
                case measure => simp [intOf]; omega
            · have hend : ¬ k < sl ∨ k = 40 := by omega
              rcases hend with he | he
              · go_wp2_with (go_at_call 12; refine (wakes_any _).mono ?_; rintro e w1 ⟨rfl, hb1⟩)
                go_ret
                exact ⟨rfl, bnext hbel hb1⟩
              · subst he
                by_cases hq : 40 < sl
                · go_wp2_with (go_at_call 12; refine (wakes_any _).mono ?_; rintro e w1 ⟨rfl, hb1⟩)
                  go_ret
                  exact ⟨rfl, bnext hbel hb1⟩
                · go_wp2_with (go_at_call 12; refine (wakes_any _).mono ?_; rintro e w1 ⟨rfl, hb1⟩)
                  go_ret
                  exact ⟨rfl, bnext hbel hb1⟩
        · as_aux_lemma =>
          go_wp2
          go_loopw [9] (fun i wr => ∃ k : Nat, k ≤ sl ∧ k ≤ 40 ∧ i = .int .i64 k ∧ Below w.heap.size w wr) (fun i _ => 40 - (intOf i).toNat)
          case atStart => exact ⟨0, Nat.zero_le _, by omega, rfl, hbel⟩
          case round =>
            clear hbel hk hk40
            obtain ⟨k, hk, hk40, rfl, hbel⟩ := hrel
            by_cases hlt : k < sl ∧ k < 40
            · obtain ⟨hlt, hlt40⟩ := hlt
              obtain ⟨b, off, s, rfl, hbw, hcell, hss⟩ := HE.out.2.1 k hlt
              have hbs : b < wr.heap.size := Nat.lt_of_lt_of_le hbw hbel.size
              have hc0 : wr.cell? ⟨b, off + k, none⟩ = some (.string s) := (hbel.cell (p := ⟨b, off + k, none⟩) hbw).trans hcell
              have HC : Hid (wr.cell? ⟨b, off + k, none⟩ = some (.string s)) := hc0
              have z1 : (0 : Int) ≤ (k : Int) := by omega
              have z2 : (k : Int) < (sl : Int) := by omega
              clear hcell
              rcases parse_both s hss with ⟨v, hvl, hp1, hp2⟩ | ⟨hp1, hp2⟩
              · as_aux_lemma =>
                go_wp2_with (first
                  | (go_at_call 7; refine (hp1 _).mono ?_; rintro e w1 ⟨n1, o1, l1, c1, rfl, hi1, hb1⟩; have HA : Hid (IntAt (w1.alloc (.cells #[.bool n1, .slice o1 l1 c1] 30)) n1 o1 l1 c1 v ∧ Below wr.heap.size wr (w1.alloc (.cells #[.bool n1, .slice o1 l1 c1] 30)) ∧ Boxed (w1.alloc (.cells #[.bool n1, .slice o1 l1 c1] 30)) w1.heap.size n1 o1 l1 c1 ∧ w1.heap.size < (w1.alloc (.cells #[.bool n1, .slice o1 l1 c1] 30)).heap.size ∧ l1 ≤ 4611686018427387904) := ⟨hi1.later ((Below.refl _ _).alloc (Nat.le_refl _) _), bnext hb1 ((Below.refl _ _).alloc (Nat.le_refl _) _), ⟨by simp [go_sem], by simp [go_sem]⟩, by simp, by rw [hi1.row.hlen]; exact hvl⟩; clear hi1 hb1 hc0; have hc0 : (w1.alloc (.cells #[.bool n1, .slice o1 l1 c1] 30)).cell? ⟨b, off + k, none⟩ = some (.string s) := (HA.out.2.1.cell (p := ⟨b, off + k, none⟩) hbs).trans HC.out)
                  | (go_at_call 11; refine (hp2 _).mono ?_; rintro e w2 ⟨n2, o2, l2, c2, rfl, hi2, hb2⟩; have HB : Hid (IntAt (w2.alloc (.cells #[.bool n2, .slice o2 l2 c2] 30)) n2 o2 l2 c2 v ∧ IntAt (w2.alloc (.cells #[.bool n2, .slice o2 l2 c2] 30)) n1 o1 l1 c1 v ∧ Below wr.heap.size wr (w2.alloc (.cells #[.bool n2, .slice o2 l2 c2] 30)) ∧ Boxed (w2.alloc (.cells #[.bool n2, .slice o2 l2 c2] 30)) w2.heap.size n2 o2 l2 c2 ∧ Boxed (w2.alloc (.cells #[.bool n2, .slice o2 l2 c2] 30)) w1.heap.size n1 o1 l1 c1) := ⟨hi2.later ((Below.refl _ _).alloc (Nat.le_refl _) _), (HA.out.1.later hb2).later ((Below.refl _ _).alloc (Nat.le_refl _) _), bnext (bnext HA.out.2.1 hb2) ((Below.refl _ _).alloc (Nat.le_refl _) _), ⟨by simp [go_sem], by simp [go_sem]⟩, HA.out.2.2.1.later (bnext hb2 ((Below.refl _ _).alloc (Nat.le_refl _) _)) HA.out.2.2.2.1⟩; clear hi2 hb2 hc0; obtain ⟨t0, t1⟩ := HB.out.2.2.2.1; obtain ⟨t2, t3⟩ := HB.out.2.2.2.2)
                  | (go_at_call 9; refine (num_any 0 _).mono ?_; rintro e w3 ⟨rfl, hw3⟩; replace hw3 := hw3.symm; subst hw3)
                  | (go_at_call 10; refine (eqint_at n1 n2 o1 o2 l1 c1 l2 c2 v v _ HB.out.2.1 HB.out.1 HA.out.2.2.2.2 true (decide_eq_true rfl)).mono ?_; rintro e w4 ⟨rfl, hb4⟩))
                go_roundw
                case rel => exact ⟨k + 1, by omega, by omega, by go_num, bnext hbel (bnext HB.out.2.2.1 hb4)⟩
                case measure => simp [intOf]; omega
              · as_aux_lemma =>
                go_wp2_with (first
                  | (go_at_call 7; refine (hp1 _).mono ?_; rintro e w1 ⟨rfl, hb1⟩; have HA : Hid (Below wr.heap.size wr (w1.alloc (.cells #[.bool false, .slice none 0 0] 30)) ∧ Boxed (w1.alloc (.cells #[.bool false, .slice none 0 0] 30)) w1.heap.size false none 0 0 ∧ w1.heap.size < (w1.alloc (.cells #[.bool false, .slice none 0 0] 30)).heap.size) := ⟨bnext hb1 ((Below.refl _ _).alloc (Nat.le_refl _) _), ⟨by simp [go_sem], by simp [go_sem]⟩, by simp⟩; clear hb1 hc0; have hc0 : (w1.alloc (.cells #[.bool false, .slice none 0 0] 30)).cell? ⟨b, off + k, none⟩ = some (.string s) := (HA.out.1.cell (p := ⟨b, off + k, none⟩) hbs).trans HC.out)
                  | (go_at_call 11; refine (hp2 _).mono ?_; rintro e w2 ⟨rfl, hb2⟩; have HB : Hid (Below wr.heap.size wr (w2.alloc (.cells #[.bool false, .slice none 0 0] 30)) ∧ Boxed (w2.alloc (.cells #[.bool false, .slice none 0 0] 30)) w2.heap.size false none 0 0 ∧ Boxed (w2.alloc (.cells #[.bool false, .slice none 0 0] 30)) w1.heap.size false none 0 0) := ⟨bnext (bnext HA.out.1 hb2) ((Below.refl _ _).alloc (Nat.le_refl _) _), ⟨by simp [go_sem], by simp [go_sem]⟩, HA.out.2.1.later (bnext hb2 ((Below.refl _ _).alloc (Nat.le_refl _) _)) HA.out.2.2⟩; clear hb2 hc0; obtain ⟨t0, t1⟩ := HB.out.2.1; obtain ⟨t2, t3⟩ := HB.out.2.2)
                  | (go_at_call 9; refine (num_any 13 _).mono ?_; rintro e w3 ⟨rfl, hw3⟩; replace hw3 := hw3.symm; subst hw3)
                  | (go_at_call 10; refine (eqnil2_any _).mono ?_; rintro e w4 ⟨rfl, hb4⟩))
                go_roundw
                case rel => exact ⟨k + 1, by omega, by omega, by go_num, bnext hbel (bnext HB.out.1 hb4)⟩
                case measure => simp [intOf]; omega
            · have hend : ¬ k < sl ∨ k = 40 := by omega
              rcases hend with he | he
              · go_wp2_with (go_at_call 12; refine (wakes_any _).mono ?_; rintro e w1 ⟨rfl, hb1⟩)
                go_ret
                exact ⟨rfl, bnext hbel hb1⟩
              · subst he
                by_cases hq : 40 < sl
                · go_wp2_with (go_at_call 12; refine (wakes_any _).mono ?_; rintro e w1 ⟨rfl, hb1⟩)
                  go_ret
                  exact ⟨rfl, bnext hbel hb1⟩
                · go_wp2_with (go_at_call 12; refine (wakes_any _).mono ?_; rintro e w1 ⟨rfl, hb1⟩)
                  go_ret
                  exact ⟨rfl, bnext hbel hb1⟩
end Go.Proofs.YtnodcfeimiimbaaDoor
