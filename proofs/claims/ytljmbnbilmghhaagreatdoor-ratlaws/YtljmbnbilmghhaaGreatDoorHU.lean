/-
  HT, HU.
-/
import Derived.Test.YtljmbnbilmghhaaGreatDoorHH

/- Walks: the page's texts (digits). -/
namespace Go.Proofs.YtljmbnbilmghhaaGreatDoor
open Go.RowKit
set_option linter.unusedVariables false
set_option linter.unusedSimpArgs false

/-- byte k of a text (0 beyond its end) -/
def byteAt (s : ByteArray) (k : Nat) : Nat := if h : k < s.size then s[k].toNat else 0
theorem byteAt_of {s : ByteArray} {k : Nat} (h : k < s.size) : byteAt s k = s[k].toNat := by simp [byteAt, h]
/-- a magnitude's digits, as the page says -/
def Dig (s : ByteArray) : Prop := (∀ j, j < s.size → 48 ≤ byteAt s j ∧ byteAt s j ≤ 57) ∧ 0 < s.size ∧ s.size ≤ 1024 ∧ (byteAt s 0 = 48 → s.size = 1)
/-- the number of its first k digits -/
def decVal (s : ByteArray) : Nat → Nat
  | 0 => 0
  | k + 1 => decVal s k * 10 + (byteAt s k - 48)
theorem decVal_lt {s : ByteArray} (h : Dig s) : (k : Nat) → k ≤ s.size → decVal s k < 10 ^ k
  | 0, _ => by simp [decVal]
  | k + 1, hk => by
    have ih := decVal_lt h k (by omega)
    have h1 := h.1 k (by omega)
    rw [decVal, Nat.pow_succ]; omega
theorem decVal_len {s : ByteArray} (h : Dig s) {k : Nat} (hk : k ≤ s.size) : (mag (decVal s k)).length ≤ k := by
  have h1 := decVal_lt h k hk
  have h2 : 10 ^ k ≤ 2 ^ (64 * k) := by rw [Nat.pow_mul]; exact Nat.pow_le_pow_left (by decide) _
  exact two_len (Nat.lt_of_lt_of_le h1 h2) (Nat.le_refl _)
def DigOut (s : ByteArray) (w w' : World) (e : Ending) : Prop := w' = w ∧ ((e = .returned (.bool true) ∧ Dig s) ∨ (e = .returned (.bool false) ∧ ¬ Dig s))

set_option maxRecDepth 100000 in
set_option maxHeartbeats 400000 in
theorem digits_any (s : ByteArray) (w : World) (hs : s.size ≤ 9223372036854775807) :
    Calls Tryz.prog 140 #[.string s] w fun e w' => DigOut s w w' e := by
  go_enter Tryz.func140, Tryz.ntmps140
  go_wp2
  go_loopw [3] (fun i wr => ∃ k : Nat, k ≤ s.size ∧ i = .int .i64 k ∧ wr = w ∧ Hid (∀ j, j < k → 48 ≤ byteAt s j ∧ byteAt s j ≤ 57)) (fun i _ => s.size - (intOf i).toNat)
  case atStart => exact ⟨0, Nat.zero_le _, rfl, rfl, fun j h => by omega⟩
  case round =>
    obtain ⟨k, hk, rfl, rfl, hall⟩ := hrel
    by_cases hlt : k < s.size
    · have hb := byteAt_of hlt
      obtain ⟨x, hx⟩ : ∃ x, s[k].toNat = x := ⟨_, rfl⟩
      have HB : Hid (byteAt s k = x) := hb.trans hx
      clear hb
      by_cases c1 : x < 48
      · have c1' : (s[k].toNat : Int) < 48 := by omega
        clear hx
        go_wp2
        go_ret
        exact ⟨rfl, Or.inr ⟨rfl, fun h => by have := (h.1 k hlt).1; have := HB.out; omega⟩⟩
      · by_cases c2 : 57 < x
        · have c1' : ¬ (s[k].toNat : Int) < 48 := by omega
          have c2' : (57 : Int) < s[k].toNat := by omega
          clear hx
          go_wp2
          go_ret
          exact ⟨rfl, Or.inr ⟨rfl, fun h => by have := (h.1 k hlt).2; have := HB.out; omega⟩⟩
        · have c1' : ¬ (s[k].toNat : Int) < 48 := by omega
          have c2' : ¬ (57 : Int) < s[k].toNat := by omega
          clear hx
          go_wp2
          go_roundw
          case rel => exact ⟨k + 1, by omega, by go_num, trivial, fun j hj => by
            by_cases e : j = k
            · subst e; have := HB.out; omega
            · exact hall.out j (by omega)⟩
          case measure => simp [intOf]; omega
    · obtain rfl : k = s.size := by omega
      by_cases c0 : 0 < s.size
      · have hb := byteAt_of c0
        obtain ⟨x, hx⟩ : ∃ x, s[0].toNat = x := ⟨_, rfl⟩
        have HB : Hid (byteAt s 0 = x) := hb.trans hx
        clear hb
        by_cases c1 : s.size ≤ 1024
        · have c1' : (s.size : Int) ≤ 1024 := by omega
          by_cases c2 : x = 48
          · have c2' : (s[0].toNat : Int) = 48 := by omega
            clear hx
            by_cases c3 : s.size = 1
            · have c3' : ((s.size : Int) == 1) = true := by simp; omega
              go_wp2
              go_ret
              exact ⟨rfl, Or.inl ⟨rfl, hall.out, c0, c1, fun _ => c3⟩⟩
            · have c3' : ((s.size : Int) == 1) = false := by simp; omega
              go_wp2
              go_ret
              exact ⟨rfl, Or.inr ⟨rfl, fun h => c3 (h.2.2.2 (HB.out.trans c2))⟩⟩
          · have c2' : ¬ (s[0].toNat : Int) = 48 := by omega
            clear hx
            go_wp2
            go_ret
            exact ⟨rfl, Or.inl ⟨rfl, hall.out, c0, c1, fun h => absurd (HB.out.symm.trans h) c2⟩⟩
        · have c1' : ¬ (s.size : Int) ≤ 1024 := by omega
          clear hx
          go_wp2
          go_ret
          exact ⟨rfl, Or.inr ⟨rfl, fun h => c1 h.2.2.1⟩⟩
      · have c0' : ¬ (0 : Int) < (s.size : Int) := by omega
        go_wp2
        go_ret
        exact ⟨rfl, Or.inr ⟨rfl, fun h => c0 h.2.1⟩⟩

/-- what reading digits tells -/
def ParseOut (s : ByteArray) (w w' : World) (e : Ending) : Prop := Below w.heap.size w w' ∧ ((∃ ao l c, e = .returned (.tuple #[.slice ao l c, .bool true]) ∧ Dig s ∧ RowAt w' .u64 ao l c (mag (decVal s s.size))) ∨ (e = .returned (.tuple #[.slice none 0 0, .bool false]) ∧ ¬ Dig s))

set_option maxRecDepth 100000 in
set_option maxHeartbeats 1000000 in
theorem nparse_any (s : ByteArray) (w : World) (hs : s.size ≤ 9223372036854775807) :
    Calls Tryz.prog 106 #[.string s] w fun e w' => ParseOut s w w' e := by
  by_cases hd : Dig s
  · have hcon : Calls Tryz.prog 140 #[.string s] w fun e w' => w' = w ∧ e = .returned (.bool true) := (digits_any s w hs).mono fun e w' h => ⟨h.1, by rcases h.2 with h | h; exact h.1; exact absurd hd h.2⟩
    have HD : Hid (Dig s) := hd
    have h1024 : s.size ≤ 1024 := hd.2.2.1
    have HM : Hid (mag 0 = []) := mag_of (Wd.nil _) Can.nil rfl
    clear hd
    go_enter Tryz.func106, Tryz.ntmps106
    go_wp2_with (go_at_call 140; refine hcon.mono ?_; rintro e w1 ⟨hw1, rfl⟩; replace hw1 := hw1.symm; subst hw1)
    go_loopw [4, 5] (fun a i wr => ∃ (k : Nat) (ao : Option Addr) (l c : Nat), k ≤ s.size ∧ i = .int .i64 k ∧ a = .slice ao l c ∧ RowAt wr .u64 ao l c (mag (decVal s k)) ∧ Below w.heap.size w wr) (fun _ i _ => s.size - (intOf i).toNat)
    case atStart => exact ⟨0, none, 0, 0, Nat.zero_le _, rfl, rfl, by rw [decVal, HM.out]; exact RowAt.nilRow _ _, Below.refl _ _⟩
    case round =>
      obtain ⟨k, ao, l, c, hk, rfl, rfl, hrow, hbel⟩ := hrel
      have HR : Hid (RowAt wr .u64 ao l c (mag (decVal s k)) ∧ Below w.heap.size w wr) := ⟨hrow, hbel⟩
      have hl : l ≤ 1024 := by rw [hrow.hlen]; exact Nat.le_trans (decVal_len HD.out hk) (by omega)
      clear hrow hbel
      by_cases hlt : k < s.size
      · have HB : Hid (48 ≤ byteAt s k ∧ byteAt s k ≤ 57 ∧ byteAt s k = s[k].toNat) := ⟨(HD.out.1 k hlt).1, (HD.out.1 k hlt).2, byteAt_of hlt⟩
        have HW : Hid (IntKind.u64.wrap (IntKind.u8.wrap ((s[k].toNat : Int) - 48)) = ((byteAt s k - 48 : Nat) : Int)) := by
          have h := HB.out
          have e1 : IntKind.u8.wrap ((s[k].toNat : Int) - 48) = (s[k].toNat : Int) - 48 := by rw [IntKind.wrap_u8]; omega
          show _ = _
          rw [e1, IntKind.wrap_u64]; omega
        have hx1 : (48 : Int) ≤ s[k].toNat := by have := HB.out; omega
        have hx2 : (s[k].toNat : Int) ≤ 57 := by have := HB.out; omega
        go_wp2
        go_region_held3 (fun w' => Below wr.heap.size wr w')
          (first
            | exact (Below.refl _ _).drew
            | assumption
            | exact bnext (by assumption) (by assumption))
          (first
            | (go_at_call 107; refine (nplus_any o2 o3 l2 c2 l3 c3 (decVal s k * 10) (byteAt s k - 48) _ (hr2.row.later hb3) hr3.row (by omega) (by omega)).mono ?_; rintro e y4 ⟨o4, l4, c4, rfl, hr4, hb4⟩; have hB4 : Below wr.heap.size wr y4 := bnext hB3 hb4)
            | (go_at_call 88; have _t := hr2; refine (nof_at (byteAt s k - 48) _ _ HW.out (by have := HB.out; omega)).mono ?_; rintro e y3 ⟨o3, l3, c3, rfl, hr3, hb3⟩; have hB3 : Below wr.heap.size wr y3 := bnext hB2 hb3; have hl3 : l3 ≤ 1 := (by rw [hr3.row.hlen]; exact mag_len_one (by have := HB.out; omega)))
            | (go_at_call 66; refine (ntimes_any ao o1 l c l1 c1 (decVal s k) 10 _ (HR.out.1.later hB1) hr1.row (by omega) (by omega)).mono ?_; rintro e y2 ⟨o2, l2, c2, rfl, hr2, hb2⟩; have hB2 : Below wr.heap.size wr y2 := bnext hB1 hb2; have hl2 : l2 ≤ 2000 := (by rw [hr2.row.hlen]; have q1 := mag_len_mul (decVal s k) 10; rw [← HR.out.1.hlen, ← hr1.row.hlen] at q1; omega))
            | (go_at_call 88; refine (nof_at 10 10 _ rfl (by decide)).mono ?_; rintro e y1 ⟨o1, l1, c1, rfl, hr1, hb1⟩; have hB1 : Below wr.heap.size wr y1 := bnext (Below.refl _ _).drew hb1; have hl1 : l1 ≤ 1 := (by rw [hr1.row.hlen]; exact mag_len_one (by decide))))
        all_goals
          go_wp2
          go_roundw
          case rel => exact ⟨k + 1, _, _, _, by omega, by go_num, rfl, hr4.row, HR.out.2.trans (hB4.mono HR.out.2.size)⟩
          case measure => simp [intOf]; omega
      · obtain rfl : k = s.size := by omega
        go_wp2
        go_ret2
        exact ⟨HR.out.2, Or.inl ⟨_, _, _, rfl, HD.out, HR.out.1⟩⟩
  · have hcon : Calls Tryz.prog 140 #[.string s] w fun e w' => w' = w ∧ e = .returned (.bool false) := (digits_any s w hs).mono fun e w' h => ⟨h.1, by rcases h.2 with h | h; exact absurd h.2 hd; exact h.1⟩
    have HD : Hid (¬ Dig s) := hd
    clear hd
    go_enter Tryz.func106, Tryz.ntmps106
    go_wp2_with (go_at_call 140; refine hcon.mono ?_; rintro e w1 ⟨hw1, rfl⟩; replace hw1 := hw1.symm; subst hw1)
    go_ret2
    exact ⟨Below.refl _ _, Or.inr ⟨rfl, HD.out⟩⟩
end Go.Proofs.YtljmbnbilmghhaaGreatDoor

/- Walks: the page's Parse. -/
namespace Go.Proofs.YtljmbnbilmghhaaGreatDoor
open Go.RowKit
set_option linter.unusedVariables false
set_option linter.unusedSimpArgs false

/-- a sign stands ahead -/
def Signed (s : ByteArray) : Prop := 0 < s.size ∧ byteAt s 0 = 45
/-- what the page's Parse tells: of digits d behind a sign or none -/
def RParse (neg : Bool) (d : ByteArray) (w w' : World) (e : Ending) : Prop :=
  Below w.heap.size w w' ∧ ((∃ n ao l c, e = .returned (.tuple #[.agg #[.bool n, .slice ao l c], .int .i64 0]) ∧ Dig d ∧ (neg = true → decVal d d.size ≠ 0) ∧ IntAt w' n ao l c (sgn neg (decVal d d.size))) ∨ (e = .returned (.tuple #[.agg #[.bool false, .slice none 0 0], .int .i64 13]) ∧ ¬ (Dig d ∧ (neg = true → decVal d d.size ≠ 0))))
theorem nparse_yes (s : ByteArray) (w : World) (hs : s.size ≤ 9223372036854775807) (hd : Dig s) :
    Calls Tryz.prog 106 #[.string s] w fun e w' => ∃ ao l c, e = .returned (.tuple #[.slice ao l c, .bool true]) ∧ RowAt w' .u64 ao l c (mag (decVal s s.size)) ∧ Below w.heap.size w w' :=
  (nparse_any s w hs).mono fun e w' h => by
    rcases h.2 with ⟨ao, l, c, h1, _, h3⟩ | h
    · exact ⟨ao, l, c, h1, h3, h.1⟩
    · exact absurd hd h.2
theorem nparse_no (s : ByteArray) (w : World) (hs : s.size ≤ 9223372036854775807) (hd : ¬ Dig s) :
    Calls Tryz.prog 106 #[.string s] w fun e w' => e = .returned (.tuple #[.slice none 0 0, .bool false]) ∧ Below w.heap.size w w' :=
  (nparse_any s w hs).mono fun e w' h => by
    rcases h.2 with ⟨ao, l, c, h1, h2, h3⟩ | h'
    · exact absurd h2 hd
    · exact ⟨h'.1, h.1⟩

set_option maxRecDepth 100000 in
set_option maxHeartbeats 400000 in
theorem rparse_neg (s : ByteArray) (w : World) (hs : s.size ≤ 9223372036854775807) (hsg : Signed s) :
    Calls Tryz.prog 105 #[.string s] w fun e w' => RParse true (s.extract 1 s.size) w w' e := by
  obtain ⟨h0, h45⟩ := hsg
  have hb : (s[0].toNat : Int) = 45 := by rw [byteAt_of h0] at h45; omega
  have h1 : (1 : Int) ≤ (s.size : Int) := by omega
  clear h45
  have HSD : Hid ((s.extract 1 s.size).size ≤ 9223372036854775807) := by show _ ≤ _; rw [ByteArray.size_extract]; omega
  obtain ⟨W, hW⟩ : ∃ W, W = w.alloc (.cells #[.bool false, .slice none 0 0] 26) := ⟨_, rfl⟩
  have HF : Hid (Fresh W w.heap.size ∧ W.heap.size = w.heap.size + 1 ∧ Below w.heap.size w W) := by
    rw [hW]; exact ⟨Fresh.new w, by simp, (Below.refl _ _).alloc (Nat.le_refl _) _⟩
  by_cases hd : Dig (s.extract 1 s.size)
  · have HD : Hid (Dig (s.extract 1 s.size)) := hd
    clear hd
    by_cases hz : decVal (s.extract 1 s.size) (s.extract 1 s.size).size = 0
    · have HZ : Hid (decVal (s.extract 1 s.size) (s.extract 1 s.size).size = 0) := hz
      clear hz
      go_enter Tryz.func105, Tryz.ntmps105
      go_wp2_with (go_at_call 106; rw [← hW]; clear hW; refine (nparse_yes (s.extract 1 s.size) W HSD.out HD.out).mono ?_; rintro e w1 ⟨ao, l, c, rfl, hr, hb1⟩; obtain rfl : l = 0 := (by rw [hr.hlen, HZ.out]; rfl); obtain ⟨g5, g3, g4⟩ := HF.out.1.later hb1 (by rw [HF.out.2.1]; omega))
      exact bodyPost_ret (v := .tuple #[.agg #[.bool false, .slice none 0 0], .int .i64 13]) (by simp [results, Tryz.results105, go_sem, g3, g4]) rfl
        ⟨below_store (bnext HF.out.2.2 hb1) (Nat.le_refl _) _ _, Or.inr ⟨rfl, fun h => h.2 rfl HZ.out⟩⟩
    · have HP : Hid (0 < decVal (s.extract 1 s.size) (s.extract 1 s.size).size) := Nat.pos_of_ne_zero hz
      clear hz
      go_enter Tryz.func105, Tryz.ntmps105
      go_wp2_with (first
        | (go_at_call 106; rw [← hW]; clear hW; refine (nparse_yes (s.extract 1 s.size) W HSD.out HD.out).mono ?_; rintro e w1 ⟨ao, l, c, rfl, hr, hb1⟩; have hl0 : ((l : Int) == 0) = false := (by have q : 0 < l := (by rw [hr.hlen]; exact mag_len_pos.2 HP.out); simp; omega); have hl1 : l ≤ 4611686018427387904 := (by rw [hr.hlen]; have q1 := decVal_len HD.out (Nat.le_refl _); have q2 := HD.out.2.2.1; omega))
        | (go_at_call 98; refine (made_any true ao l c _ hl1).mono ?_; rintro e w2 ⟨rfl, hb2⟩; obtain ⟨g5, g3, g4⟩ := HF.out.1.later (bnext hb1 hb2) (by rw [HF.out.2.1]; omega)))
      exact bodyPost_ret (v := .tuple #[.agg #[.bool (true && decide (0 < l)), .slice ao l c], .int .i64 0]) (by simp [results, Tryz.results105, go_sem, g3, g4]) rfl
        ⟨below_store (bnext HF.out.2.2 (bnext hb1 hb2)) (Nat.le_refl _) _ _, Or.inl ⟨_, _, _, _, rfl, HD.out, fun _ => Nat.pos_iff_ne_zero.1 HP.out, by rw [sgB_sgn, hr.hlen], by rw [natAbs_sgn]; exact (hr.later hb2).kept ⟨g5, g3, g4⟩ _ _⟩⟩
  · have HD : Hid (¬ Dig (s.extract 1 s.size)) := hd
    clear hd
    go_enter Tryz.func105, Tryz.ntmps105
    go_wp2_with (go_at_call 106; rw [← hW]; clear hW; refine (nparse_no (s.extract 1 s.size) W HSD.out HD.out).mono ?_; rintro e w1 ⟨rfl, hb1⟩; obtain ⟨g5, g3, g4⟩ := HF.out.1.later hb1 (by rw [HF.out.2.1]; omega))
    exact bodyPost_ret (v := .tuple #[.agg #[.bool false, .slice none 0 0], .int .i64 13]) (by simp [results, Tryz.results105, go_sem, g3, g4]) rfl
      ⟨below_store (bnext HF.out.2.2 hb1) (Nat.le_refl _) _ _, Or.inr ⟨rfl, fun h => HD.out h.1⟩⟩

set_option maxRecDepth 100000 in
set_option maxHeartbeats 400000 in
theorem rparse_pos (s : ByteArray) (w : World) (hs : s.size ≤ 9223372036854775807) (h0 : 0 < s.size) (h45 : byteAt s 0 ≠ 45) :
    Calls Tryz.prog 105 #[.string s] w fun e w' => RParse false s w w' e := by
  have hb : ¬ (s[0].toNat : Int) = 45 := by rw [byteAt_of h0] at h45; omega
  have hb' : ((s[0].toNat : Int) == 45) = false := by simpa using hb
  clear h45 hb
  have HSD : Hid (s.size ≤ 9223372036854775807) := hs
  obtain ⟨W, hW⟩ : ∃ W, W = w.alloc (.cells #[.bool false, .slice none 0 0] 26) := ⟨_, rfl⟩
  have HF : Hid (Fresh W w.heap.size ∧ W.heap.size = w.heap.size + 1 ∧ Below w.heap.size w W) := by
    rw [hW]; exact ⟨Fresh.new w, by simp, (Below.refl _ _).alloc (Nat.le_refl _) _⟩
  by_cases hd : Dig s
  · have HD : Hid (Dig s) := hd
    clear hd
    go_enter Tryz.func105, Tryz.ntmps105
    go_wp2_with (first
      | (go_at_call 106; rw [← hW]; clear hW; refine (nparse_yes s W HSD.out HD.out).mono ?_; rintro e w1 ⟨ao, l, c, rfl, hr, hb1⟩; have hl1 : l ≤ 4611686018427387904 := (by rw [hr.hlen]; have q1 := decVal_len HD.out (Nat.le_refl _); have q2 := HD.out.2.2.1; omega))
      | (go_at_call 98; refine (made_any false ao l c _ hl1).mono ?_; rintro e w2 ⟨rfl, hb2⟩; obtain ⟨g5, g3, g4⟩ := HF.out.1.later (bnext hb1 hb2) (by rw [HF.out.2.1]; omega)))
    exact bodyPost_ret (v := .tuple #[.agg #[.bool (false && decide (0 < l)), .slice ao l c], .int .i64 0]) (by simp [results, Tryz.results105, go_sem, g3, g4]) rfl
      ⟨below_store (bnext HF.out.2.2 (bnext hb1 hb2)) (Nat.le_refl _) _ _, Or.inl ⟨_, _, _, _, rfl, HD.out, (fun h => by cases h), by rw [sgB_sgn, hr.hlen], by rw [natAbs_sgn]; exact (hr.later hb2).kept ⟨g5, g3, g4⟩ _ _⟩⟩
  · have HD : Hid (¬ Dig s) := hd
    clear hd
    go_enter Tryz.func105, Tryz.ntmps105
    go_wp2_with (go_at_call 106; rw [← hW]; clear hW; refine (nparse_no s W HSD.out HD.out).mono ?_; rintro e w1 ⟨rfl, hb1⟩; obtain ⟨g5, g3, g4⟩ := HF.out.1.later hb1 (by rw [HF.out.2.1]; omega))
    exact bodyPost_ret (v := .tuple #[.agg #[.bool false, .slice none 0 0], .int .i64 13]) (by simp [results, Tryz.results105, go_sem, g3, g4]) rfl
      ⟨below_store (bnext HF.out.2.2 hb1) (Nat.le_refl _) _ _, Or.inr ⟨rfl, fun h => HD.out h.1⟩⟩

set_option maxRecDepth 100000 in
set_option maxHeartbeats 400000 in
theorem rparse_nil (s : ByteArray) (w : World) (hs : s.size ≤ 9223372036854775807) (h0 : s.size = 0) :
    Calls Tryz.prog 105 #[.string s] w fun e w' => RParse false s w w' e := by
  have h0' : ¬ (0 : Int) < (s.size : Int) := by omega
  clear h0
  have HSD : Hid (s.size ≤ 9223372036854775807) := hs
  obtain ⟨W, hW⟩ : ∃ W, W = w.alloc (.cells #[.bool false, .slice none 0 0] 26) := ⟨_, rfl⟩
  have HF : Hid (Fresh W w.heap.size ∧ W.heap.size = w.heap.size + 1 ∧ Below w.heap.size w W) := by
    rw [hW]; exact ⟨Fresh.new w, by simp, (Below.refl _ _).alloc (Nat.le_refl _) _⟩
  by_cases hd : Dig s
  · have HD : Hid (Dig s) := hd
    clear hd
    go_enter Tryz.func105, Tryz.ntmps105
    go_wp2_with (first
      | (go_at_call 106; rw [← hW]; clear hW; refine (nparse_yes s W HSD.out HD.out).mono ?_; rintro e w1 ⟨ao, l, c, rfl, hr, hb1⟩; have hl1 : l ≤ 4611686018427387904 := (by rw [hr.hlen]; have q1 := decVal_len HD.out (Nat.le_refl _); have q2 := HD.out.2.2.1; omega))
      | (go_at_call 98; refine (made_any false ao l c _ hl1).mono ?_; rintro e w2 ⟨rfl, hb2⟩; obtain ⟨g5, g3, g4⟩ := HF.out.1.later (bnext hb1 hb2) (by rw [HF.out.2.1]; omega)))
    exact bodyPost_ret (v := .tuple #[.agg #[.bool (false && decide (0 < l)), .slice ao l c], .int .i64 0]) (by simp [results, Tryz.results105, go_sem, g3, g4]) rfl
      ⟨below_store (bnext HF.out.2.2 (bnext hb1 hb2)) (Nat.le_refl _) _ _, Or.inl ⟨_, _, _, _, rfl, HD.out, (fun h => by cases h), by rw [sgB_sgn, hr.hlen], by rw [natAbs_sgn]; exact (hr.later hb2).kept ⟨g5, g3, g4⟩ _ _⟩⟩
  · have HD : Hid (¬ Dig s) := hd
    clear hd
    go_enter Tryz.func105, Tryz.ntmps105
    go_wp2_with (go_at_call 106; rw [← hW]; clear hW; refine (nparse_no s W HSD.out HD.out).mono ?_; rintro e w1 ⟨rfl, hb1⟩; obtain ⟨g5, g3, g4⟩ := HF.out.1.later hb1 (by rw [HF.out.2.1]; omega))
    exact bodyPost_ret (v := .tuple #[.agg #[.bool false, .slice none 0 0], .int .i64 13]) (by simp [results, Tryz.results105, go_sem, g3, g4]) rfl
      ⟨below_store (bnext HF.out.2.2 hb1) (Nat.le_refl _) _ _, Or.inr ⟨rfl, fun h => HD.out h.1⟩⟩
end Go.Proofs.YtljmbnbilmghhaaGreatDoor
