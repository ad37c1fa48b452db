/-
  Texts that both read alike: numbers ahead of a bar, and behind it.
-/
import Derived.Test.YtljmbnbilmghhaaGreatDoorRK
namespace Go.Proofs.YtljmbnbilmghhaaGreatDoor
open Go.RowKit
set_option linter.unusedVariables false
set_option linter.unusedSimpArgs false

/-- the page reads x as v -/
def PageReads (x : ByteArray) (v : Int) : Prop := ∀ X : World, Calls Tryz.prog 105 #[.string x] X fun e w' => ∃ n ao l c, e = .returned (.tuple #[.agg #[.bool n, .slice ao l c], .int .i64 0]) ∧ IntAt w' n ao l c v ∧ Below X.heap.size X w'
def BigRefuses (x : ByteArray) : Prop := ∀ X : World, Calls Tryz.prog 139 #[.string x] X fun e w' => e = .returned (.tuple #[.agg #[.bool false, .slice none 0 0], .int .i64 13]) ∧ Below X.heap.size X w'
def PageRefuses (x : ByteArray) : Prop := ∀ X : World, Calls Tryz.prog 105 #[.string x] X fun e w' => e = .returned (.tuple #[.agg #[.bool false, .slice none 0 0], .int .i64 13]) ∧ Below X.heap.size X w'
def PageDigits (x : ByteArray) (d : Nat) : Prop := ∀ X : World, Calls Tryz.prog 106 #[.string x] X fun e w' => ∃ ao l c, e = .returned (.tuple #[.slice ao l c, .bool true]) ∧ RowAt w' .u64 ao l c (mag d) ∧ Below X.heap.size X w'
def PageNoDigits (x : ByteArray) : Prop := ∀ X : World, Calls Tryz.prog 106 #[.string x] X fun e w' => e = .returned (.tuple #[.slice none 0 0, .bool false]) ∧ Below X.heap.size X w'
theorem dig_short {d : ByteArray} (h : Dig d) : (mag (decVal d d.size)).length ≤ 1024 := Nat.le_trans (decVal_len h (Nat.le_refl _)) h.2.2.1
theorem read_first (s : ByteArray) (hs : s.size ≤ 9223372036854775807) : (∃ v : Int, (mag v.natAbs).length ≤ 1024 ∧ ReadsAs s v ∧ PageReads s v) ∨ (BigRefuses s ∧ PageRefuses s) := by
  have key : ∀ (neg : Bool) (d : ByteArray), (∀ W, Calls Tryz.prog 139 #[.string s] W fun e w' => RParse neg d W w' e) → (∀ W, Calls Tryz.prog 105 #[.string s] W fun e w' => RParse neg d W w' e) → (∃ v : Int, (mag v.natAbs).length ≤ 1024 ∧ ReadsAs s v ∧ PageReads s v) ∨ (BigRefuses s ∧ PageRefuses s) := fun neg d h1 h2 => by
    by_cases hd : Dig d ∧ (neg = true → decVal d d.size ≠ 0)
    · refine Or.inl ⟨sgn neg (decVal d d.size), by rw [natAbs_sgn]; exact dig_short hd.1, fun W => (h1 W).mono fun e w' h => ?_, fun W => (h2 W).mono fun e w' h => ?_⟩
      · rcases h.2 with ⟨n, ao, l, c, he, _, _, hi⟩ | ⟨_, hno⟩
        · exact ⟨n, ao, l, c, he, hi, h.1⟩
        · exact absurd hd hno
      · rcases h.2 with ⟨n, ao, l, c, he, _, _, hi⟩ | ⟨_, hno⟩
        · exact ⟨n, ao, l, c, he, hi, h.1⟩
        · exact absurd hd hno
    · refine Or.inr ⟨fun W => (h1 W).mono fun e w' h => ?_, fun W => (h2 W).mono fun e w' h => ?_⟩
      · rcases h.2 with ⟨n, ao, l, c, he, hy, hz, hi⟩ | ⟨he, _⟩
        · exact absurd ⟨hy, hz⟩ hd
        · exact ⟨he, h.1⟩
      · rcases h.2 with ⟨n, ao, l, c, he, hy, hz, hi⟩ | ⟨he, _⟩
        · exact absurd ⟨hy, hz⟩ hd
        · exact ⟨he, h.1⟩
  by_cases hsg : Signed s
  · exact key true _ (fun W => bparse_neg s W hs hsg) (fun W => rparse_neg s W hs hsg)
  · by_cases h0 : 0 < s.size
    · exact key false s (fun W => bparse_plain s W hs hsg) (fun W => rparse_pos s W hs h0 (fun e => hsg ⟨h0, e⟩))
    · exact key false s (fun W => bparse_plain s W hs hsg) (fun W => rparse_nil s W hs (by omega))
theorem read_second (s : ByteArray) (hs : s.size ≤ 9223372036854775807) : (∃ d : Nat, (mag d).length ≤ 1024 ∧ ReadsAs s (d : Int) ∧ PageDigits s d) ∨ (PageNoDigits s ∧ ((∃ v : Int, v < 0 ∧ (mag v.natAbs).length ≤ 1024 ∧ ReadsAs s v) ∨ BigRefuses s)) := by
  by_cases hd : Dig s
  · have hns : ¬ Signed s := fun h => by have := (hd.1 0 h.1).1; have := h.2; omega
    refine Or.inl ⟨decVal s s.size, dig_short hd, fun W => (bparse_plain s W hs hns).mono fun e w' h => ?_, fun W => nparse_yes s W hs hd⟩
    rcases h.2 with ⟨n, ao, l, c, he, _, _, hi⟩ | ⟨_, hno⟩
    · exact ⟨n, ao, l, c, he, hi, h.1⟩
    · exact absurd ⟨hd, fun h => by cases h⟩ hno
  · refine Or.inr ⟨fun W => nparse_no s W hs hd, ?_⟩
    by_cases hsg : Signed s
    · by_cases hd2 : Dig (s.extract 1 s.size) ∧ (true = true → decVal (s.extract 1 s.size) (s.extract 1 s.size).size ≠ 0)
      · refine Or.inl ⟨sgn true (decVal (s.extract 1 s.size) (s.extract 1 s.size).size), ?_, by rw [natAbs_sgn]; exact dig_short hd2.1, fun W => (bparse_neg s W hs hsg).mono fun e w' h => ?_⟩
        · have := hd2.2 rfl
          simp only [sgn, if_true]; omega
        · rcases h.2 with ⟨n, ao, l, c, he, _, _, hi⟩ | ⟨_, hno⟩
          · exact ⟨n, ao, l, c, he, hi, h.1⟩
          · exact absurd hd2 hno
      · refine Or.inr fun W => (bparse_neg s W hs hsg).mono fun e w' h => ?_
        rcases h.2 with ⟨n, ao, l, c, he, hy, hz, hi⟩ | ⟨he, _⟩
        · exact absurd ⟨hy, hz⟩ hd2
        · exact ⟨he, h.1⟩
    · refine Or.inr fun W => (bparse_plain s W hs hsg).mono fun e w' h => ?_
      rcases h.2 with ⟨n, ao, l, c, he, hy, hz, hi⟩ | ⟨he, _⟩
      · exact absurd hy hd
      · exact ⟨he, h.1⟩
/-- a text with a bar, or without -/
theorem bar_or (s : ByteArray) : (47 : UInt8) ∉ s.data.toList ∨ ∃ X Y, s.data.toList = X ++ 47 :: Y ∧ (47 : UInt8) ∉ X := by
  generalize s.data.toList = l
  induction l with
  | nil => exact Or.inl (by simp)
  | cons b r ih =>
    by_cases e : b = 47
    · subst e; exact Or.inr ⟨[], r, rfl, by simp⟩
    · rcases ih with h | ⟨X, Y, h1, h2⟩
      · refine Or.inl fun h3 => ?_
        rcases List.mem_cons.1 h3 with h4 | h4
        · exact e h4.symm
        · exact h h4
      · refine Or.inr ⟨b :: X, Y, by rw [h1]; rfl, fun h3 => ?_⟩
        rcases List.mem_cons.1 h3 with h4 | h4
        · exact e h4.symm
        · exact h2 h4
/-- a sign, words, words, and what else is told -/
def RawOut (w w' : World) (e : Ending) (ok : Value) (neg : Bool) (zs ds : List Int) : Prop := ∃ ao l c bo lb cb, e = .returned (.tuple #[.agg #[.bool neg, .slice ao l c, .slice bo lb cb], ok]) ∧ RowAt w' .u64 ao l c zs ∧ RowAt w' .u64 bo lb cb ds ∧ Below w.heap.size w w'
theorem SomeRat.raw {w w' : World} {e : Ending} {ok : Value} {a : Rat} (h : SomeRat w w' e ok a) : RawOut w w' e ok (sgB a.num) (mag a.num.natAbs) (mag a.den) := by
  obtain ⟨neg, ao, l, c, bo, lb, cb, he, hr, hb⟩ := h
  exact ⟨ao, l, c, bo, lb, cb, by rw [he, hr.num.sg], hr.num.row, hr.den, hb⟩
set_option maxRecDepth 100000 in
set_option maxHeartbeats 1000000 in
theorem eqraw_same (neg : Bool) (ao po bo qo : Option Addr) (la ca lp cp lb cb lq cq : Nat) (zs ds : List Int) (w : World) (hx : RowAt w .u64 ao la ca zs) (hx2 : RowAt w .u64 po lp cp ds) (hy : RowAt w .u64 bo lb cb zs) (hy2 : RowAt w .u64 qo lq cq ds) (hl : la ≤ 1073741824) (hl' : lp ≤ 1073741824) :
    Calls Tryz.prog 22 #[.agg #[.bool neg, .slice ao la ca, .slice po lp cp], .agg #[.bool neg, .slice bo lb cb, .slice qo lq cq]] w fun e w' => e = .returned (.bool true) ∧ Below w.heap.size w w' := by
  obtain ⟨W, hW⟩ := RTwo2.mk' w neg neg ao po bo qo la ca lp cp lb cb lq cq
  have hsz := hW.size
  have hcon1 : Calls Tryz.prog 28 #[.agg #[.bool neg, .slice ao la ca], .agg #[.bool neg, .slice bo lb cb]] W fun e w' => e = .returned (.bool true) ∧ Below W.heap.size W w' := (eqint_any neg neg ao bo la ca lb cb zs zs W (hx.later hW.below) (hy.later hW.below) (by omega)).mono fun e w' h => by simpa using h
  have hcon : ∀ X, Below W.heap.size W X → Calls Tryz.prog 74 #[.slice po lp cp, .slice qo lq cq] X fun e w' => e = .returned (.bool true) ∧ Below X.heap.size X w' := fun X h => (eqwords_any po qo lp cp lq cq ds ds X ((hx2.later hW.below).later h) ((hy2.later hW.below).later h) (by omega)).mono fun e w' k => by rw [decide_eq_true rfl] at k; exact k
  clear hx hy hx2 hy2
  go_enter Tryz.func22, Tryz.ntmps22
  go_wp2_with (first
    | (go_at_call 28; rw [← hW.eq]; refine hcon1.mono ?_; rintro e w1 ⟨rfl, hb1⟩; obtain ⟨p0, p1, p2⟩ := hW.a.later hb1 (by omega); obtain ⟨q0, q1, q2⟩ := hW.b.later hb1 (by omega))
    | (go_at_call 74; refine (hcon _ hb1).mono ?_; rintro e w2 ⟨rfl, hb2⟩))
  go_ret
  exact ⟨rfl, bnext hW.below (bnext hb1 hb2)⟩
end Go.Proofs.YtljmbnbilmghhaaGreatDoor
