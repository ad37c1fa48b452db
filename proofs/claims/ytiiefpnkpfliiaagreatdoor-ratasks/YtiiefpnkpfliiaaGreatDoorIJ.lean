/-
  Texts that both read alike: numbers ahead of a bar, and behind it.
-/
import Derived.Test.YtiiefpnkpfliiaaGreatDoorRK
namespace Go.Proofs.YtiiefpnkpfliiaaGreatDoor
open Go.RowKit
set_option linter.unusedVariables false
set_option linter.unusedSimpArgs false

def BigRefuses (x : ByteArray) : Prop := ∀ X : World, Calls Tryz.prog 138 #[.string x] X fun e w' => e = .returned (.tuple #[.agg #[.bool false, .slice none 0 0], .int .i64 13]) ∧ Below X.heap.size X w'
theorem dig_short {d : ByteArray} (h : Dig d) : (mag (decVal d d.size)).length ≤ 1024 := Nat.le_trans (decVal_len h (Nat.le_refl _)) h.2.2.1
/-- a text with a bar, or without -/
theorem bar_or (s : ByteArray) : (47 : UInt8) ∉ s.data.toList ∨ ∃ X Y, s.data.toList = X ++ 47 :: Y ∧ (47 : UInt8) ∉ X := by
  generalize s.data.toList = l
  induction l with
  | nil => exact Or.inl (by simp)
  | cons b r ih =>
    by_cases e : b = 47
    · subst e; exact Or.inr ⟨[], r, rfl, by simp⟩
    · rcases ih with h | ⟨X, Y, h1, h2⟩
      · refine Or.inl fun h3 => ?_
        rcases List.mem_cons.1 h3 with h4 | h4
        · exact e h4.symm
        · exact h h4
      · refine Or.inr ⟨b :: X, Y, by rw [h1]; rfl, fun h3 => ?_⟩
        rcases List.mem_cons.1 h3 with h4 | h4
        · exact e h4.symm
        · exact h2 h4
/-- a sign, words, words, and what else is told -/
def RawOut (w w' : World) (e : Ending) (ok : Value) (neg : Bool) (zs ds : List Int) : Prop := ∃ ao l c bo lb cb, e = .returned (.tuple #[.agg #[.bool neg, .slice ao l c, .slice bo lb cb], ok]) ∧ RowAt w' .u64 ao l c zs ∧ RowAt w' .u64 bo lb cb ds ∧ Below w.heap.size w w'
theorem SomeRat.raw {w w' : World} {e : Ending} {ok : Value} {a : Rat} (h : SomeRat w w' e ok a) : RawOut w w' e ok (sgB a.num) (mag a.num.natAbs) (mag a.den) := by
  obtain ⟨neg, ao, l, c, bo, lb, cb, he, hr, hb⟩ := h
  exact ⟨ao, l, c, bo, lb, cb, by rw [he, hr.num.sg], hr.num.row, hr.den, hb⟩
set_option maxRecDepth 100000 in
set_option maxHeartbeats 1000000 in
theorem eqraw_same (neg : Bool) (ao po bo qo : Option Addr) (la ca lp cp lb cb lq cq : Nat) (zs ds : List Int) (w : World) (hx : RowAt w .u64 ao la ca zs) (hx2 : RowAt w .u64 po lp cp ds) (hy : RowAt w .u64 bo lb cb zs) (hy2 : RowAt w .u64 qo lq cq ds) (hl : la ≤ 1073741824) (hl' : lp ≤ 1073741824) :
    Calls Tryz.prog 14 #[.agg #[.bool neg, .slice ao la ca, .slice po lp cp], .agg #[.bool neg, .slice bo lb cb, .slice qo lq cq]] w fun e w' => e = .returned (.bool true) ∧ Below w.heap.size w w' := by
  obtain ⟨W, hW⟩ := RTwo2.mk' w neg neg ao po bo qo la ca lp cp lb cb lq cq
  have hsz := hW.size
  have hcon1 : Calls Tryz.prog 11 #[.agg #[.bool neg, .slice ao la ca], .agg #[.bool neg, .slice bo lb cb]] W fun e w' => e = .returned (.bool true) ∧ Below W.heap.size W w' := (eqint_any neg neg ao bo la ca lb cb zs zs W (hx.later hW.below) (hy.later hW.below) (by omega)).mono fun e w' h => by simpa using h
  have hcon : ∀ X, Below W.heap.size W X → Calls Tryz.prog 53 #[.slice po lp cp, .slice qo lq cq] X fun e w' => e = .returned (.bool true) ∧ Below X.heap.size X w' := fun X h => (eqwords_any po qo lp cp lq cq ds ds X ((hx2.later hW.below).later h) ((hy2.later hW.below).later h) (by omega)).mono fun e w' k => by rw [decide_eq_true rfl] at k; exact k
  clear hx hy hx2 hy2
  go_enter Tryz.func14, Tryz.ntmps14
  go_wp2_with (first
    | (go_at_call 11; rw [← hW.eq]; refine hcon1.mono ?_; rintro e w1 ⟨rfl, hb1⟩; obtain ⟨p0, p1, p2⟩ := hW.a.later hb1 (by omega); obtain ⟨q0, q1, q2⟩ := hW.b.later hb1 (by omega))
    | (go_at_call 53; refine (hcon _ hb1).mono ?_; rintro e w2 ⟨rfl, hb2⟩))
  go_ret
  exact ⟨rfl, bnext hW.below (bnext hb1 hb2)⟩
end Go.Proofs.YtiiefpnkpfliiaaGreatDoor
