/-
  Both read any text alike.
-/
import Derived.Test.YtljmbnbilmghhaaGreatDoorRP
namespace Go.Proofs.YtljmbnbilmghhaaGreatDoor
open Go.RowKit
set_option linter.unusedVariables false
set_option linter.unusedSimpArgs false

theorem byte_list {s : ByteArray} {j : Nat} {b : UInt8} (h : s.data.toList[j]? = some b) : byteAt s j = b.toNat := by
  have hj : j < s.data.toList.length := (List.getElem?_eq_some_iff.1 h).1
  have hs : j < s.size := by rw [Array.length_toList] at hj; exact hj
  rw [byteAt_of hs]
  have h2 : s.data.toList[j] = b := (List.getElem?_eq_some_iff.1 h).2
  rw [← h2, Array.getElem_toList]; rfl
/-- one of both errors, one rational or none -/
def BothTell (s : ByteArray) : Prop := ∃ (c : Int) (neg : Bool) (zs ds : List Int), (zs.length ≤ 1024 ∧ ds.length ≤ 1024) ∧
  (∀ X, TabAt 0 Lib.deBruijn64tab X → Calls Tryz.prog 55 #[.string s] X fun e w' => RawOut X w' e (.int .i64 c) neg zs ds) ∧
  (∀ X, Calls Tryz.prog 57 #[.string s] X fun e w' => RawOut X w' e (.int .i64 c) neg zs ds)
theorem raw_of_rat {s : ByteArray} {a : Rat} {X : World} (h : Calls Tryz.prog 55 #[.string s] X fun e w' => SomeRat X w' e (.int .i64 0) a) : Calls Tryz.prog 55 #[.string s] X fun e w' => RawOut X w' e (.int .i64 0) (sgB a.num) (mag a.num.natAbs) (mag a.den) := h.mono fun e w' k => k.raw
theorem both_tell (s : ByteArray) (hs : s.size ≤ 9223372036854775807) : BothTell s := by
  rcases bar_or s with hno | ⟨X, Y, e, hX⟩
  · have hx : s.extract 0 s.size = s := by
      apply ByteArray.ext
      rw [ByteArray.data_extract]
      apply Array.toList_inj.1
      have : s.size = s.data.toList.length := by rw [Array.length_toList]; rfl
      simp
      exact List.take_of_length_le (by omega)
    have hbar : ∀ j, j < s.size → byteAt s j ≠ 47 := fun j hj h47 => by
      have hj2 : j < s.data.toList.length := by rw [Array.length_toList]; exact hj
      have := byte_list (List.getElem?_eq_getElem hj2)
      rw [h47] at this
      refine hno ?_
      have e2 : s.data.toList[j] = 47 := UInt8.toNat_inj.1 this.symm
      rw [← e2]; exact List.getElem_mem hj2
    have hcut : ∀ Z, Calls Tryz.prog 138 #[.string s, .string ⟨#[47]⟩] Z fun e w' => e = .returned (.tuple #[.string s, .string ⟨#[]⟩, .bool false]) ∧ Below Z.heap.size Z w' := fun Z => cut_miss s Z hno
    rcases read_first s hs with ⟨v, hv, h1, h2⟩ | ⟨h1, h2⟩
    · refine ⟨0, sgB v, mag v.natAbs, mag 1, ⟨hv, by rw [one_word]; decide⟩, fun Z _ => ?_, fun Z => qparse_one s s s.size v Z (Nat.le_refl _) hs hbar rfl hx h2 hv⟩
      exact raw_of_rat (a := ⟨v, 1, by decide, by simp⟩) (parse_rat s _ Z fun Z2 _ => read_one s ⟨v, 1, by decide, by simp⟩ Z2 hno rfl h1)
    · exact ⟨24, false, [], [], ⟨by decide, by decide⟩, fun Z _ => parse_bad s Z fun Z2 _ => read_bad1 s s ⟨#[]⟩ false Z2 hcut h1, fun Z => qparse_bad1 s s s.size Z (Nat.le_refl _) hs hbar (Or.inl rfl) hx h2⟩
  · obtain ⟨hx, hy, hle⟩ := bar_mem e
    have hbar : ∀ j, j < X.length → byteAt s j ≠ 47 := fun j hj h47 => by
      have h1 : s.data.toList[j]? = some X[j] := by rw [e, List.getElem?_append_left hj, List.getElem?_eq_getElem hj]
      have := byte_list h1
      rw [h47] at this
      refine hX ?_
      have e2 : X[j] = 47 := UInt8.toNat_inj.1 this.symm
      rw [← e2]; exact List.getElem_mem hj
    have h47 : byteAt s X.length = 47 := by
      have h1 : s.data.toList[X.length]? = some 47 := by rw [e, List.getElem?_append_right (Nat.le_refl _)]; simp
      exact byte_list h1
    have hcut : ∀ Z, Calls Tryz.prog 138 #[.string s, .string ⟨#[47]⟩] Z fun e w' => e = .returned (.tuple #[.string ⟨X.toArray⟩, .string ⟨Y.toArray⟩, .bool true]) ∧ Below Z.heap.size Z w' := fun Z => cut_hit s X Y Z e hX hs
    have hxs : (⟨X.toArray⟩ : ByteArray).size ≤ 9223372036854775807 := by rw [← hx, ByteArray.size_extract]; omega
    have hys : (⟨Y.toArray⟩ : ByteArray).size ≤ 9223372036854775807 := by rw [← hy, ByteArray.size_extract]; omega
    have none24 : ∀ (h1 : ∀ Z, TabAt 0 Lib.deBruijn64tab Z → Calls Tryz.prog 102 #[.string s] Z fun e w' => RawOut Z w' e (.bool false) false [] []) (h2 : ∀ Z, Calls Tryz.prog 57 #[.string s] Z fun e w' => RawOut Z w' e (.int .i64 24) false [] []), BothTell s := fun h1 h2 =>
      ⟨24, false, [], [], ⟨by decide, by decide⟩, fun Z hZ => parse_bad s Z fun Z2 hb => h1 Z2 (tab_later hZ hb), h2⟩
    rcases read_first ⟨X.toArray⟩ hxs with ⟨v, hv, h1, h2⟩ | ⟨h1, h2⟩
    · rcases read_second ⟨Y.toArray⟩ hys with ⟨d, hd, g1, g2⟩ | ⟨g2, g1⟩
      · have hd' : (mag (d : Int).natAbs).length ≤ 1024 := by rw [Int.natAbs_natCast]; exact hd
        by_cases d0 : d = 0
        · subst d0
          exact none24 (fun Z _ => read_bad3 s _ _ v ((0 : Nat) : Int) Z hcut h1 g1 hv hd' rfl) (fun Z => qparse_bad3 s _ _ X.length v 0 Z (by omega) hs hbar (by omega) h47 hx hy h2 g2 hv hd rfl)
        · by_cases d1 : d = 1
          · exact none24 (fun Z _ => read_bad4 s _ _ v (d : Int) Z hcut h1 g1 hv hd' (by omega)) (fun Z => qparse_bad4 s _ _ X.length v d Z (by omega) hs hbar (by omega) h47 hx hy h2 g2 hv hd d1)
          · by_cases hg : Nat.gcd v.natAbs d = 1
            · refine ⟨0, sgB v, mag v.natAbs, mag d, ⟨hv, hd⟩, fun Z hZ => ?_, fun Z => qparse_two s _ _ X.length v d Z (by omega) hs hbar (by omega) h47 hx hy h2 g2 hv hd (by rw [decide_eq_true (show 0 < d by omega), decide_eq_true hg]; rfl) d1⟩
              exact raw_of_rat (a := ⟨v, d, d0, hg⟩) (parse_rat s _ Z fun Z2 hb => read_two s X Y ⟨v, d, d0, hg⟩ Z2 e hX hs d1 h1 g1 ⟨Nat.le_trans hv (by decide), Nat.le_trans hd (by decide)⟩ (tab_later hZ hb))
            · exact none24 (fun Z hZ => read_bad5 s _ _ v (d : Int) Z hcut h1 g1 hv hd' (by omega) (by rw [Int.natAbs_natCast]; exact hg) hZ) (fun Z => qparse_bad3 s _ _ X.length v d Z (by omega) hs hbar (by omega) h47 hx hy h2 g2 hv hd (by rw [decide_eq_false hg]; simp))
      · refine none24 (fun Z _ => ?_) (fun Z => qparse_bad2 s _ _ X.length v Z (by omega) hs hbar (by omega) h47 hx hy h2 g2 hv)
        rcases g1 with ⟨u, hu, hul, g1⟩ | g1
        · exact read_bad3n s _ _ v u Z hcut h1 g1 hv hul (cmpI_lt hu)
        · exact read_bad2 s _ _ v Z hcut h1 g1 hv
    · exact none24 (fun Z _ => read_bad1 s _ _ true Z hcut h1) (fun Z => qparse_bad1 s _ X.length Z (by omega) hs hbar (Or.inr ⟨by omega, h47⟩) hx h2)
end Go.Proofs.YtljmbnbilmghhaaGreatDoor
