/-
  Walks: a text is cut at its first bar.
-/
import Derived.Test.YtiiefpnkpfliiaaGreatDoorIH
import Derived.Shelf.Strings.Search1
import Derived.Lib.IndexLaws
namespace Go.Proofs.YtiiefpnkpfliiaaGreatDoor
open Go.RowKit
set_option linter.unusedVariables false
set_option linter.unusedSimpArgs false

def renIB : Go.Shelf.Ren := ⟨fun x => if x = 217 then 189 else 203, fun x => if x = 3 then 3 else if x = 5 then 5 else 9, fun x => x⟩
theorem lays217 : Lays.n217 Tryz.prog renIB := by
  constructor <;> first | (intro w; kernel_rfl) | kernel_rfl
theorem indexByte_at {X Y : List UInt8} {c : UInt8} (h : c ∉ X) : Lib.indexByte (X ++ c :: Y) c = (X.length : Int) := by
  induction X with
  | nil => simp [Lib.indexByte]
  | cons b l ih =>
    have h1 : c ∉ l := fun e => h (List.mem_cons_of_mem _ e)
    have h2 : (b == c) = false := by
      apply beq_false_of_ne
      intro e; subst e; exact h List.mem_cons_self
    rw [List.cons_append, Lib.indexByte, h2, ih h1]
    have : (((l.length : Int)) == -1) = false := by simp
    simp [this]
theorem indexByte_no {X : List UInt8} {c : UInt8} (h : c ∉ X) : Lib.indexByte X c = -1 := by
  induction X with
  | nil => rfl
  | cons b l ih =>
    have h1 : c ∉ l := fun e => h (List.mem_cons_of_mem _ e)
    have h2 : (b == c) = false := by
      apply beq_false_of_ne
      intro e; subst e; exact h List.mem_cons_self
    rw [Lib.indexByte, h2, ih h1]
    rfl
set_option maxRecDepth 100000 in
set_option maxHeartbeats 1000000 in
theorem indexOne_any (s : ByteArray) (w : World) (i : Int) (hi : Lib.indexByte s.data.toList 47 = i) :
    Calls Tryz.prog 171 #[.string s, .string ⟨#[47]⟩] w fun e w' => e = .returned (.int .i64 i) ∧ w' = w := by
  have hcon : ∀ X, Calls Tryz.prog 189 #[.string s, .int .u8 47] X fun e w' => e = .returned (.int .i64 i) ∧ w' = X := fun X => by
    have := Any.stringslite_IndexByte lays217 s 47 X
    rw [show (Int.toNat 47).toUInt8 = 47 from rfl, hi] at this
    exact this
  by_cases hs : s = ⟨#[47]⟩
  · subst hs
    obtain rfl : i = 0 := by rw [← hi]; rfl
    clear hi hcon
    go_enter Tryz.func171, Tryz.ntmps171
    go_wp2
    go_ret
    exact ⟨rfl, rfl⟩
  · have hne : (([47] : List UInt8) == s.toList) = false := by
      apply beq_false_of_ne
      intro e
      rw [Lib.toList_data] at e
      exact hs (ByteArray.ext (Array.toList_inj.1 e.symm))
    clear hs hi
    go_enter Tryz.func171, Tryz.ntmps171
    go_wp2_with (go_at_call 189; refine (hcon _).mono ?_; rintro e w1 ⟨rfl, rfl⟩)
    go_ret
    exact ⟨rfl, rfl⟩

set_option maxRecDepth 100000 in
set_option maxHeartbeats 1000000 in
theorem cutLite_hit (s x y : ByteArray) (n : Nat) (w : World) (hn : Lib.indexByte s.data.toList 47 = (n : Int)) (hl : n + 1 ≤ s.size) (hs : s.size ≤ 9223372036854775807) (hx : s.extract 0 n = x) (hy : s.extract (n + 1) s.size = y) :
    Calls Tryz.prog 151 #[.string s, .string ⟨#[47]⟩] w fun e w' => e = .returned (.tuple #[.string x, .string y, .bool true]) ∧ Below w.heap.size w w' := by
  have hcon := indexOne_any s w (n : Int) hn
  have c1 : (0 : Int) ≤ ↑n := by omega
  have c2 : (↑n : Int) ≤ ↑s.size := by omega
  have c3 : (0 : Int) ≤ ↑n + 1 := by omega
  have c4 : (↑n + 1 : Int) ≤ ↑s.size := by omega
  have c5 : IntKind.i64.wrap ((n : Int) + 1) = (n : Int) + 1 := by rw [IntKind.wrap_i64]; omega
  have c6 : ((n : Int) + 1).toNat = n + 1 := by omega
  have hb : Below w.heap.size w w.drew := (Below.refl _ _).drew
  clear hn
  go_enter Tryz.func151, Tryz.ntmps151
  go_wp2_with (go_at_call 171; refine hcon.mono ?_; rintro e w1 ⟨rfl, hw1⟩; replace hw1 := hw1.symm; subst hw1)
  go_quiet (fail)
  go_wp2
  go_ret3
  exact ⟨rfl, below_drewN (Below.refl _ _) _⟩
set_option maxRecDepth 100000 in
set_option maxHeartbeats 1000000 in
theorem cutLite_miss (s : ByteArray) (w : World) (hn : Lib.indexByte s.data.toList 47 = -1) :
    Calls Tryz.prog 151 #[.string s, .string ⟨#[47]⟩] w fun e w' => e = .returned (.tuple #[.string s, .string ⟨#[]⟩, .bool false]) ∧ Below w.heap.size w w' := by
  have hcon := indexOne_any s w (-1) hn
  clear hn
  go_enter Tryz.func151, Tryz.ntmps151
  go_wp2_with (go_at_call 171; refine hcon.mono ?_; rintro e w1 ⟨rfl, hw1⟩; replace hw1 := hw1.symm; subst hw1)
  go_ret3
  exact ⟨rfl, Below.refl _ _⟩
theorem bar_mem {x : ByteArray} {X Y : List UInt8} (e : x.data.toList = X ++ 47 :: Y) : x.extract 0 X.length = ⟨X.toArray⟩ ∧ x.extract (X.length + 1) x.size = ⟨Y.toArray⟩ ∧ X.length + 1 ≤ x.size := by
  have hs : x.size = X.length + 1 + Y.length := by
    have : x.size = x.data.toList.length := by rw [Array.length_toList]; rfl
    rw [this, e]; simp; omega
  refine ⟨?_, ?_, by omega⟩
  · apply ByteArray.ext
    rw [ByteArray.data_extract]
    apply Array.toList_inj.1
    simp [e]
  · apply ByteArray.ext
    rw [ByteArray.data_extract]
    apply Array.toList_inj.1
    rw [hs]
    simp [e]
set_option maxRecDepth 100000 in
set_option maxHeartbeats 1000000 in
theorem cut_hit (s : ByteArray) (X Y : List UInt8) (w : World) (e : s.data.toList = X ++ 47 :: Y) (h : (47 : UInt8) ∉ X) (hs : s.size ≤ 9223372036854775807) :
    Calls Tryz.prog 137 #[.string s, .string ⟨#[47]⟩] w fun e w' => e = .returned (.tuple #[.string ⟨X.toArray⟩, .string ⟨Y.toArray⟩, .bool true]) ∧ Below w.heap.size w w' := by
  obtain ⟨h1, h2, h3⟩ := bar_mem e
  have hcon := cutLite_hit s ⟨X.toArray⟩ ⟨Y.toArray⟩ X.length w (by rw [e]; exact indexByte_at h) h3 hs h1 h2
  generalize (⟨X.toArray⟩ : ByteArray) = x at hcon ⊢
  generalize (⟨Y.toArray⟩ : ByteArray) = y at hcon ⊢
  clear h1 h2 e
  go_enter Tryz.func137, Tryz.ntmps137
  go_wp2_with (go_at_call 151; refine hcon.mono ?_; rintro e w1 ⟨rfl, hb1⟩)
  go_ret3
  exact ⟨rfl, hb1⟩
set_option maxRecDepth 100000 in
set_option maxHeartbeats 1000000 in
theorem cut_miss (s : ByteArray) (w : World) (h : (47 : UInt8) ∉ s.data.toList) :
    Calls Tryz.prog 137 #[.string s, .string ⟨#[47]⟩] w fun e w' => e = .returned (.tuple #[.string s, .string ⟨#[]⟩, .bool false]) ∧ Below w.heap.size w w' := by
  have hcon := cutLite_miss s w (indexByte_no h)
  clear h
  go_enter Tryz.func137, Tryz.ntmps137
  go_wp2_with (go_at_call 151; refine hcon.mono ?_; rintro e w1 ⟨rfl, hb1⟩)
  go_ret3
  exact ⟨rfl, hb1⟩
end Go.Proofs.YtiiefpnkpfliiaaGreatDoor
