/-
  Walks: rows made and copied.
-/
import Derived.Test.YtnodcfeimiimbaaDoorFacts
namespace Go.Proofs.YtnodcfeimiimbaaDoor
open Go.RowKit
set_option linter.unusedVariables false
set_option linter.unusedSimpArgs false

set_option maxRecDepth 100000 in
set_option maxHeartbeats 400000 in
theorem clone_pos (ao : Option Addr) (len cap : Nat) (zs : List Int) (w : World) (hr : RowAt w .u64 ao len cap zs) (hp : 0 < len) (hl : len ≤ 4294967296) :
    Calls Tryd.prog 60 #[.slice ao len cap] w fun e w' => e = .returned (.slice (some ⟨w.heap.size, 0, none⟩) len len) ∧ Blk w' w.heap.size .u64 54 zs ∧ Below w.heap.size w w' := by
  obtain ⟨i0, hi, hz0, hz1, hz2⟩ := info_parts info64
  have HL : Hid (len = zs.length) := hr.hlen
  have hne : ((len : Int) == 0) = false := by simp; omega
  have b1 : Hid (i0.bytes * len ≤ 281474976710656) := by show _ ≤ _; rw [hz2]; omega
  have b2 : Hid (len ≤ maxLen) := by show _ ≤ _; unfold maxLen; omega
  have b3 : Hid ((zs.map (Value.int .u64)).length = Nat.min len len) := by show _ = _; rw [List.length_map, ← HL.out]; exact (Nat.min_self _).symm
  have b4 : Hid (0 + (zs.map (Value.int .u64)).length ≤ ((List.replicate len (0 : Int)).map (Value.int .u64)).length) := by show _ ≤ _; simp [← HL.out]
  have HR : Hid (RowAt w .u64 ao len cap zs) := hr
  clear hr
  go_enter Tryd.func60, Tryd.ntmps60
  go_wp2_with (first
    | (at_make; refine wpList_make_full _ rfl (.tmp 8) (.tmp 8) 28 rfl w.heap.size 54 i0 (.int .u64 0) 1 Tryd.underlying28 hi hz0 hz1 .i64 .i64 _ _ len rfl rfl rfl rfl b1.out b2.out (Nat.le_refl _) ?_; intro w1 hown1 hgrow1)
    | (have _t := hown1; refine wpList_copy_splice rfl (.tmp 10) (.tmp 11) 28 28 rfl 54 Tryd.underlying28 size64 _ _ _ _ _ _ rfl rfl w.heap.size 0 ((List.replicate len (0 : Int)).map (Value.int .u64)) 54 (made_blk hown1) (zs.map (Value.int .u64)) b3.out (fun _ => ⟨rfl, (HR.out.later (grown_below hgrow1)).src hp⟩) b4.out (ints_oneCell _ _) w.heap.size w (grown_below hgrow1) (Nat.le_refl _) ?_; intro w2 hg2 hb2))
  go_ret
  refine ⟨rfl, ?_, hb2⟩
  have := blk_splice hg2.out
  rwa [show splice (List.replicate len (0 : Int)) 0 zs = zs by simp [splice, HL.out]] at this

set_option maxHeartbeats 400000 in
theorem clone_nil (ao : Option Addr) (cap : Nat) (w : World) :
    Calls Tryd.prog 60 #[.slice ao 0 cap] w fun e w' => e = .returned (.slice none 0 0) ∧ w' = w := by
  go_enter Tryd.func60, Tryd.ntmps60
  go_wp2
  go_ret
  exact ⟨rfl, rfl⟩

/-- what a call hands back: the words zs in memory of its own -/
def NewRow (w w' : World) (e : Ending) (zs : List Int) : Prop :=
  ∃ ao len cap, e = .returned (.slice ao len cap) ∧ Own w.heap.size w' .u64 54 ao len cap zs ∧ Below w.heap.size w w'

theorem clone_any (ao : Option Addr) (len cap : Nat) (zs : List Int) (w : World) (hr : RowAt w .u64 ao len cap zs) (hl : len ≤ 4294967296) :
    Calls Tryd.prog 60 #[.slice ao len cap] w fun e w' => NewRow w w' e zs := by
  by_cases hp : 0 < len
  · refine (clone_pos ao len cap zs w hr hp hl).mono fun e w' ⟨he, hb, hw⟩ => ?_
    exact ⟨_, _, _, he, Own.whole hb (Nat.le_refl _) hr.hlen, hw⟩
  · obtain rfl : len = 0 := by omega
    obtain rfl : zs = [] := List.eq_nil_of_length_eq_zero hr.hlen.symm
    refine (clone_nil ao cap w).mono fun e w' ⟨he, hw⟩ => ?_
    subst hw
    exact ⟨_, _, _, he, Own.none_, Below.refl _ _⟩
end Go.Proofs.YtnodcfeimiimbaaDoor
