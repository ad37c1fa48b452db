/-
  Walks: addInto, subInto.
-/
import Derived.Test.YtnodcfeimiimbaaDoorBits
import Derived.Test.YtnodcfeimiimbaaDoorAdd
namespace Go.Proofs.YtnodcfeimiimbaaDoor
open Go.RowKit
set_option linter.unusedVariables false
set_option linter.unusedSimpArgs false

/-- of what was there only block g may have turned -/
structure Touch (g : Nat) (w w' : World) : Prop where
  os : w'.os = w.os
  tape : w'.tape = w.tape
  output : w'.output = w.output
  size : w'.heap.size = w.heap.size
  block : ∀ k, k ≠ g → w'.heap[k]? = w.heap[k]?
theorem Touch.refl (g : Nat) (w : World) : Touch g w w := ⟨rfl, rfl, rfl, rfl, fun _ _ => rfl⟩
theorem Touch.set {g : Nat} {a w : World} (h : Touch g a w) (j : Nat) (v : Value) : Touch g a (w.setCell ⟨g, j, none⟩ v) :=
  ⟨h.os, h.tape, h.output, by simpa [World.setCell] using h.size, fun k hk => by rw [Below.heap_setCell _ _ _ _ hk]; exact h.block k hk⟩
theorem Touch.drewN {g : Nat} {a w : World} (h : Touch g a w) (n : Nat) : Touch g a (w.drewN n) := ⟨h.os, h.tape, h.output, h.size, h.block⟩
theorem Touch.drew {g : Nat} {a w : World} (h : Touch g a w) : Touch g a w.drew := ⟨h.os, h.tape, h.output, h.size, h.block⟩
theorem Touch.below {g B : Nat} {a w : World} (h : Touch g a w) (hB : B ≤ g) : Below B a w := ⟨h.os, h.tape, h.output, Nat.le_of_eq h.size.symm, fun k hk => h.block k (by omega)⟩
theorem Touch.trans {g : Nat} {a b c : World} (h : Touch g a b) (k : Touch g b c) : Touch g a c := ⟨k.os.trans h.os, k.tape.trans h.tape, k.output.trans h.output, k.size.trans h.size, fun i hi => (k.block i hi).trans (h.block i hi)⟩

/-- the row's cells are none of those that lie in block g from off on, n of them -/
def Apart (bo : Option Addr) (m g off n : Nat) : Prop := ∀ b o, bo = some ⟨b, o, none⟩ → ∀ t, t < m → ∀ k, k < n → b = g → o + t ≠ off + k

theorem row_touch {w wr : World} {bo : Option Addr} {m cb g off n : Nat} {ys L Lk : List Int} {t : TypeId} (hy : RowAt w .u64 bo m cb ys) (hb : Blk w g .u64 t L) (hk : Blk wr g .u64 t Lk) (hto : Touch g w wr) (hap : Apart bo m g off n)
    (hout : ∀ j, j < off ∨ off + n ≤ j → dig Lk j = dig L j) (hl : Lk.length = L.length) : RowAt wr .u64 bo m cb ys := by
  refine ⟨hy.hlen, hy.hcap, hy.hnil, ?_⟩
  rcases hy.hat with h0 | ⟨b, o, rfl, hlt, hc⟩
  · exact Or.inl h0
  · refine Or.inr ⟨b, o, rfl, by rw [hto.size]; exact hlt, fun t ht => ?_⟩
    by_cases e : b = g
    · subst e
      have h1 := hc t ht
      have hlen : o + t < L.length := by
        by_cases h : o + t < L.length
        · exact h
        · exfalso
          unfold Blk at hb
          simp [World.cell?, hb, List.getElem?_eq_none (Nat.le_of_not_lt h)] at h1
      rw [hb.cell hlen] at h1
      rw [hk.cell (by omega), hout (o + t) ?_]
      · exact h1
      · have := fun k hk => hap b o rfl t ht k hk rfl
        by_cases h2 : o + t < off
        · exact Or.inl h2
        · by_cases h3 : off + n ≤ o + t
          · exact Or.inr h3
          · exact absurd rfl (fun e : o + t = o + t => (this (o + t - off) (by omega)) (by omega))
    · rw [World.cell?_of_block (w := w) (hto.block b e)]; exact hc t ht

/-- what addInto and subInto leave -/
def Summed (s : Int) (w w' : World) (e : Ending) (g off n : Nat) (L ys : List Int) : Prop :=
  ∃ c L', e = .returned (.int .u64 c) ∧ Blk w' g .u64 54 L' ∧ L'.length = L.length ∧ Wd 18446744073709551616 L' ∧ (∀ j, j < off ∨ off + n ≤ j → dig L' j = dig L j) ∧ 0 ≤ c ∧ c ≤ 1 ∧
    V 18446744073709551616 L' off n + s * (c * 18446744073709551616 ^ n) = V 18446744073709551616 L off n + s * val 18446744073709551616 ys ∧ Touch g w w'

set_option maxRecDepth 100000 in
set_option maxHeartbeats 1600000 in
theorem addInto_any (g off n cap : Nat) (bo : Option Addr) (m cb : Nat) (L ys : List Int) (w : World) (hb : Blk w g .u64 54 L) (hW : Wd 18446744073709551616 L) (hn : off + n ≤ L.length) (hnc : n ≤ cap) (hcap : cap ≤ 4611686018427387904)
    (hy : RowAt w .u64 bo m cb ys) (hyW : Wd 18446744073709551616 ys) (hm : m ≤ n) (hap : Apart bo m g off n) :
    Calls Tryd.prog 47 #[.slice (some ⟨g, off, none⟩) n cap, .slice bo m cb] w fun e w' => Summed 1 w w' e g off n L ys := by
  have HY : Hid (m = ys.length) := hy.hlen
  have HH : Hid (Blk w g .u64 54 L ∧ Wd 18446744073709551616 L ∧ off + n ≤ L.length ∧ Wd 18446744073709551616 ys ∧ Apart bo m g off n) := ⟨hb, hW, hn, hyW, hap⟩
  clear hb hW hn hyW hap
  go_enter Tryd.func47, Tryd.ntmps47
  go_wp2
  go_loopw [6, 16] (fun c i wr => ∃ (k : Nat) (cv : Int) (Lk : List Int), k ≤ m ∧ i = .int .i64 k ∧ c = .int .u64 cv ∧ St 1 18446744073709551616 L ys off k cv Lk ∧ Blk wr g .u64 54 Lk ∧ Touch g w wr) (fun _ i _ => m - (intOf i).toNat)
  case atStart => exact ⟨0, 0, L, Nat.zero_le _, rfl, rfl, St.start off HH.out.2.1, HH.out.1, Touch.refl _ _⟩
  case round =>
    obtain ⟨k, cv, Lk, hk, rfl, rfl, hst, hbl, hto⟩ := hrel
    have HS : Hid (St 1 18446744073709551616 L ys off k cv Lk ∧ Blk wr g .u64 54 Lk ∧ Touch g w wr) := ⟨hst, hbl, hto⟩
    by_cases hlt : k < m
    · have hyr : RowAt wr .u64 bo m cb ys := row_touch hy HH.out.1 hbl hto HH.out.2.2.2.2 (fun j hj => hst.out j (by omega)) hst.len
      obtain ⟨b', o', rfl, hb', hc'⟩ := hyr.get (by omega)
      have hcy := hc' k hlt
      have hcz := hbl.cell (j := off + k) (by have := hst.len; have := HH.out.2.2.1; omega)
      have hfz := hbl.frozen (off + k)
      have hgs : g < wr.heap.size := hbl.lt
      obtain ⟨d, c', hrun, hd, hcc, he⟩ := add64_ex (dig Lk (off + k)) (dig ys k) cv (hst.wd.dig (by decide) _) (HH.out.2.2.2.1.dig (by decide) _) hst.c0 hst.c1
      have HD : Hid ((0 ≤ d ∧ d < 18446744073709551616) ∧ (0 ≤ c' ∧ c' ≤ 1) ∧ d + 1 * (c' * 18446744073709551616) = dig Lk (off + k) + 1 * (dig ys k + cv)) := ⟨hd, hcc, he⟩
      clear hd hcc he hst hbl hto hyr hy hc'
      go_wp2_with (simp only [hrun])
      go_roundw
      case rel => exact ⟨k + 1, c', Lk.set (off + k) d, by omega, by go_num, rfl, HS.out.1.step (by have := HH.out.2.2.1; omega) HD.out.1 HD.out.2.1 (by have := HD.out.2.2; rw [HS.out.1.out (off + k) (by omega)] at this; exact this), HS.out.2.1.set _ _, HS.out.2.2.set _ _⟩
      case measure => simp [intOf]; omega
    · obtain rfl : k = m := by omega
      clear hst hbl hto
      go_wp2
      obtain ⟨wo, rfl⟩ : ∃ wo : World, wo = wr := ⟨_, rfl⟩
      go_loopw [6, 9] (fun c i wr => ∃ (j : Nat) (cv : Int) (Lk : List Int), k ≤ j ∧ j ≤ n ∧ i = .int .i64 j ∧ c = .int .u64 cv ∧ St 1 18446744073709551616 L ys off j cv Lk ∧ Blk wr g .u64 54 Lk ∧ Touch g w wr) (fun _ i _ => n - (intOf i).toNat)
      case atStart => exact ⟨k, cv, Lk, Nat.le_refl _, hm, rfl, rfl, HS.out.1, HS.out.2.1, HS.out.2.2⟩
      case round =>
        clear HS
        obtain ⟨j, cv, Lk, hj1, hj2, rfl, rfl, hst, hbl, hto⟩ := hrel
        have HS : Hid (St 1 18446744073709551616 L ys off j cv Lk ∧ Blk wr g .u64 54 Lk ∧ Touch g w wr) := ⟨hst, hbl, hto⟩
        have hc0 := hst.c0
        have hc1 := hst.c1
        by_cases hz : cv = 0
        · subst hz
          clear hst hbl hto hy
          go_wp2
          go_ret
          exact ⟨0, Lk, rfl, HS.out.2.1, HS.out.1.len, HS.out.1.wd, fun i hi => HS.out.1.out i (by omega), by decide, by decide, HS.out.1.finish hj2 (by have := HY.out; omega) (Or.inr rfl), HS.out.2.2⟩
        · have hne : (cv != 0) = true := by simpa using hz
          by_cases hlt2 : j < n
          · have hcz := hbl.cell (j := off + j) (by have := hst.len; have := HH.out.2.2.1; omega)
            have hfz := hbl.frozen (off + j)
            have hgs : g < wr.heap.size := hbl.lt
            obtain ⟨d, c', hrun, hd, hcc, he⟩ := add64_ex (dig Lk (off + j)) 0 cv (hst.wd.dig (by decide) _) (by decide) hst.c0 hst.c1
            have HD : Hid ((0 ≤ d ∧ d < 18446744073709551616) ∧ (0 ≤ c' ∧ c' ≤ 1) ∧ d + 1 * (c' * 18446744073709551616) = dig Lk (off + j) + 1 * (0 + cv)) := ⟨hd, hcc, he⟩
            clear hd hcc he hst hbl hto hy
            go_wp2_with (simp only [hrun])
            go_roundw
            case rel => exact ⟨j + 1, c', Lk.set (off + j) d, by omega, by omega, by go_num, rfl, HS.out.1.step (by have := HH.out.2.2.1; omega) HD.out.1 HD.out.2.1 (by have := HD.out.2.2; rw [HS.out.1.out (off + j) (by omega)] at this; rw [show dig ys j = 0 by (have := HY.out; simp [dig, List.getElem?_eq_none (show ys.length ≤ j by omega)])]; exact this), HS.out.2.1.set _ _, HS.out.2.2.set _ _⟩
            case measure => simp [intOf]; omega
          · obtain rfl : j = n := by omega
            clear hst hbl hto hy
            go_wp2
            go_ret
            exact ⟨cv, Lk, rfl, HS.out.2.1, HS.out.1.len, HS.out.1.wd, fun i hi => HS.out.1.out i (by omega), hc0, hc1, HS.out.1.finish hj2 (by have := HY.out; omega) (Or.inl rfl), HS.out.2.2⟩

set_option maxRecDepth 100000 in
set_option maxHeartbeats 1600000 in
theorem subInto_any (g off n cap : Nat) (bo : Option Addr) (m cb : Nat) (L ys : List Int) (w : World) (hb : Blk w g .u64 54 L) (hW : Wd 18446744073709551616 L) (hn : off + n ≤ L.length) (hnc : n ≤ cap) (hcap : cap ≤ 4611686018427387904)
    (hy : RowAt w .u64 bo m cb ys) (hyW : Wd 18446744073709551616 ys) (hm : m ≤ n) (hap : Apart bo m g off n) :
    Calls Tryd.prog 68 #[.slice (some ⟨g, off, none⟩) n cap, .slice bo m cb] w fun e w' => Summed (-1) w w' e g off n L ys := by
  have HY : Hid (m = ys.length) := hy.hlen
  have HH : Hid (Blk w g .u64 54 L ∧ Wd 18446744073709551616 L ∧ off + n ≤ L.length ∧ Wd 18446744073709551616 ys ∧ Apart bo m g off n) := ⟨hb, hW, hn, hyW, hap⟩
  clear hb hW hn hyW hap
  go_enter Tryd.func68, Tryd.ntmps68
  go_wp2
  go_loopw [6, 16] (fun c i wr => ∃ (k : Nat) (cv : Int) (Lk : List Int), k ≤ m ∧ i = .int .i64 k ∧ c = .int .u64 cv ∧ St (-1) 18446744073709551616 L ys off k cv Lk ∧ Blk wr g .u64 54 Lk ∧ Touch g w wr) (fun _ i _ => m - (intOf i).toNat)
  case atStart => exact ⟨0, 0, L, Nat.zero_le _, rfl, rfl, St.start off HH.out.2.1, HH.out.1, Touch.refl _ _⟩
  case round =>
    obtain ⟨k, cv, Lk, hk, rfl, rfl, hst, hbl, hto⟩ := hrel
    have HS : Hid (St (-1) 18446744073709551616 L ys off k cv Lk ∧ Blk wr g .u64 54 Lk ∧ Touch g w wr) := ⟨hst, hbl, hto⟩
    by_cases hlt : k < m
    · have hyr : RowAt wr .u64 bo m cb ys := row_touch hy HH.out.1 hbl hto HH.out.2.2.2.2 (fun j hj => hst.out j (by omega)) hst.len
      obtain ⟨b', o', rfl, hb', hc'⟩ := hyr.get (by omega)
      have hcy := hc' k hlt
      have hcz := hbl.cell (j := off + k) (by have := hst.len; have := HH.out.2.2.1; omega)
      have hfz := hbl.frozen (off + k)
      have hgs : g < wr.heap.size := hbl.lt
      obtain ⟨d, c', hrun, hd, hcc, he⟩ := sub64_ex (dig Lk (off + k)) (dig ys k) cv (hst.wd.dig (by decide) _) (HH.out.2.2.2.1.dig (by decide) _) hst.c0 hst.c1
      have HD : Hid ((0 ≤ d ∧ d < 18446744073709551616) ∧ (0 ≤ c' ∧ c' ≤ 1) ∧ d + (-1) * (c' * 18446744073709551616) = dig Lk (off + k) + (-1) * (dig ys k + cv)) := ⟨hd, hcc, he⟩
      clear hd hcc he hst hbl hto hyr hy hc'
      go_wp2_with (simp only [hrun])
      go_roundw
      case rel => exact ⟨k + 1, c', Lk.set (off + k) d, by omega, by go_num, rfl, HS.out.1.step (by have := HH.out.2.2.1; omega) HD.out.1 HD.out.2.1 (by have := HD.out.2.2; rw [HS.out.1.out (off + k) (by omega)] at this; exact this), HS.out.2.1.set _ _, HS.out.2.2.set _ _⟩
      case measure => simp [intOf]; omega
    · obtain rfl : k = m := by omega
      clear hst hbl hto
      go_wp2
      obtain ⟨wo, rfl⟩ : ∃ wo : World, wo = wr := ⟨_, rfl⟩
      go_loopw [6, 9] (fun c i wr => ∃ (j : Nat) (cv : Int) (Lk : List Int), k ≤ j ∧ j ≤ n ∧ i = .int .i64 j ∧ c = .int .u64 cv ∧ St (-1) 18446744073709551616 L ys off j cv Lk ∧ Blk wr g .u64 54 Lk ∧ Touch g w wr) (fun _ i _ => n - (intOf i).toNat)
      case atStart => exact ⟨k, cv, Lk, Nat.le_refl _, hm, rfl, rfl, HS.out.1, HS.out.2.1, HS.out.2.2⟩
      case round =>
        clear HS
        obtain ⟨j, cv, Lk, hj1, hj2, rfl, rfl, hst, hbl, hto⟩ := hrel
        have HS : Hid (St (-1) 18446744073709551616 L ys off j cv Lk ∧ Blk wr g .u64 54 Lk ∧ Touch g w wr) := ⟨hst, hbl, hto⟩
        have hc0 := hst.c0
        have hc1 := hst.c1
        by_cases hz : cv = 0
        · subst hz
          clear hst hbl hto hy
          go_wp2
          go_ret
          exact ⟨0, Lk, rfl, HS.out.2.1, HS.out.1.len, HS.out.1.wd, fun i hi => HS.out.1.out i (by omega), by decide, by decide, HS.out.1.finish hj2 (by have := HY.out; omega) (Or.inr rfl), HS.out.2.2⟩
        · have hne : (cv != 0) = true := by simpa using hz
          by_cases hlt2 : j < n
          · have hcz := hbl.cell (j := off + j) (by have := hst.len; have := HH.out.2.2.1; omega)
            have hfz := hbl.frozen (off + j)
            have hgs : g < wr.heap.size := hbl.lt
            obtain ⟨d, c', hrun, hd, hcc, he⟩ := sub64_ex (dig Lk (off + j)) 0 cv (hst.wd.dig (by decide) _) (by decide) hst.c0 hst.c1
            have HD : Hid ((0 ≤ d ∧ d < 18446744073709551616) ∧ (0 ≤ c' ∧ c' ≤ 1) ∧ d + (-1) * (c' * 18446744073709551616) = dig Lk (off + j) + (-1) * (0 + cv)) := ⟨hd, hcc, he⟩
            clear hd hcc he hst hbl hto hy
            go_wp2_with (simp only [hrun])
            go_roundw
            case rel => exact ⟨j + 1, c', Lk.set (off + j) d, by omega, by omega, by go_num, rfl, HS.out.1.step (by have := HH.out.2.2.1; omega) HD.out.1 HD.out.2.1 (by have := HD.out.2.2; rw [HS.out.1.out (off + j) (by omega)] at this; rw [show dig ys j = 0 by (have := HY.out; simp [dig, List.getElem?_eq_none (show ys.length ≤ j by omega)])]; exact this), HS.out.2.1.set _ _, HS.out.2.2.set _ _⟩
            case measure => simp [intOf]; omega
          · obtain rfl : j = n := by omega
            clear hst hbl hto hy
            go_wp2
            go_ret
            exact ⟨cv, Lk, rfl, HS.out.2.1, HS.out.1.len, HS.out.1.wd, fun i hi => HS.out.1.out i (by omega), hc0, hc1, HS.out.1.finish hj2 (by have := HY.out; omega) (Or.inl rfl), HS.out.2.2⟩

end Go.Proofs.YtnodcfeimiimbaaDoor
