/-
  Walks: timesPlain.
-/
import Derived.Test.YtiiefpnkpfliiaaGreatDoorWP
namespace Go.Proofs.YtiiefpnkpfliiaaGreatDoor
open Go.RowKit
set_option linter.unusedVariables false
set_option linter.unusedSimpArgs false

/-- x times the first k digits of y lies in Lk from off on; above it noughts -/
structure ProdSt (q : Int) (L x y : List Int) (off lx ly k : Nat) (Lk : List Int) : Prop where
  len : Lk.length = L.length
  out : ∀ j, j < off ∨ off + (lx + ly) ≤ j → dig Lk j = dig L j
  wd : Wd q Lk
  zero : ∀ j, off + (lx + k) ≤ j → j < off + (lx + ly) → dig Lk j = 0
  eq : V q Lk off (lx + k) = val q x * val q (y.take k)
theorem dig_splice {L cs : List Int} {off : Nat} (h : off + cs.length ≤ L.length) (j : Nat) : dig (splice L off cs) j = if j < off then dig L j else if j < off + cs.length then dig cs (j - off) else dig L j := by
  unfold splice dig
  simp only [List.getD_eq_getElem?_getD, List.getElem?_append, List.length_take, List.getElem?_take, List.getElem?_drop]
  rw [Nat.min_eq_left (by omega)]
  by_cases h1 : j < off
  · simp [h1]
  · by_cases h2 : j < off + cs.length
    · rw [if_neg h1, if_neg h1, if_pos h2, if_pos (by omega)]
    · rw [if_neg h1, if_neg h1, if_neg h2, if_neg (by omega)]
      congr 2; omega
theorem dig_zeros (n j : Nat) : dig (List.replicate n (0 : Int)) j = 0 := by
  unfold dig; simp only [List.getD_eq_getElem?_getD, List.getElem?_replicate]; split <;> rfl
theorem wd_splice {q : Int} {L cs : List Int} {off : Nat} (h : Wd q L) (hc : Wd q cs) : Wd q (splice L off cs) := by
  unfold splice; exact (h.take _).append (hc.append (h.drop _))
theorem wd_zeros {q : Int} (hq : 0 < q) (n : Nat) : Wd q (List.replicate n 0) := fun z hz => by
  have := List.eq_of_mem_replicate hz; subst this; exact ⟨Int.le_refl _, hq⟩
theorem V_zeros {q : Int} {L : List Int} {off k : Nat} (h : ∀ j, j < k → dig L (off + j) = 0) : V q L off k = 0 := by
  induction k with
  | zero => exact V_zero q L off
  | succ k ih => rw [V_succ, ih (fun j hj => h j (by omega)), h k (by omega)]; simp
theorem ProdSt.start {q : Int} (hq : 0 < q) {L x y : List Int} {off lx ly : Nat} (hW : Wd q L) (hl : off + (lx + ly) ≤ L.length) : ProdSt q L x y off lx ly 0 (splice L off (List.replicate (lx + ly) 0)) := by
  have hd := fun j => dig_splice (L := L) (cs := List.replicate (lx + ly) (0 : Int)) (off := off) (by simpa using hl) j
  simp only [List.length_replicate] at hd
  refine ⟨length_splice _ _ _ (by simpa using hl), fun j hj => ?_, wd_splice hW (wd_zeros hq _), fun j h1 h2 => ?_, ?_⟩
  · rw [hd]; rcases hj with h | h
    · rw [if_pos h]
    · rw [if_neg (by omega), if_neg (by omega)]
  · rw [hd, if_neg (by omega), if_pos h2, dig_zeros]
  · rw [V_zeros (fun j hj => by rw [hd, if_neg (by omega), if_pos (by omega), dig_zeros])]
    simp [val]
/-- a nought of y -/
theorem ProdSt.skip {q : Int} {L x y : List Int} {off lx ly k : Nat} {Lk : List Int} (h : ProdSt q L x y off lx ly k Lk) (hk : k < ly) (hy : dig y k = 0) : ProdSt q L x y off lx ly (k + 1) Lk := by
  refine ⟨h.len, h.out, h.wd, fun j h1 h2 => h.zero j (by omega) h2, ?_⟩
  rw [← Nat.add_assoc, V_succ, h.zero (off + (lx + k)) (by omega) (by omega), val_take_dig, hy, h.eq]; simp
theorem ProdSt.step {q : Int} {L x y : List Int} {off lx ly k : Nat} {Lk L' : List Int} {c : Int} (h : ProdSt q L x y off lx ly k Lk) (hl : off + (lx + ly) ≤ L.length) (hk : k < ly) (hx : x.length ≤ lx)
    (hm : MulSt q Lk x (dig y k) (off + k) lx c L') : ProdSt q L x y off lx ly (k + 1) (L'.set (off + (k + lx)) c) := by
  have hlen : off + (k + lx) < L'.length := by rw [hm.len, h.len]; omega
  refine ⟨by simp [hm.len, h.len], fun j hj => ?_, hm.wd.set _ ⟨hm.c0, hm.c1⟩, fun j h1 h2 => ?_, ?_⟩
  · rw [dig_set _ hlen, if_neg (by omega), hm.out j (by omega)]; exact h.out j hj
  · rw [dig_set _ hlen, if_neg (by omega), hm.out j (by omega)]; exact h.zero j (by omega) h2
  · have e0 : lx + (k + 1) = k + (lx + 1) := by omega
    rw [e0, V_split]
    have e1 : V q (L'.set (off + (k + lx)) c) off k = V q Lk off k := V_congr fun j hj => by rw [dig_set _ hlen, if_neg (by omega), hm.out _ (by omega)]
    have e2 : V q (L'.set (off + (k + lx)) c) (off + k) lx = V q L' (off + k) lx := V_congr fun j hj => by rw [dig_set _ hlen, if_neg (by omega)]
    rw [V_succ, e1, e2, dig_set _ hlen, if_pos (by omega)]
    have e3 := hm.eq
    rw [List.take_of_length_le hx] at e3
    have e4 := h.eq
    have e5 : lx + k = k + lx := by omega
    rw [e5, V_split] at e4
    rw [val_take_dig]
    have e6 : q ^ lx * c = c * q ^ lx := Int.mul_comm _ _
    rw [e6, e3]
    grind

/-- what timesPlain leaves -/
def Product (w w' : World) (e : Ending) (g off n : Nat) (L : List Int) (T : Int) : Prop :=
  ∃ L', e = .returned (.tuple #[]) ∧ Blk w' g .u64 59 L' ∧ L'.length = L.length ∧ Wd 18446744073709551616 L' ∧ (∀ j, j < off ∨ off + n ≤ j → dig L' j = dig L j) ∧ V 18446744073709551616 L' off n = T ∧ Touch g w w'

set_option maxRecDepth 100000 in
set_option maxHeartbeats 2000000 in
theorem timesPlain_any (g off cap : Nat) (ao : Option Addr) (lx ca : Nat) (bo : Option Addr) (ly cb : Nat) (L xs ys : List Int) (w : World) (hb : Blk w g .u64 59 L) (hW : Wd 18446744073709551616 L) (hn : off + (lx + ly) ≤ L.length) (hnc : lx + ly ≤ cap) (hcap : cap ≤ 4611686018427387904)
    (hx : RowAt w .u64 ao lx ca xs) (hxW : Wd 18446744073709551616 xs) (hy : RowAt w .u64 bo ly cb ys) (hyW : Wd 18446744073709551616 ys) (hlx : 0 < lx) (hax : Apart ao lx g off (lx + ly)) (hay : Apart bo ly g off (lx + ly)) :
    Calls Tryz.prog 167 #[.slice (some ⟨g, off, none⟩) (lx + ly) cap, .slice ao lx ca, .slice bo ly cb] w fun e w' => Product w w' e g off (lx + ly) L (val 18446744073709551616 xs * val 18446744073709551616 ys) := by
  obtain ⟨i0, hi, hz0, hz1, hz2⟩ := info_parts info64
  have HH : Hid (Blk w g .u64 59 L ∧ Wd 18446744073709551616 L ∧ off + (lx + ly) ≤ L.length ∧ (Wd 18446744073709551616 xs ∧ Wd 18446744073709551616 ys) ∧ Apart ao lx g off (lx + ly) ∧ Apart bo ly g off (lx + ly)) := ⟨hb, hW, hn, ⟨hxW, hyW⟩, hax, hay⟩
  have HR : Hid (RowAt w .u64 ao lx ca xs ∧ RowAt w .u64 bo ly cb ys) := ⟨hx, hy⟩
  have hpos : Hid (0 < lx + ly) := by show _ < _; omega
  clear hb hW hn hxW hyW hax hay hx hy
  go_enter Tryz.func167, Tryz.ntmps167
  go_wp2_with (refine wpList_clear rfl (.tmp 8) 23 59 rfl Tryz.underlying23 i0 .u64 hi hz0 g off (lx + ly) cap hpos.out rfl 59 L HH.out.1 HH.out.2.2.1 ?_; intro w1 HB1)
  go_loopw [11] (fun i wr => ∃ (k : Nat) (Lk : List Int), k ≤ ly ∧ i = .int .i64 k ∧ ProdSt 18446744073709551616 L xs ys off lx ly k Lk ∧ Blk wr g .u64 59 Lk ∧ Touch g w wr) (fun i _ => ly - (intOf i).toNat)
  case atStart => exact ⟨0, _, Nat.zero_le _, rfl, ProdSt.start (by decide) HH.out.2.1 HH.out.2.2.1, HB1.out.1, HB1.out.2⟩
  case round =>
    obtain ⟨k, Lk, hk, rfl, hst, hbl, hto⟩ := hrel
    have HS : Hid (ProdSt 18446744073709551616 L xs ys off lx ly k Lk ∧ Blk wr g .u64 59 Lk ∧ Touch g w wr) := ⟨hst, hbl, hto⟩
    by_cases hlt : k < ly
    · have hyr : RowAt wr .u64 bo ly cb ys := row_touch HR.out.2 HH.out.1 hbl hto HH.out.2.2.2.2.2 (fun j hj => hst.out j (by omega)) hst.len
      have hxr : RowAt wr .u64 ao lx ca xs := row_touch HR.out.1 HH.out.1 hbl hto HH.out.2.2.2.2.1 (fun j hj => hst.out j (by omega)) hst.len
      have HXR : Hid (RowAt wr .u64 ao lx ca xs) := hxr
      obtain ⟨b', o', rfl, hb', hc'⟩ := hyr.get (by omega)
      have hcy := hc' k hlt
      obtain ⟨y, hyv⟩ : ∃ y, dig ys k = y := ⟨_, rfl⟩
      rw [hyv] at hcy
      have HY : Hid (dig ys k = y) := hyv
      have hyb : 0 ≤ y ∧ y < 18446744073709551616 := hyv ▸ HH.out.2.2.2.1.2.dig (by decide) k
      clear hc' hyr hxr hyv hst hto
      by_cases hy0 : y = 0
      · subst hy0
        clear hbl
        go_wp2
        go_roundw
        case rel => exact ⟨k + 1, Lk, by omega, by go_num, HS.out.1.skip hlt HY.out, HS.out.2.1, HS.out.2.2⟩
        case measure => simp [intOf]; omega
      · have hy1 : (y != 0) = true := by simpa using hy0
        have hck : k < cap := by omega
        have hap2 : Hid (Apart ao lx g (off + k) lx) := fun b o e t ht k' hk' e' => by
          have := HH.out.2.2.2.2.1 b o e t ht (k + k') (by omega) e'; omega
        clear hbl hy0
        have hlk : Hid (off + (lx + ly) ≤ Lk.length) := by show _ ≤ _; rw [HS.out.1.len]; exact HH.out.2.2.1
        go_wp2_with (go_at_call 187; refine (addTimes_any g (off + k) lx (cap - k) ao lx ca Lk xs y wr HS.out.2.1 HS.out.1.wd (by have := hlk.out; omega) (by omega) (by omega) HXR.out HH.out.2.2.2.1.1 (Nat.le_refl _) hap2.out hyb).mono ?_; rintro e w2 ⟨c, L', rfl, hb2, hm2, ht2⟩; have HM : Hid (MulSt 18446744073709551616 Lk xs y (off + k) lx c L' ∧ Touch g wr w2 ∧ Blk w2 g .u64 59 L') := ⟨hm2, ht2, hb2⟩; have hcz := hb2.cell (j := off + (k + lx)) (by have h1 := hm2.len; have h2 := hlk.out; omega); have hfz := hb2.frozen (off + (k + lx)); have hgs : g < w2.heap.size := hb2.lt; clear hm2 ht2 hb2)
        go_roundw
        case rel => exact ⟨k + 1, L'.set (off + (k + lx)) c, by omega, by go_num, HS.out.1.step HH.out.2.2.1 hlt (by rw [← HR.out.1.hlen]; exact Nat.le_refl _) (HY.out ▸ HM.out.1), HM.out.2.2.set _ _, (HS.out.2.2.trans HM.out.2.1).set _ _⟩
        case measure => simp [intOf]; omega
    · obtain rfl : k = ly := by omega
      clear hst hbl hto
      go_wp2
      go_end0
      refine ⟨Lk, rfl, HS.out.2.1, HS.out.1.len, HS.out.1.wd, HS.out.1.out, ?_, HS.out.2.2⟩
      have := HS.out.1.eq
      rw [List.take_of_length_le (by rw [← HR.out.2.hlen]; exact Nat.le_refl _)] at this
      exact this
end Go.Proofs.YtiiefpnkpfliiaaGreatDoor
