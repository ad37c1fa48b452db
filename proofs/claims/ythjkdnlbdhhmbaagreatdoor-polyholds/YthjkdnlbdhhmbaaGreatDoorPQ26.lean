/-
  OG: walks: poly's value at rationals that may be long. (gen/og.py)
-/
import Derived.Test.YthjkdnlbdhhmbaaGreatDoorPQ22
import Derived.Test.YthjkdnlbdhhmbaaGreatDoorPQ23
import Derived.Test.YthjkdnlbdhhmbaaGreatDoorPQ24
import Derived.Test.YthjkdnlbdhhmbaaGreatDoorPQ25
namespace Go.Proofs.YthjkdnlbdhhmbaaGreatDoor
open Go.RowKit
set_option linter.unusedVariables false
set_option linter.unusedSimpArgs false
set_option maxRecDepth 100000 in
set_option maxHeartbeats 4000000 in
theorem value_gen (ao : Option Addr) (len cap A : Nat) (p : List Int) (na : Bool) (o1 o2 : Option Addr) (l1 c1 l2 c2 : Nat) (a : Rat) (w : World) (hp : PolyAt w ao len cap p) (ha : RatAt w na o1 l1 c1 o2 l2 c2 a) (hl : len ≤ 64) (hA : A ≤ 10000) (hlp : Lim A p) (hs : lim a.num ≤ 1000 ∧ lim (a.den : Int) ≤ 1000) (hK : ∀ k, lim (homo (p.drop k) a.num (a.den : Int)) ≤ 648960 ∧ lim ((a.den : Int) ^ (if k = 0 then p.length - 1 else p.length - k)) ≤ 100000) (hT0 : TabAt 0 Lib.deBruijn64tab w) :
    Calls Tryz.prog 29 #[.slice ao len cap, .agg #[.bool na, .slice o1 l1 c1, .slice o2 l2 c2]] w fun e w' => NewRat w w' e (evQ p a) := by
  obtain ⟨W, hW⟩ : ∃ W, W = (w.alloc (.cells #[.bool na, .slice o1 l1 c1, .slice o2 l2 c2] 30)).alloc (.cells #[.bool false, .slice none 0 0, .slice none 0 0] 30) := ⟨_, rfl⟩
  have HW : Hid (Below w.heap.size w W ∧ W.heap.size = w.heap.size + 2 ∧ (W.cell? ⟨w.heap.size, 0, none⟩ = some (.bool na) ∧ W.cell? ⟨w.heap.size, 1, none⟩ = some (.slice o1 l1 c1) ∧ W.cell? ⟨w.heap.size, 2, none⟩ = some (.slice o2 l2 c2)) ∧ (∀ m, W.frozen? ⟨w.heap.size + 1, m, none⟩ = false) ∧ W.cell? ⟨w.heap.size + 1, 0, none⟩ = some (.bool false) ∧ W.cell? ⟨w.heap.size + 1, 1, none⟩ = some (.slice none 0 0) ∧ W.cell? ⟨w.heap.size + 1, 2, none⟩ = some (.slice none 0 0)) := by
    rw [hW]
    exact ⟨((Below.refl _ _).alloc (Nat.le_refl _) _).alloc (by simp) _, by simp, ⟨by simp [go_sem], by simp [go_sem], by simp [go_sem]⟩, fun m => by simp [go_sem], by simp [go_sem], by simp [go_sem], by simp [go_sem]⟩
  have HR : Hid (PolyAt W ao len cap p ∧ RatAt W na o1 l1 c1 o2 l2 c2 a ∧ Lim A p ∧ len = p.length ∧ lim a.num ≤ 1000 ∧ lim (a.den : Int) ≤ 1000 ∧ TabAt 0 Lib.deBruijn64tab W ∧ A ≤ 10000) := ⟨hp.later HW.out.1, ha.later HW.out.1, hlp, hp.hlen, hs.1, hs.2, tab_later hT0 HW.out.1, hA⟩
  have HLL : Hid (∀ k, lim (homo (p.drop k) a.num (a.den : Int)) ≤ 648960 ∧ lim ((a.den : Int) ^ (if k = 0 then p.length - 1 else p.length - k)) ≤ 100000) := hK
  clear hK
  clear hp ha hlp hs hT0 hA
  go_enter Tryz.func29, Tryz.ntmps29
  go_wp2_with (go_at_call 54; rw [← hW]; clear hW; refine (from_any 1 _ (by decide) (by decide)).mono ?_; rintro e w1 ⟨n0, o0, l0, c0, rfl, hs0, ho0, hb1⟩)
  obtain ⟨rs, hrs0⟩ : ∃ r, r = w1.heap.size := ⟨_, rfl⟩
  obtain ⟨rt, hrt0⟩ : ∃ r, r = w1.heap.size + 1 := ⟨_, rfl⟩
  obtain ⟨Y, hY⟩ : ∃ Y, Y = (w1.alloc (.cells #[.bool false, .slice none 0 0] 28)).alloc (.cells #[.bool n0, .slice o0 l0 c0] 28) := ⟨_, rfl⟩
  rw [hs0] at hY
  rw [← hY, ← hrt0, ← hrs0]
  have HY : Hid (Below W.heap.size W Y ∧ rt < Y.heap.size ∧ (Y.cell? ⟨rs, 0, none⟩ = some (.bool false) ∧ Y.cell? ⟨rs, 1, none⟩ = some (.slice none 0 0)) ∧ (Y.cell? ⟨rt, 0, none⟩ = some (.bool (sgB 1)) ∧ Y.cell? ⟨rt, 1, none⟩ = some (.slice o0 l0 c0)) ∧ (∀ m, Y.frozen? ⟨rs, m, none⟩ = false) ∧ (∀ m, Y.frozen? ⟨rt, m, none⟩ = false) ∧ IntAt Y (sgB 1) o0 l0 c0 1) := by
    have hb2 : Below w1.heap.size w1 Y := by rw [hY]; exact ((Below.refl _ _).alloc (Nat.le_refl _) _).alloc (by simp) _
    refine ⟨bnext hb1 hb2, by rw [hY, hrt0]; simp, ?_, ?_, ?_, ?_, (ho0.int rfl).later hb2⟩
    · rw [hY, hrs0]; exact ⟨by simp [go_sem], by simp [go_sem]⟩
    · rw [hY, hrt0]; exact ⟨by simp [go_sem], by simp [go_sem]⟩
    · intro m; rw [hY, hrs0]; simp [go_sem]
    · intro m; rw [hY, hrt0]; simp [go_sem]
  have HRR : Hid (W.heap.size ≤ rs ∧ rt = rs + 1) := ⟨by rw [hrs0]; exact hb1.size, by omega⟩
  clear hY hrs0 hrt0 hs0 ho0 hb1
  go_loopw [7] (fun i wr => ∃ k : Nat, k ≤ len ∧ i = .int .i64 ((k : Int) - 1) ∧ Below W.heap.size W wr ∧ rt < wr.heap.size ∧ ∃ n5 o5 l5 c5 n6 o6 l6 c6, (wr.cell? ⟨rs, 0, none⟩ = some (.bool n5) ∧ wr.cell? ⟨rs, 1, none⟩ = some (.slice o5 l5 c5)) ∧ (wr.cell? ⟨rt, 0, none⟩ = some (.bool n6) ∧ wr.cell? ⟨rt, 1, none⟩ = some (.slice o6 l6 c6)) ∧ (∀ m, wr.frozen? ⟨rs, m, none⟩ = false) ∧ (∀ m, wr.frozen? ⟨rt, m, none⟩ = false) ∧ IntAt wr n5 o5 l5 c5 (homo (p.drop k) a.num (a.den : Int)) ∧ IntAt wr n6 o6 l6 c6 ((a.den : Int) ^ (if k = 0 then p.length - 1 else p.length - k))) (fun i _ => (intOf i + 1).toNat)
  case atStart =>
    refine ⟨len, Nat.le_refl _, rfl, HY.out.1, HY.out.2.1, false, none, 0, 0, sgB 1, o0, l0, c0, HY.out.2.2.1, HY.out.2.2.2.1, HY.out.2.2.2.2.1, HY.out.2.2.2.2.2.1, ?_, ?_⟩
    · rw [HR.out.2.2.2.1, List.drop_length]; exact ⟨rfl, RowAt.nilRow _ _⟩
    · have e : (if len = 0 then p.length - 1 else p.length - len) = 0 := by have := HR.out.2.2.2.1; split <;> omega
      rw [e, Int.pow_zero]; exact HY.out.2.2.2.2.2.2
  case round =>
    obtain ⟨k, hk, rfl, hbel, hrt, n5, o5, l5, c5, n6, o6, l6, c6, ⟨q0, q1⟩, ⟨q2, q3⟩, hfz0, hfz1, hi5, hi6⟩ := hrel
    have HS : Hid (Below W.heap.size W wr) := hbel
    have HRS : Hid (rt < wr.heap.size ∧ rs < wr.heap.size) := ⟨hrt, by have := HRR.out.2; omega⟩
    have HFZ : Hid ((∀ m, wr.frozen? ⟨rs, m, none⟩ = false) ∧ (∀ m, wr.frozen? ⟨rt, m, none⟩ = false)) := ⟨hfz0, hfz1⟩
    have hl5 : l5 ≤ 648960 := by rw [hi5.lim]; exact (HLL.out k).1
    have hl6 : l6 ≤ 100000 := by rw [hi6.lim]; exact (HLL.out k).2
    have HI0 : Hid (IntAt wr n5 o5 l5 c5 (homo (p.drop k) a.num (a.den : Int)) ∧ IntAt wr n6 o6 l6 c6 ((a.den : Int) ^ (if k = 0 then p.length - 1 else p.length - k))) := ⟨hi5, hi6⟩
    clear hi5 hi6 hfz0 hfz1 hrt
    by_cases hk0 : k = 0
    · subst hk0
      have hWs := HW.out.2.1
      obtain ⟨D, hD⟩ : ∃ D : Nat, D = a.den ^ (p.length - 1) := ⟨_, rfl⟩
      have hDI : (D : Int) = (a.den : Int) ^ (p.length - 1) := by rw [hD]; exact Int.natCast_pow _ _
      have hD0 : D ≠ 0 := by rw [hD]; exact Nat.ne_of_gt (Nat.pow_pos (Nat.pos_of_ne_zero a.den_nz))
      have HM : Hid (RowAt wr .u64 o5 l5 c5 (mag (homo p a.num (a.den : Int)).natAbs) ∧ RowAt wr .u64 o6 l6 c6 (mag D) ∧ n5 = sgB (homo p a.num (a.den : Int)) ∧ evQ p a = Rat.normalize (homo p a.num (a.den : Int)) D hD0) := by
        have h1 := HI0.out.1
        have h2 := HI0.out.2
        rw [List.drop_zero] at h1
        rw [if_pos rfl, ← hDI] at h2
        have h3 := h2.row
        rw [Int.natAbs_natCast] at h3
        exact ⟨h1.row, h3, h1.sg, homo_rat p a D hDI hD0⟩
      clear HI0 hD hDI
      have HMD : Hid (mayB false (mag D) = true) := by
        have h := mayB_int (D : Int)
        have e : sgB (D : Int) = false := by simp [sgB]
        rw [e, Int.natAbs_natCast] at h
        exact h
      have HW8 : Hid (∀ V, Below W.heap.size W V → V.cell? ⟨w.heap.size + 1, 0, none⟩ = some (.bool false) ∧ V.cell? ⟨w.heap.size + 1, 1, none⟩ = some (.slice none 0 0) ∧ V.cell? ⟨w.heap.size + 1, 2, none⟩ = some (.slice none 0 0) ∧ ∀ m, V.frozen? ⟨w.heap.size + 1, m, none⟩ = false) := fun V hb => ⟨(hb.cell (p := ⟨w.heap.size + 1, 0, none⟩) (by show w.heap.size + 1 < _; omega)).trans HW.out.2.2.2.2.1, (hb.cell (p := ⟨w.heap.size + 1, 1, none⟩) (by show w.heap.size + 1 < _; omega)).trans HW.out.2.2.2.2.2.1, (hb.cell (p := ⟨w.heap.size + 1, 2, none⟩) (by show w.heap.size + 1 < _; omega)).trans HW.out.2.2.2.2.2.2, fun m => (hb.frozen (p := ⟨w.heap.size + 1, m, none⟩) (by show w.heap.size + 1 < _; omega)).trans (HW.out.2.2.2.1 m)⟩
      have HWs : Hid (W.heap.size = w.heap.size + 2) := hWs
      clear hWs
      have HT9 : Hid (TabAt 0 Lib.deBruijn64tab wr) := tab_later HR.out.2.2.2.2.2.2.1 HS.out
      go_wp2_with (go_at_call 57; refine (make_good n5 o5 o6 l5 c5 l6 c6 (mag (homo p a.num (a.den : Int)).natAbs) (mag D) (homo p a.num (a.den : Int)) D wr HM.out.1 HM.out.2.1 (by omega) (by omega) (by rw [HM.out.2.2.1]; exact mayB_int _) HMD.out ⟨rfl, HM.out.2.2.1⟩ rfl hD0 HT9.out (evQ p a) HM.out.2.2.2).mono ?_; rintro e w9 ⟨n9, o9, l9, c9, p9, m9, k9, rfl, hs9, ho9, hp9, hpt, hb9⟩; have H9 : Hid (n9 = sgB (evQ p a).num ∧ Own wr.heap.size w9 .u64 60 o9 l9 c9 (mag (evQ p a).num.natAbs) ∧ Own wr.heap.size w9 .u64 60 p9 m9 k9 (mag (evQ p a).den) ∧ Parted o9 p9 ∧ Below wr.heap.size wr w9) := ⟨hs9, ho9, hp9, hpt, hb9⟩; clear hs9 ho9 hp9 hpt hb9; have hb8 : Below W.heap.size W w9 := bnext HS.out H9.out.2.2.2.2; have hA9 : Below w9.heap.size w9 (w9.alloc (.cells #[.bool n9, .slice o9 l9 c9, .slice p9 m9 k9] 30)) := (Below.refl _ _).alloc (Nat.le_refl _) _; obtain ⟨s0, s1, s2, s3⟩ := HW8.out _ (bnext hb8 hA9))
      have hWs := HWs.out
      have hwr := HS.out.size
      have h9s := H9.out.2.2.2.2.size
      exact bodyPost_ret (v := .agg #[.bool n9, .slice o9 l9 c9, .slice p9 m9 k9]) (by simp [results, Tryz.results29, go_sem, s0, s1, s2]) rfl
        ⟨_, _, _, _, _, _, _, rfl, H9.out.1, ((H9.out.2.1.later hA9).store3 (r := w.heap.size + 1) (by omega) _ _ _).mono (by omega), ((H9.out.2.2.1.later hA9).store3 (r := w.heap.size + 1) (by omega) _ _ _).mono (by omega), H9.out.2.2.2.1, below_store3 (bnext (bnext HW.out.1 (bnext HS.out H9.out.2.2.2.2)) hA9) (by omega) _ _ _⟩
    · obtain ⟨j, rfl⟩ : ∃ j, k = j + 1 := ⟨k - 1, by omega⟩
      have hki : ((j + 1 : Nat) : Int) - 1 = (j : Int) := by omega
      rw [hki]
      have hjp : j < p.length := by rw [← HR.out.2.2.2.1]; omega
      obtain ⟨b, off, n3, o3, l3, c3, rfl, f0, f1, hi3⟩ := HR.out.1.at (show j < len by omega)
      have KS : Hid (∀ w', Below wr.heap.size wr w' → w'.cell? ⟨w.heap.size, 0, none⟩ = some (.bool na) ∧ w'.cell? ⟨w.heap.size, 1, none⟩ = some (.slice o1 l1 c1) ∧ w'.cell? ⟨b, off + j * 2, none⟩ = some (.bool n3) ∧ w'.cell? ⟨b, off + j * 2 + 1, none⟩ = some (.slice o3 l3 c3) ∧ w'.cell? ⟨rt, 0, none⟩ = some (.bool n6) ∧ w'.cell? ⟨rt, 1, none⟩ = some (.slice o6 l6 c6)) := fun w' hb => by
        have hbW := bnext HS.out hb
        exact ⟨(hbW.cell (p := ⟨w.heap.size, 0, none⟩) (by show w.heap.size < _; have := HW.out.2.1; omega)).trans HW.out.2.2.1.1, (hbW.cell (p := ⟨w.heap.size, 1, none⟩) (by show w.heap.size < _; have := HW.out.2.1; omega)).trans HW.out.2.2.1.2.1, (hbW.cell (p := ⟨b, off + j * 2, none⟩) (cell_lt f0)).trans f0, (hbW.cell (p := ⟨b, off + j * 2 + 1, none⟩) (cell_lt f1)).trans f1, (hb.cell (p := ⟨rt, 0, none⟩) HRS.out.1).trans q2, (hb.cell (p := ⟨rt, 1, none⟩) HRS.out.1).trans q3⟩
      have HNE : Hid (w.heap.size ≠ rs ∧ b ≠ rs ∧ rt ≠ rs) := ⟨by have := HW.out.2.1; have := HRR.out.1; omega, by have := cell_lt f0; have := HRR.out.1; simp only at *; omega, by have := HRR.out.2; omega⟩
      have K2 : Hid (∀ (w' : World) (i : Nat) (x : Value), (w'.cell? ⟨w.heap.size, 0, none⟩ = some (.bool na) ∧ w'.cell? ⟨w.heap.size, 1, none⟩ = some (.slice o1 l1 c1) ∧ w'.cell? ⟨b, off + j * 2, none⟩ = some (.bool n3) ∧ w'.cell? ⟨b, off + j * 2 + 1, none⟩ = some (.slice o3 l3 c3) ∧ w'.cell? ⟨rt, 0, none⟩ = some (.bool n6) ∧ w'.cell? ⟨rt, 1, none⟩ = some (.slice o6 l6 c6)) → ((w'.setCell ⟨rs, i, none⟩ x).cell? ⟨w.heap.size, 0, none⟩ = some (.bool na) ∧ (w'.setCell ⟨rs, i, none⟩ x).cell? ⟨w.heap.size, 1, none⟩ = some (.slice o1 l1 c1) ∧ (w'.setCell ⟨rs, i, none⟩ x).cell? ⟨b, off + j * 2, none⟩ = some (.bool n3) ∧ (w'.setCell ⟨rs, i, none⟩ x).cell? ⟨b, off + j * 2 + 1, none⟩ = some (.slice o3 l3 c3) ∧ (w'.setCell ⟨rs, i, none⟩ x).cell? ⟨rt, 0, none⟩ = some (.bool n6) ∧ (w'.setCell ⟨rs, i, none⟩ x).cell? ⟨rt, 1, none⟩ = some (.slice o6 l6 c6))) := fun w' i x h => ⟨by rw [cell_off HNE.out.1]; exact h.1, by rw [cell_off HNE.out.1]; exact h.2.1, by rw [cell_off HNE.out.2.1]; exact h.2.2.1, by rw [cell_off HNE.out.2.1]; exact h.2.2.2.1, by rw [cell_off HNE.out.2.2]; exact h.2.2.2.2.1, by rw [cell_off HNE.out.2.2]; exact h.2.2.2.2.2⟩
      have HX : Hid (∀ V, Below wr.heap.size wr V → V.cell? ⟨rs, 0, none⟩ = some (.bool n5) ∧ V.cell? ⟨rs, 1, none⟩ = some (.slice o5 l5 c5)) := fun V hb => ⟨(hb.cell (p := ⟨rs, 0, none⟩) HRS.out.2).trans q0, (hb.cell (p := ⟨rs, 1, none⟩) HRS.out.2).trans q1⟩
      have HI : Hid (IntAt wr n5 o5 l5 c5 (homo (p.drop (j + 1)) a.num (a.den : Int)) ∧ IntAt wr na o1 l1 c1 a.num ∧ IntAt wr n3 o3 l3 c3 (dig p j) ∧ IntAt wr n6 o6 l6 c6 ((a.den : Int) ^ (p.length - (j + 1)))) := ⟨HI0.out.1, (HR.out.2.1.later HS.out).num, hi3.later HS.out, by have h := HI0.out.2; rw [if_neg (by omega)] at h; exact h⟩
      have hl3 : l3 ≤ 10000 := by rw [hi3.lim]; have := HR.out.2.2.1 j; have := HR.out.2.2.2.2.2.2.2; omega
      have hl1 : l1 ≤ 1000 := by rw [HI.out.2.1.lim]; exact HR.out.2.2.2.2.1
      have HL : Hid (True ∧ True ∧ lim (homo (p.drop (j + 1)) a.num (a.den : Int) * a.num) ≤ 1000000 ∧ lim (dig p j * (a.den : Int) ^ (p.length - (j + 1))) ≤ 1000000) := by
        have h1 := lim_mul (homo (p.drop (j + 1)) a.num (a.den : Int)) a.num
        have h2 := lim_mul (dig p j) ((a.den : Int) ^ (p.length - (j + 1)))
        have h3 := HI.out.1.lim
        have h4 := HI.out.2.1.lim
        have h5 := HI.out.2.2.1.lim
        have h6 := HI.out.2.2.2.lim
        exact ⟨trivial, trivial, by omega, by omega⟩
      have HV : Hid (homo (p.drop (j + 1)) a.num (a.den : Int) * a.num + dig p j * (a.den : Int) ^ (p.length - (j + 1)) = homo (p.drop j) a.num (a.den : Int)) := (homo_drop p a.num (a.den : Int) j hjp).symm
      have HDEN : Hid (RowAt wr .u64 o2 l2 c2 (mag a.den) ∧ l2 ≤ 1000 ∧ ∀ V, Below W.heap.size W V → V.cell? ⟨w.heap.size, 2, none⟩ = some (.slice o2 l2 c2)) := ⟨(HR.out.2.1.later HS.out).den, by have h := (row_int (HR.out.2.1.later HS.out).den).lim; have := HR.out.2.2.2.2.2.1; omega, fun V hb => (hb.cell (p := ⟨w.heap.size, 2, none⟩) (by show w.heap.size < _; have := HW.out.2.1; omega)).trans HW.out.2.2.1.2.2⟩
      have HJ : Hid (j + 1 ≤ len ∧ j < p.length) := ⟨hk, hjp⟩
      have z1 : (0 : Int) ≤ (j : Int) := by omega
      have z2 : (j : Int) < (len : Int) := by omega
      clear hi3 f0 f1 hk0 hki hjp HI0 hbel
      go_wp2
      refine wp_region_noPanic ?_
      refine wp_region_held_drew (S := fun w' => (w'.cell? ⟨w.heap.size, 0, none⟩ = some (.bool na) ∧ w'.cell? ⟨w.heap.size, 1, none⟩ = some (.slice o1 l1 c1) ∧ w'.cell? ⟨b, off + j * 2, none⟩ = some (.bool n3) ∧ w'.cell? ⟨b, off + j * 2 + 1, none⟩ = some (.slice o3 l3 c3) ∧ w'.cell? ⟨rt, 0, none⟩ = some (.bool n6) ∧ w'.cell? ⟨rt, 1, none⟩ = some (.slice o6 l6 c6))) (by kernel_rfl) (by (try dsimp only); exact KS.out _ (Below.refl _ _).drew) (fun hHeld => ?_)
      refine wpAnyH_take (i := 1) (oi := Oper.mk (some 20) _ _ _ _ _) (v := ?_) rfl (by decide +kernel) (by decide +kernel) (by decide +kernel) (fun _ _ _ h => h) (Or.inl ⟨by rfl, ?_⟩) (by assumption) ?_
      rotate_left
      · (intro w hSw; (try dsimp only at hSw); go_simp <;> (try with_reducible rfl))
      (try simp only [Act.put, List.setIfInBounds_toArray, List.set_cons_zero, List.set_cons_succ])
      refine wpAnyH_take (i := 2) (oi := Oper.mk (some 21) _ _ _ _ _) (v := ?_) rfl (by decide +kernel) (by decide +kernel) (by decide +kernel) (fun _ _ _ h => h) (Or.inl ⟨by rfl, ?_⟩) (by assumption) ?_
      rotate_left
      · (intro w hSw; (try dsimp only at hSw); go_simp <;> (try with_reducible rfl))
      (try simp only [Act.put, List.setIfInBounds_toArray, List.set_cons_zero, List.set_cons_succ])
      refine wpAnyH_take (i := 4) (oi := Oper.mk (some 23) _ _ _ _ _) (v := ?_) rfl (by decide +kernel) (by decide +kernel) (by decide +kernel) (fun _ _ _ h => h) (Or.inl ⟨by rfl, ?_⟩) (by assumption) ?_
      rotate_left
      · (intro w hSw; (try dsimp only at hSw); go_simp <;> (try with_reducible rfl))
      (try simp only [Act.put, List.setIfInBounds_toArray, List.set_cons_zero, List.set_cons_succ])
      refine wpAnyH_take (i := 5) (oi := Oper.mk (some 24) _ _ _ _ _) (v := ?_) rfl (by decide +kernel) (by decide +kernel) (by decide +kernel) (fun _ _ _ h => h) (Or.inl ⟨by rfl, ?_⟩) (by assumption) ?_
      rotate_left
      · (intro w hSw; (try dsimp only at hSw); go_simp <;> (try with_reducible rfl))
      (try simp only [Act.put, List.setIfInBounds_toArray, List.set_cons_zero, List.set_cons_succ])
      refine wpAnyH_take (i := 6) (oi := Oper.mk (some 25) _ _ _ _ _) (v := ?_) rfl (by decide +kernel) (by decide +kernel) (by decide +kernel) (fun _ _ _ h => h) (Or.inl ⟨by rfl, ?_⟩) (by assumption) ?_
      rotate_left
      · (intro w hSw; (try dsimp only at hSw); go_simp <;> (try with_reducible rfl))
      (try simp only [Act.put, List.setIfInBounds_toArray, List.set_cons_zero, List.set_cons_succ])
      refine wpAnyH_take (i := 7) (oi := Oper.mk (some 26) _ _ _ _ _) (v := ?_) rfl (by decide +kernel) (by decide +kernel) (by decide +kernel) (fun _ _ _ h => h) (Or.inl ⟨by rfl, ?_⟩) (by assumption) ?_
      rotate_left
      · (intro w hSw; (try dsimp only at hSw); go_simp <;> (try with_reducible rfl))
      (try simp only [Act.put, List.setIfInBounds_toArray, List.set_cons_zero, List.set_cons_succ])
      refine wpAnyH_take (i := 8) (oi := Oper.mk (some 27) _ _ _ _ _) (v := ?_) rfl (by decide +kernel) (by decide +kernel) (by decide +kernel) (fun _ _ _ h => h) (Or.inl ⟨by rfl, ?_⟩) (by assumption) ?_
      rotate_left
      · (intro w hSw; (try dsimp only at hSw); go_simp <;> (try with_reducible rfl))
      (try simp only [Act.put, List.setIfInBounds_toArray, List.set_cons_zero, List.set_cons_succ])
      refine wpAnyH_ready (rs := [0]) (by decide +kernel) (by simp) ?_
      refine AllReadyH.cons (o := Oper.mk (some 19) _ _ _ _ _) rfl (fun K hK => ?_) AllReadyH.nil
      go_simp
      clear hHeld
      refine hK.out _ _ (by (try dsimp only); exact KS.out _ (Below.refl _ _).drew) (fun hHeld => ?_)
      clear hK K
      (try simp only [Act.put, List.setIfInBounds_toArray, List.set_cons_zero, List.set_cons_succ])
      refine wpAnyH_ready (rs := [3]) (by decide +kernel) (by simp) ?_
      refine AllReadyH.cons (o := Oper.mk (some 22) _ _ _ _ _) rfl (fun K hK => ?_) AllReadyH.nil
      go_simp
      (go_at_call 56; (fail_if_success (have _g := hb4)); refine (pltimes_any n5 na o5 o1 l5 c5 l1 c1 (homo (p.drop (j + 1)) a.num (a.den : Int)) a.num _ (HI.out.1.later (Below.refl _ _).drew) (HI.out.2.1.later (Below.refl _ _).drew) (by omega) (by omega)).mono ?_; rintro e w4 ⟨n7, o7, l7, c7, rfl, hs7, ho7, hb'⟩; have hb4 : Below wr.heap.size wr w4 := bnext (Below.refl _ _).drew hb'; have H7 : Hid (IntAt w4 n7 o7 l7 c7 (homo (p.drop (j + 1)) a.num (a.den : Int) * a.num)) := ho7.int hs7; have hl7 : l7 ≤ 1000000 := (by rw [H7.out.lim]; exact HL.out.2.2.1); clear hs7 ho7 hb')
      (try go_wp2_with fail)
      clear hHeld
      refine hK.out _ _ (by (try dsimp only); exact KS.out _ hb4) (fun hHeld => ?_)
      clear hK K
      (try simp only [Act.put, List.setIfInBounds_toArray, List.set_cons_zero, List.set_cons_succ])
      refine wpAnyH_ready (rs := [9]) (by decide +kernel) (by simp) ?_
      refine AllReadyH.cons (o := Oper.mk (some 28) _ _ _ _ _) rfl (fun K hK => ?_) AllReadyH.nil
      go_simp
      (go_at_call 56; have _g := hb4; refine (pltimes_any n3 n6 o3 o6 l3 c3 l6 c6 (dig p j) ((a.den : Int) ^ (p.length - (j + 1))) _ (HI.out.2.2.1.later hb4) (HI.out.2.2.2.later hb4) (by omega) (by omega)).mono ?_; rintro e w5 ⟨n8, o8, l8, c8, rfl, hs8, ho8, hb'⟩; have hb5 : Below wr.heap.size wr w5 := bnext hb4 hb'; have H8 : Hid (IntAt w5 n8 o8 l8 c8 (dig p j * (a.den : Int) ^ (p.length - (j + 1))) ∧ IntAt w5 n7 o7 l7 c7 (homo (p.drop (j + 1)) a.num (a.den : Int) * a.num)) := ⟨ho8.int hs8, H7.out.later hb'⟩; have hl8 : l8 ≤ 1000000 := (by rw [H8.out.1.lim]; exact HL.out.2.2.2); clear hs8 ho8 hb')
      (try go_wp2_with fail)
      clear hHeld
      refine hK.out _ _ (by (try dsimp only); exact KS.out _ hb5) (fun hHeld => ?_)
      clear hK K
      (try simp only [Act.put, List.setIfInBounds_toArray, List.set_cons_zero, List.set_cons_succ])
      refine wpAnyH_ready (rs := [10]) (by decide +kernel) (by simp) ?_
      refine AllReadyH.cons (o := Oper.mk (some 29) _ _ _ _ _) rfl (fun K hK => ?_) AllReadyH.nil
      go_simp
      (go_at_call 55; refine (plplus_any n7 n8 o7 o8 l7 c7 l8 c8 (homo (p.drop (j + 1)) a.num (a.den : Int) * a.num) (dig p j * (a.den : Int) ^ (p.length - (j + 1))) _ H8.out.2 H8.out.1 (by omega) (by omega)).mono ?_; rw [HV.out]; rintro e w6 ⟨n9, o9, l9, c9, rfl, hs9, ho9, hb'⟩; have hb6 : Below wr.heap.size wr w6 := bnext hb5 hb'; have H9 : Hid (IntAt w6 n9 o9 l9 c9 (homo (p.drop j) a.num (a.den : Int))) := ho9.int hs9; clear hs9 ho9 hb'; obtain ⟨r0, r1⟩ := HX.out _ hb6; have hfz : ∀ m, w6.frozen? ⟨rs, m, none⟩ = false := fun m => (hb6.frozen (p := ⟨rs, m, none⟩) HRS.out.2).trans (HFZ.out.1 m))
      (try go_wp2_with fail)
      clear hHeld
      refine hK.out _ _ (by (try dsimp only); exact KS.out _ hb6) (fun hHeld => ?_)
      clear hK K
      (try simp only [Act.put, List.setIfInBounds_toArray, List.set_cons_zero, List.set_cons_succ])
      refine wpAnyH_ready (rs := [11]) (by decide +kernel) (by simp) ?_
      refine AllReadyH.cons (o := Oper.mk none _ _ _ _ _) rfl (fun K hK => ?_) AllReadyH.nil
      go_simp
      clear hHeld
      refine hK.out _ _ (by (try dsimp only); exact K2.out _ _ _ (K2.out _ _ _ (KS.out _ hb6))) (fun hHeld => ?_)
      clear hK K
      (try simp only [Act.put, List.setIfInBounds_toArray, List.set_cons_zero, List.set_cons_succ])
      refine wpAnyH_done (by decide +kernel) ?_ _
      refine NoPanic.normal ?_
      obtain ⟨V, hV⟩ : ∃ V, V = (w6.setCell ⟨rs, 0, none⟩ (.bool n9)).setCell ⟨rs, 1, none⟩ (.slice o9 l9 c9) := ⟨_, rfl⟩
      rw [← hV]
      have HVB : Hid (Below W.heap.size W V ∧ rt < V.heap.size ∧ (V.cell? ⟨rs, 0, none⟩ = some (.bool n9) ∧ V.cell? ⟨rs, 1, none⟩ = some (.slice o9 l9 c9)) ∧ (V.cell? ⟨rt, 0, none⟩ = some (.bool n6) ∧ V.cell? ⟨rt, 1, none⟩ = some (.slice o6 l6 c6)) ∧ (∀ m, V.frozen? ⟨rs, m, none⟩ = false) ∧ (∀ m, V.frozen? ⟨rt, m, none⟩ = false) ∧ IntAt V n9 o9 l9 c9 (homo (p.drop j) a.num (a.den : Int)) ∧ IntAt V n6 o6 l6 c6 ((a.den : Int) ^ (p.length - (j + 1))) ∧ RowAt V .u64 o2 l2 c2 (mag a.den)) := by
        have hk9 := K2.out _ 1 (.slice o9 l9 c9) (K2.out _ 0 (.bool n9) (KS.out _ hb6))
        have hb7 : Below W.heap.size W V := by rw [hV]; exact ((bnext HS.out hb6).setCell (p := ⟨rs, 0, none⟩) HRR.out.1 _).setCell (p := ⟨rs, 1, none⟩) HRR.out.1 _
        have e1 : (w6.setCell ⟨rs, 0, none⟩ (.bool n9)).cell? ⟨rs, 1, none⟩ = some (.slice o5 l5 c5) := by simp [go_sem, r0, r1]
        refine ⟨hb7, by rw [hV]; have := hb6.size; have := HRS.out.1; simp; omega, ?_, ?_, ?_, ?_, ?_, ?_, ?_⟩
        · rw [hV]; exact ⟨by simp [go_sem, r0, r1], by simp [go_sem, r0, r1]⟩
        · rw [hV]; exact ⟨hk9.2.2.2.2.1, hk9.2.2.2.2.2⟩
        · intro m; rw [hV, soft_far, soft_far]; exact hfz m
        · intro m; rw [hV, soft_far, soft_far]; exact (hb6.frozen (p := ⟨rt, m, none⟩) HRS.out.1).trans (HFZ.out.2 m)
        · rw [hV]; exact (H9.out.cellKept r0 (fun z e => by cases e) _).cellKept e1 (fun z e => by cases e) _
        · rw [hV]; exact ((HI.out.2.2.2.later hb6).cellKept r0 (fun z e => by cases e) _).cellKept e1 (fun z e => by cases e) _
        · rw [hV]; exact ((HDEN.out.1.later hb6).cellKept r0 (fun z e => by cases e) _).cellKept e1 (fun z e => by cases e) _
      clear hV hHeld r0 r1 hfz H9 H8 H7 hb4 hb5 hb6 q0 q1 q2 q3
      by_cases hj : 0 < j
      · have hjI : (0 : Int) < (j : Int) := by omega
        have t0 := HVB.out.2.2.2.1.1
        have t1 := HVB.out.2.2.2.1.2
        have t2 := HDEN.out.2.2 _ HVB.out.1
        have hl2 := HDEN.out.2.1
        go_wp2_with (go_at_call 56; refine (pltimes_any n6 false o6 o2 l6 c6 l2 c2 ((a.den : Int) ^ (p.length - (j + 1))) (a.den : Int) V HVB.out.2.2.2.2.2.2.2.1 (row_int HVB.out.2.2.2.2.2.2.2.2) (by omega) (by omega)).mono ?_; rintro e w8 ⟨n8, o8, l8, c8, rfl, hs8, ho8, hb8⟩; have H8 : Hid (IntAt w8 n8 o8 l8 c8 ((a.den : Int) ^ (p.length - j)) ∧ Below V.heap.size V w8) := ⟨by have e : (a.den : Int) ^ (p.length - (j + 1)) * (a.den : Int) = (a.den : Int) ^ (p.length - j) := (by rw [← Int.pow_succ]; congr 1; have := HJ.out.2; omega); rw [← e]; exact ho8.int hs8, hb8⟩; clear hs8 ho8; have y0 := (hb8.cell (p := ⟨rt, 0, none⟩) HVB.out.2.1).trans HVB.out.2.2.2.1.1; have y1 := (hb8.cell (p := ⟨rt, 1, none⟩) HVB.out.2.1).trans HVB.out.2.2.2.1.2; have y3 : ∀ m, w8.frozen? ⟨rt, m, none⟩ = false := fun m => (hb8.frozen (p := ⟨rt, m, none⟩) HVB.out.2.1).trans (HVB.out.2.2.2.2.2.1 m); clear hb8)
        go_roundw
        case rel =>
          have e1 : (w8.setCell ⟨rt, 0, none⟩ (.bool n8)).cell? ⟨rt, 1, none⟩ = some (.slice o6 l6 c6) := by simp [go_sem, y0, y1]
          have hrsv : rs < V.heap.size := by have := HRR.out.2; have := HVB.out.2.1; omega
          have hne : rs ≠ rt := fun e => HNE.out.2.2 e.symm
          refine ⟨j, by have := HJ.out.1; omega, by go_num, ((bnext HVB.out.1 H8.out.2).setCell (p := ⟨rt, 0, none⟩) (by show _ ≤ rt; have := HRR.out; omega) _).setCell (p := ⟨rt, 1, none⟩) (by show _ ≤ rt; have := HRR.out; omega) _, by (have := H8.out.2.size; have := HVB.out.2.1; simp; omega), n9, o9, l9, c9, n8, o8, l8, c8, ?_, ?_, ?_, ?_, ?_, ?_⟩
          · exact ⟨by rw [cell_off hne, cell_off hne]; exact (H8.out.2.cell (p := ⟨rs, 0, none⟩) hrsv).trans HVB.out.2.2.1.1, by rw [cell_off hne, cell_off hne]; exact (H8.out.2.cell (p := ⟨rs, 1, none⟩) hrsv).trans HVB.out.2.2.1.2⟩
          · exact ⟨by simp [go_sem, y0, y1], by simp [go_sem, y0, y1]⟩
          · intro m; rw [soft_far, soft_far]; exact (H8.out.2.frozen (p := ⟨rs, m, none⟩) hrsv).trans (HVB.out.2.2.2.2.1 m)
          · intro m; rw [soft_far, soft_far]; exact y3 m
          · exact ((HVB.out.2.2.2.2.2.2.1.later H8.out.2).cellKept y0 (fun z e => by cases e) _).cellKept e1 (fun z e => by cases e) _
          · rw [if_neg (by omega)]; exact (H8.out.1.cellKept y0 (fun z e => by cases e) _).cellKept e1 (fun z e => by cases e) _
        case measure => simp [intOf]
      · have hjI : ¬ (0 : Int) < (j : Int) := by omega
        go_wp2
        go_roundw
        case rel =>
          refine ⟨j, by have := HJ.out.1; omega, by go_num, HVB.out.1, HVB.out.2.1, n9, o9, l9, c9, n6, o6, l6, c6, HVB.out.2.2.1, HVB.out.2.2.2.1, HVB.out.2.2.2.2.1, HVB.out.2.2.2.2.2.1, HVB.out.2.2.2.2.2.2.1, ?_⟩
          rw [if_pos (by omega)]
          have h := HVB.out.2.2.2.2.2.2.2.1
          have e : p.length - (j + 1) = p.length - 1 := by omega
          rw [e] at h; exact h
        case measure => simp [intOf]
set_option maxRecDepth 100000 in
set_option maxHeartbeats 4000000 in
theorem geval_gen (ao : Option Addr) (len cap A : Nat) (p : List Int) (na : Bool) (o1 o2 : Option Addr) (l1 c1 l2 c2 : Nat) (a : Rat) (w : World) (hp : GP w ao len cap A p) (hA : A ≤ 10000) (ha : RatAt w na o1 l1 c1 o2 l2 c2 a) (hs : lim a.num ≤ 1000 ∧ lim (a.den : Int) ≤ 1000) (hK : ∀ k, lim (homo (p.drop k) a.num (a.den : Int)) ≤ 648960 ∧ lim ((a.den : Int) ^ (if k = 0 then p.length - 1 else p.length - k)) ≤ 100000) (hT0 : TabAt 0 Lib.deBruijn64tab w) :
    Calls Tryz.prog 9 #[.slice ao len cap, .agg #[.bool na, .slice o1 l1 c1, .slice o2 l2 c2]] w fun e w' => NewRatErr w w' e (evQ p a) := by
  obtain ⟨W, hT⟩ := ROne2.mk' w na o1 o2 l1 c1 l2 c2
  have hsz := hT.size
  have hl1 : l1 ≤ 1000 := by rw [ha.num.lim]; exact hs.1
  have hl2 : l2 ≤ 1000 := by have h := (row_int ha.den).lim; have := hs.2; omega
  have h1 := (hp.later hT.below).check
  have h2 : ∀ V, Below W.heap.size W V → Calls Tryz.prog 28 #[.agg #[.bool na, .slice o1 l1 c1, .slice o2 l2 c2]] V fun e w' => e = .returned (.int .i64 0) ∧ Below V.heap.size V w' := fun V hb => rcheck_good na o1 o2 l1 c1 l2 c2 a V ((ha.later hT.below).later hb) (by omega) (by omega) (tab_later (tab_later hT0 hT.below) hb)
  have h3 : ∀ V, Below W.heap.size W V → Calls Tryz.prog 29 #[.slice ao len cap, .agg #[.bool na, .slice o1 l1 c1, .slice o2 l2 c2]] V fun e w' => NewRat V w' e (evQ p a) := fun V hb => value_gen ao len cap A p na o1 o2 l1 c1 l2 c2 a V ((hp.later hT.below).later hb).at' ((ha.later hT.below).later hb) (by have := hp.short; omega) hA hp.lims hs hK (tab_later (tab_later hT0 hT.below) hb)
  clear hp ha hs hT0 hA hK
  obtain ⟨p0, p1, p2⟩ := hT.a
  go_enter Tryz.func9, Tryz.ntmps9
  go_wp2_with (first
    | (go_at_call 29; refine (h3 _ hb2).mono ?_; rintro e w3 ⟨n9, o9, l9, c9, p9, m9, k9, rfl, hs9, ho9, hp9, hpt, hb3⟩; have HA : Hid (n9 = sgB (evQ p a).num ∧ Own W.heap.size w3 .u64 60 o9 l9 c9 (mag (evQ p a).num.natAbs) ∧ Own W.heap.size w3 .u64 60 p9 m9 k9 (mag (evQ p a).den) ∧ Parted o9 p9 ∧ Below W.heap.size W w3) := ⟨hs9, ho9.mono hb2.size, hp9.mono hb2.size, hpt, bnext hb2 hb3⟩; clear hs9 ho9 hp9 hpt hb3; obtain ⟨g5, g2, g3, g4⟩ := hT.r.later HA.out.2.2.2.2 (by omega))
    | (go_at_call 27; rw [← hT.eq]; refine h1.mono ?_; rintro e w1 ⟨rfl, hb1⟩; clear p0 p1 p2; obtain ⟨p0, p1, p2⟩ := hT.a.later hb1 (by omega))
    | (go_at_call 28; refine (h2 _ hb1).mono ?_; rintro e w2 ⟨rfl, hb2'⟩; have hb2 := bnext hb1 hb2'; clear hb2' p0 p1 p2; obtain ⟨p0, p1, p2⟩ := hT.a.later hb2 (by omega)))
  exact bodyPost_ret (v := .tuple #[.agg #[.bool n9, .slice o9 l9 c9, .slice p9 m9 k9], .int .i64 0]) (by simp [results, Tryz.results9, go_sem, g2, g3, g4]) rfl
    ⟨_, _, _, _, _, _, _, rfl, HA.out.1, (HA.out.2.1.store3 (by omega) _ _ _).mono (by omega), (HA.out.2.2.1.store3 (by omega) _ _ _).mono (by omega), HA.out.2.2.2.1, below_store3 (bnext hT.below HA.out.2.2.2.2) (by omega) _ _ _⟩
end Go.Proofs.YthjkdnlbdhhmbaaGreatDoor
/-
  A polynomial's values at numbers of an interval lie in its interval over it; how long all that is: in plain.
-/
namespace Go.Proofs.YthjkdnlbdhhmbaaGreatDoor
open Go.RowKit
set_option linter.unusedVariables false
set_option linter.unusedSimpArgs false
/-- the ends over one denominator -/
def sLo (a b : Rat) : Int := a.num * ((b.den : Int) / ((Nat.gcd a.den b.den : Nat) : Int))
def sHi (a b : Rat) : Int := b.num * ((a.den : Int) / ((Nat.gcd a.den b.den : Nat) : Int))
def sDn (a b : Rat) : Int := (a.den : Int) * ((b.den : Int) / ((Nat.gcd a.den b.den : Nat) : Int))
/-- the value's ends -/
def vLo (p : List Int) (a b : Rat) : Rat := mkRat (spanI p (sLo a b) (sHi a b) (sDn a b)).1 ((sDn a b).natAbs ^ (p.length - 1))
def vHi (p : List Int) (a b : Rat) : Rat := mkRat (spanI p (sLo a b) (sHi a b) (sDn a b)).2 ((sDn a b).natAbs ^ (p.length - 1))
theorem num_den (a : Rat) : a * ((a.den : Int) : Rat) = (a.num : Rat) := by
  have hd0 : ((a.den : Int) : Rat) ≠ 0 := by
    intro h
    have := a.den_nz
    have h2 : (a.den : Int) = 0 := by exact_mod_cast h
    omega
  have h1 : (a.num : Rat) / ((a.den : Nat) : Rat) = a := by rw [← Rat.mkRat_eq_div, Rat.mkRat_self]
  have h2 : ((a.den : Nat) : Rat) = ((a.den : Int) : Rat) := by norm_cast
  have h3 : a = (a.num : Rat) * ((a.den : Int) : Rat)⁻¹ := by rw [← h2, ← Rat.div_def]; exact h1.symm
  have h4 := congrArg (· * ((a.den : Int) : Rat)) h3
  simp only [Rat.mul_assoc, Rat.inv_mul_cancel _ hd0, Rat.mul_one] at h4
  exact h4
theorem gcd_pos (a b : Rat) : 0 < Nat.gcd a.den b.den := Nat.gcd_pos_of_pos_left _ (Nat.pos_of_ne_zero a.den_nz)
theorem sDn_pos (a b : Rat) : 0 < sDn a b := by
  have hq : 0 < b.den / Nat.gcd a.den b.den := Nat.div_pos (Nat.le_of_dvd (Nat.pos_of_ne_zero b.den_nz) (Nat.gcd_dvd_right _ _)) (gcd_pos a b)
  have hq2 : (0 : Int) < (b.den : Int) / ((Nat.gcd a.den b.den : Nat) : Int) := by
    show (0 : Int) < ((b.den / Nat.gcd a.den b.den : Nat) : Int)
    omega
  have hq3 : (0 : Int) < (a.den : Int) := by have := Nat.pos_of_ne_zero a.den_nz; omega
  exact Int.mul_pos hq3 hq2
theorem lo_over (a b : Rat) : a * (sDn a b : Rat) = (sLo a b : Rat) := by
  unfold sDn sLo
  rw [Rat.intCast_mul, Rat.intCast_mul, ← Rat.mul_assoc, num_den]
theorem sDn_other (a b : Rat) : sDn a b = (b.den : Int) * ((a.den : Int) / ((Nat.gcd a.den b.den : Nat) : Int)) := by
  have h1 : a.den * (b.den / Nat.gcd a.den b.den) = b.den * (a.den / Nat.gcd a.den b.den) := by
    rw [← Nat.mul_div_assoc _ (Nat.gcd_dvd_right _ _), ← Nat.mul_div_assoc _ (Nat.gcd_dvd_left _ _), Nat.mul_comm]
  unfold sDn
  have h2 := congrArg (fun n : Nat => (n : Int)) h1
  simpa using h2
theorem hi_over (a b : Rat) : b * (sDn a b : Rat) = (sHi a b : Rat) := by
  rw [sDn_other]
  unfold sHi
  rw [Rat.intCast_mul, Rat.intCast_mul, ← Rat.mul_assoc, num_den]
theorem castpos {d : Int} (h : 0 < d) : (0 : Rat) < (d : Rat) := by exact_mod_cast h
theorem le_of_mul {a b d : Rat} (hd : 0 < d) (h : a * d ≤ b * d) : a ≤ b := Rat.le_of_mul_le_mul_right h hd
theorem mul_le {a b d : Rat} (hd : 0 < d) (h : a ≤ b) : a * d ≤ b * d := Rat.mul_le_mul_of_nonneg_right h (Rat.le_of_lt hd)
theorem pow_posQ {d : Int} (hd : 0 < d) (n : Nat) : (0 : Rat) < (d : Rat) ^ n := by
  have h : (0 : Int) < d ^ n := Int.pow_pos hd
  have h2 : ((0 : Int) : Rat) < ((d ^ n : Int) : Rat) := by exact_mod_cast h
  rw [Rat.intCast_pow] at h2
  exact h2
theorem mk_over (n : Int) {d : Int} (hd : 0 < d) (k : Nat) : mkRat n (d.natAbs ^ k) * ((d : Rat) ^ k) = (n : Rat) := by
  have h1 : ((d.natAbs ^ k : Nat) : Rat) = (d : Rat) ^ k := by
    have e : ((d.natAbs ^ k : Nat) : Int) = d ^ k := by rw [Int.natCast_pow]; congr 1; omega
    have e2 : (((d.natAbs ^ k : Nat) : Int) : Rat) = ((d ^ k : Int) : Rat) := by rw [e]
    rw [Rat.intCast_pow] at e2
    exact_mod_cast e2
  rw [Rat.mkRat_eq_div, h1, Rat.div_def, Rat.mul_assoc, Rat.inv_mul_cancel _ (Rat.ne_of_gt (pow_posQ hd k)), Rat.mul_one]
theorem v_in (p : List Int) {a b x : Rat} (h : hasQ a b x = true) : hasQ (vLo p a b) (vHi p a b) (evQ p x) = true := by
  rw [hasQ_iff] at *
  have hd := sDn_pos a b
  have hdq := castpos hd
  have hy1 : (sLo a b : Rat) ≤ x * (sDn a b : Rat) := by rw [← lo_over]; exact mul_le hdq h.1
  have hy2 : x * (sDn a b : Rat) ≤ (sHi a b : Rat) := by rw [← hi_over]; exact mul_le hdq h.2
  have hin := homoQ_in p (sLo a b) (sHi a b) (sDn a b) _ hy1 hy2
  have hv := homoQ_val p (x * (sDn a b : Rat)) (sDn a b) x rfl
  have hpos := pow_posQ hd (p.length - 1)
  have key : evQ p x * (sDn a b : Rat) ^ (p.length - 1) = homoQ p (x * (sDn a b : Rat)) (sDn a b) := by
    cases p with
    | nil => simp [evQ, homoQ, Rat.zero_mul]
    | cons c l =>
      have e1 : (sDn a b : Rat) ^ (c :: l).length = (sDn a b : Rat) ^ ((c :: l).length - 1) * (sDn a b : Rat) := by rw [← Rat.pow_succ]; rfl
      rw [e1, ← Rat.mul_assoc] at hv
      have h5 := congrArg (· * ((sDn a b : Rat))⁻¹) hv
      simp only [Rat.mul_assoc, Rat.mul_inv_cancel _ (Rat.ne_of_gt hdq), Rat.mul_one] at h5
      exact h5.symm
  refine ⟨le_of_mul hpos ?_, le_of_mul hpos ?_⟩
  · unfold vLo; rw [mk_over _ hd, key]; exact hin.1
  · unfold vHi; rw [mk_over _ hd, key]; exact hin.2
theorem v_le (p : List Int) {a b : Rat} (h : cmpQ a b ≤ 0) : cmpQ (vLo p a b) (vHi p a b) ≤ 0 := by
  have h1 := v_in p (hasQ_self h).1
  rw [hasQ_iff] at h1
  exact cmpQ_le.2 (Rat.le_trans h1.1 h1.2)
theorem s_lims {a b : Rat} (ha : Sz a 2) (hb : Sz b 2) : lim (sLo a b) ≤ 4 ∧ lim (sHi a b) ≤ 4 ∧ lim (sDn a b) ≤ 4 := by
  have e1 : lim ((a.den : Int) / ((Nat.gcd a.den b.den : Nat) : Int)) ≤ 2 := by
    show (mag (((a.den / Nat.gcd a.den b.den : Nat) : Int)).natAbs).length ≤ 2
    rw [Int.natAbs_natCast]
    exact Nat.le_trans (mag_len_mono (Nat.div_le_self a.den _)) ha.2
  have e2 : lim ((b.den : Int) / ((Nat.gcd a.den b.den : Nat) : Int)) ≤ 2 := by
    show (mag (((b.den / Nat.gcd a.den b.den : Nat) : Int)).natAbs).length ≤ 2
    rw [Int.natAbs_natCast]
    exact Nat.le_trans (mag_len_mono (Nat.div_le_self b.den _)) hb.2
  have e3 : lim a.num ≤ 2 := ha.1
  have e4 : lim b.num ≤ 2 := hb.1
  have e5 : lim (a.den : Int) ≤ 2 := ha.2
  have h1 := lim_mul a.num ((b.den : Int) / ((Nat.gcd a.den b.den : Nat) : Int))
  have h2 := lim_mul b.num ((a.den : Int) / ((Nat.gcd a.den b.den : Nat) : Int))
  have h3 := lim_mul (a.den : Int) ((b.den : Int) / ((Nat.gcd a.den b.den : Nat) : Int))
  unfold sLo sHi sDn
  exact ⟨by omega, by omega, by omega⟩
theorem mk_sz {n : Int} {D K : Nat} (h : D ≠ 0) (h1 : lim n ≤ K) (h2 : (mag D).length ≤ K) : Sz (mkRat n D) K := by
  rw [← Rat.normalize_eq_mkRat h]
  exact Sz.make h h1 h2
theorem v_sz {p : List Int} {a b : Rat} (ha : Sz a 2) (hb : Sz b 2) (hp : Lim 3 p) (hl : p.length ≤ 11) : Sz (vLo p a b) 1000 ∧ Sz (vHi p a b) 1000 := by
  obtain ⟨h1, h2, h3⟩ := s_lims ha hb
  have hd := sDn_pos a b
  have h4 := spanI_lim 3 11 (sLo a b) (sHi a b) (sDn a b) h1 h2 h3 p hp hl
  have h5 : p.length * (3 + 4 * 11 + 9) ≤ 11 * (3 + 4 * 11 + 9) := Nat.mul_le_mul_right _ hl
  have h6 := lim_pow4 (sDn a b) (p.length - 1) h3
  have h7 : (mag ((sDn a b).natAbs ^ (p.length - 1))).length ≤ 1000 := by
    have e : lim (sDn a b ^ (p.length - 1)) = (mag ((sDn a b).natAbs ^ (p.length - 1))).length := by unfold lim; rw [Int.natAbs_pow]
    omega
  have h8 : (sDn a b).natAbs ^ (p.length - 1) ≠ 0 := Nat.ne_of_gt (Nat.pow_pos (by omega))
  exact ⟨mk_sz h8 (by omega) h7, mk_sz h8 (by omega) h7⟩
/-- one of the numbers that are tried: between the ends, over 2^k times their denominator -/
def MidsQ (a b x : Rat) (k : Nat) : Prop := hasQ a b x = true ∧ ∃ n : Int, x * (sDn a b : Rat) * ((2 ^ k : Int) : Rat) = (n : Rat)
theorem mids_start {a b : Rat} (h : cmpQ a b ≤ 0) : MidsQ a b a 0 := ⟨(hasQ_self h).1, sLo a b, by rw [lo_over, Int.pow_zero]; exact Rat.mul_one _⟩
theorem half2_two : half2 * ((2 : Int) : Rat) = 1 := by
  have h := half2_twice
  have e : ((2 : Int) : Rat) = 1 + 1 := by rw [show (2 : Int) = 1 + 1 by decide, Rat.intCast_add]; rfl
  rw [e, Rat.mul_add, Rat.mul_one]; exact h
theorem half_pos : (0 : Rat) ≤ half2 := by decide
theorem mids_step {a b x : Rat} {k : Nat} (h : MidsQ a b x k) (hab : a ≤ b) : MidsQ a b ((x + b) * half2) (k + 1) := by
  obtain ⟨h1, n, hn⟩ := h
  rw [hasQ_iff] at h1
  have e2 : ∀ y : Rat, (y + y) * half2 = y := fun y => by
    have h3 : (y + y) * half2 = y * (half2 + half2) := by grind
    rw [h3, half2_twice, Rat.mul_one]
  refine ⟨hasQ_iff.2 ⟨?_, ?_⟩, n + sHi a b * 2 ^ k, ?_⟩
  · have h3 : a + a ≤ x + b := addQ_le h1.1 hab
    have h4 := Rat.mul_le_mul_of_nonneg_right h3 half_pos
    rw [e2] at h4; exact h4
  · have h3 : x + b ≤ b + b := addQ_le h1.2 Rat.le_refl
    have h4 := Rat.mul_le_mul_of_nonneg_right h3 half_pos
    rw [e2] at h4; exact h4
  · have e3 : ((2 ^ (k + 1) : Int) : Rat) = ((2 ^ k : Int) : Rat) * ((2 : Int) : Rat) := by rw [Int.pow_succ, Rat.intCast_mul]
    have e4 : (x + b) * half2 * (sDn a b : Rat) * (((2 ^ k : Int) : Rat) * ((2 : Int) : Rat)) = (x * (sDn a b : Rat) * ((2 ^ k : Int) : Rat) + b * (sDn a b : Rat) * ((2 ^ k : Int) : Rat)) * (half2 * ((2 : Int) : Rat)) := by grind
    rw [e3, e4, half2_two, Rat.mul_one, hn, hi_over, Rat.intCast_add, Rat.intCast_mul]
theorem abs_between {n lo hi : Int} (h1 : lo ≤ n) (h2 : n ≤ hi) {K : Nat} (hl : lim lo ≤ K) (hh : lim hi ≤ K) : lim n ≤ K := by
  rcases Nat.le_total lo.natAbs hi.natAbs with h | h
  · exact Nat.le_trans (mag_len_mono (show n.natAbs ≤ hi.natAbs by omega)) hh
  · exact Nat.le_trans (mag_len_mono (show n.natAbs ≤ lo.natAbs by omega)) hl
theorem mids_sz {a b x : Rat} {k : Nat} (h : MidsQ a b x k) (ha : Sz a 2) (hb : Sz b 2) (hk : k ≤ 5) : Sz x 5 := by
  obtain ⟨h1, n, hn⟩ := h
  rw [hasQ_iff] at h1
  obtain ⟨l1, l2, l3⟩ := s_lims ha hb
  have hd := sDn_pos a b
  have hdq := castpos hd
  have h2 : lim (2 ^ k : Int) ≤ 1 := by
    match k, hk with
    | 0, _ => decide
    | 1, _ => decide
    | 2, _ => decide
    | 3, _ => decide
    | 4, _ => decide
    | 5, _ => decide
  have hp2 : (0 : Int) < 2 ^ k := Int.pow_pos (by decide)
  have hp2q := castpos hp2
  have hlo : sLo a b * 2 ^ k ≤ n := by
    have h3 : ((sLo a b * 2 ^ k : Int) : Rat) ≤ (n : Rat) := by
      rw [Rat.intCast_mul, ← hn, ← lo_over]
      exact mul_le hp2q (mul_le hdq h1.1)
    exact cast_leQ.1 h3
  have hhi : n ≤ sHi a b * 2 ^ k := by
    have h3 : (n : Rat) ≤ ((sHi a b * 2 ^ k : Int) : Rat) := by
      rw [Rat.intCast_mul, ← hn, ← hi_over]
      exact mul_le hp2q (mul_le hdq h1.2)
    exact cast_leQ.1 h3
  have m1 := lim_mul (sLo a b) (2 ^ k : Int)
  have m2 := lim_mul (sHi a b) (2 ^ k : Int)
  have m3 := lim_mul (sDn a b) (2 ^ k : Int)
  have hn5 : lim n ≤ 5 := abs_between hlo hhi (by omega) (by omega)
  have hD : 0 < sDn a b * 2 ^ k := Int.mul_pos hd hp2
  have hx : x = mkRat n ((sDn a b * 2 ^ k).natAbs) := by
    have e := mk_over n hD 1
    rw [Nat.pow_one, Rat.pow_succ, Rat.pow_zero, Rat.one_mul] at e
    have h5 : x * ((sDn a b * 2 ^ k : Int) : Rat) = mkRat n ((sDn a b * 2 ^ k).natAbs) * ((sDn a b * 2 ^ k : Int) : Rat) := by
      rw [e, ← hn, Rat.intCast_mul, Rat.mul_assoc]
    have h6 := congrArg (· * (((sDn a b * 2 ^ k : Int) : Rat))⁻¹) h5
    simp only [Rat.mul_assoc, Rat.mul_inv_cancel _ (Rat.ne_of_gt (castpos hD)), Rat.mul_one] at h6
    exact h6
  rw [hx]
  exact mk_sz (by omega) hn5 (by show lim (sDn a b * 2 ^ k) ≤ 5; omega)
theorem lim_powK5 (d : Int) (m : Nat) (h : lim d ≤ 5) : lim (d ^ m) ≤ 5 * m + 1 := by
  induction m with
  | zero => rw [Int.pow_zero]; decide
  | succ m ih => rw [Int.pow_succ]; have := lim_mul (d ^ m) d; omega
theorem homo_lim5 (n d : Int) (hn : lim n ≤ 5) (hd : lim d ≤ 5) : ∀ l : List Int, Lim 3 l → l.length ≤ 11 → lim (homo l n d) ≤ l.length * 66 := by
  intro l
  induction l with
  | nil => intro _ _; show lim 0 ≤ _; rw [lim_zero]; omega
  | cons c l ih =>
    intro hA hN
    have h1 := ih (fun t => by have := hA (t + 1); rw [dig_cons] at this; exact this) (by simp at hN; omega)
    have h2 : lim c ≤ 3 := by have := hA 0; simpa [dig] using this
    have h3 := lim_mul (homo l n d) n
    have h4 := lim_mul c (d ^ l.length)
    have h5 := lim_powK5 d l.length hd
    have h6 := lim_add (homo l n d * n) (c * d ^ l.length)
    show lim (homo l n d * n + c * d ^ l.length) ≤ _
    rw [List.length_cons] at hN ⊢
    omega
/-- how long values there are -/
theorem ev_long {p : List Int} {x : Rat} (hp : Lim 3 p) (hl : p.length ≤ 11) (hx : Sz x 5) : (∀ k, lim (homo (p.drop k) x.num (x.den : Int)) ≤ 648960 ∧ lim ((x.den : Int) ^ (if k = 0 then p.length - 1 else p.length - k)) ≤ 100000) ∧ Sz (evQ p x) 1000 := by
  have hn : lim x.num ≤ 5 := hx.1
  have hd : lim (x.den : Int) ≤ 5 := hx.2
  refine ⟨fun k => ⟨?_, ?_⟩, ?_⟩
  · have h1 := homo_lim5 x.num (x.den : Int) hn hd (p.drop k) (drop_lim hp) (by rw [List.length_drop]; omega)
    have h2 : (p.drop k).length * 66 ≤ 11 * 66 := Nat.mul_le_mul_right _ (by rw [List.length_drop]; omega)
    omega
  · have h3 := lim_powK5 (x.den : Int) (if k = 0 then p.length - 1 else p.length - k) hd
    have h4 : (if k = 0 then p.length - 1 else p.length - k) ≤ 11 := by split <;> omega
    omega
  · have h0 : x.den ^ (p.length - 1) ≠ 0 := Nat.pos_iff_ne_zero.1 (Nat.pow_pos (Nat.pos_iff_ne_zero.2 x.den_nz))
    rw [homo_rat p x (x.den ^ (p.length - 1)) (by rw [Int.natCast_pow]) h0]
    refine Sz.make h0 ?_ ?_
    · have h1 := homo_lim5 x.num (x.den : Int) hn hd p hp hl
      unfold lim at h1; omega
    · have h1 := lim_powK5 (x.den : Int) (p.length - 1) hd
      unfold lim at h1
      rw [← Int.natCast_pow, Int.natAbs_natCast] at h1
      omega
end Go.Proofs.YthjkdnlbdhhmbaaGreatDoor
/-
  OK: walks: poly's EvalSpan of what is good; the page asks whether a long interval is one.
-/
namespace Go.Proofs.YthjkdnlbdhhmbaaGreatDoor
open Go.RowKit
set_option linter.unusedVariables false
set_option linter.unusedSimpArgs false
/-- an interval, and no error -/
def SpanAns (w w' : World) (e : Ending) (a b : Rat) : Prop := ∃ nX oX lX cX pX mX kX nY oY lY cY pY mY kY, e = .returned (.tuple #[.agg #[.bool nX, .slice oX lX cX, .slice pX mX kX, .bool nY, .slice oY lY cY, .slice pY mY kY], .int .i64 0]) ∧ RatAt w' nX oX lX cX pX mX kX a ∧ RatAt w' nY oY lY cY pY mY kY b ∧ Below w.heap.size w w'
set_option maxRecDepth 100000 in
set_option maxHeartbeats 4000000 in
theorem evalSpan_good (ao : Option Addr) (len cap : Nat) (p : List Int) (n1 n2 : Bool) (o1 p1 o2 p2 : Option Addr) (l1 c1 m1 k1 l2 c2 m2 k2 : Nat) (a b : Rat) (w : World) (hp : GP w ao len cap 3 p) (hx : RatAt w n1 o1 l1 c1 p1 m1 k1 a) (hy : RatAt w n2 o2 l2 c2 p2 m2 k2 b) (ha : Sz a 2) (hb : Sz b 2) (hc : cmpQ a b ≤ 0) (hT0 : TabAt 0 Lib.deBruijn64tab w) :
    Calls Tryz.prog 10 #[.slice ao len cap, .agg #[.bool n1, .slice o1 l1 c1, .slice p1 m1 k1, .bool n2, .slice o2 l2 c2, .slice p2 m2 k2]] w fun e w' => SpanAns w w' e (vLo p a b) (vHi p a b) := by
  obtain ⟨W, hW⟩ : ∃ W, W = (w.alloc (.cells #[.bool n1, .slice o1 l1 c1, .slice p1 m1 k1, .bool n2, .slice o2 l2 c2, .slice p2 m2 k2] 32)).alloc (.cells #[.bool false, .slice none 0 0, .slice none 0 0, .bool false, .slice none 0 0, .slice none 0 0] 32) := ⟨_, rfl⟩
  have HWE : Hid (W = (w.alloc (.cells #[.bool n1, .slice o1 l1 c1, .slice p1 m1 k1, .bool n2, .slice o2 l2 c2, .slice p2 m2 k2] 32)).alloc (.cells #[.bool false, .slice none 0 0, .slice none 0 0, .bool false, .slice none 0 0, .slice none 0 0] 32)) := hW
  have HV : Hid (Vars w W [(w.heap.size + 1, [.bool false, .slice none 0 0, .slice none 0 0, .bool false, .slice none 0 0, .slice none 0 0]), (w.heap.size, [.bool n1, .slice o1 l1 c1, .slice p1 m1 k1, .bool n2, .slice o2 l2 c2, .slice p2 m2 k2])]) := by
    rw [hW]
    exact ((Vars.nil w).alloc rfl [.bool n1, .slice o1 l1 c1, .slice p1 m1 k1, .bool n2, .slice o2 l2 c2, .slice p2 m2 k2] _).alloc (by simp) [.bool false, .slice none 0 0, .slice none 0 0, .bool false, .slice none 0 0, .slice none 0 0] _
  have h1 := (hp.later HV.out.below).check
  have HR : Hid (GP w ao len cap 3 p ∧ RatAt w n1 o1 l1 c1 p1 m1 k1 a ∧ RatAt w n2 o2 l2 c2 p2 m2 k2 b ∧ (Sz a 2 ∧ Sz b 2) ∧ cmpQ a b ≤ 0 ∧ TabAt 0 Lib.deBruijn64tab w) := ⟨hp, hx, hy, ⟨ha, hb⟩, hc, hT0⟩
  clear hW hp hx hy ha hb hc hT0
  go_enter Tryz.func10, Tryz.ntmps10
  go_wp2_with (first
    | (go_at_call 27; rw [← HWE.out]; refine h1.mono ?_; rintro e w1 ⟨rfl, hb1⟩; have H1 : Hid (Below W.heap.size W w1) := hb1; clear h1 hb1; have hv := HV.out.later H1.out; have x0 := hv.cell 1 0 rfl rfl; have x1 := hv.cell 1 1 rfl rfl; have x2 := hv.cell 1 2 rfl rfl; have x3 := hv.cell 1 3 rfl rfl; have x4 := hv.cell 1 4 rfl rfl; have x5 := hv.cell 1 5 rfl rfl; clear hv)
    | (go_at_call 30; refine (scheck_good n1 n2 o1 p1 o2 p2 l1 c1 m1 k1 l2 c2 m2 k2 a b _ (HR.out.2.1.later (bnext HV.out.below H1.out)) (HR.out.2.2.1.later (bnext HV.out.below H1.out)) (HR.out.2.2.2.1.1.mono (by decide)) (HR.out.2.2.2.1.2.mono (by decide)) HR.out.2.2.2.2.1 (tab_later HR.out.2.2.2.2.2 (bnext HV.out.below H1.out))).mono ?_; rintro e w2 ⟨rfl, hb2⟩; have H2 : Hid (Below W.heap.size W w2) := bnext H1.out hb2; clear hb2 x0 x1 x2 x3 x4 x5; have hv := HV.out.later H2.out; have x0 := hv.cell 1 0 rfl rfl; have x1 := hv.cell 1 1 rfl rfl; have x2 := hv.cell 1 2 rfl rfl; have x3 := hv.cell 1 3 rfl rfl; have x4 := hv.cell 1 4 rfl rfl; have x5 := hv.cell 1 5 rfl rfl; clear hv)
    | (go_at_call 31; refine (values_any ao len cap 3 (Nat.gcd a.den b.den) p n1 n2 o1 p1 o2 p2 l1 c1 m1 k1 l2 c2 m2 k2 a b (sLo a b) (sHi a b) (sDn a b) _ (HR.out.1.later (bnext HV.out.below H2.out)).at' (HR.out.2.1.later (bnext HV.out.below H2.out)) (HR.out.2.2.1.later (bnext HV.out.below H2.out)) HR.out.2.2.2.1.1 HR.out.2.2.2.1.2 (by have := HR.out.1.short; omega) (by decide) HR.out.1.lims rfl rfl rfl rfl (tab_later HR.out.2.2.2.2.2 (bnext HV.out.below H2.out))).mono ?_; rintro e w3 ⟨nX, oX, lX, cX, pX, mX, kX, nY, oY, lY, cY, pY, mY, kY, rfl, hX, hY, hb3⟩; have H3 : Hid (RatAt w3 nX oX lX cX pX mX kX (vLo p a b) ∧ RatAt w3 nY oY lY cY pY mY kY (vHi p a b) ∧ Vars w w3 [(w.heap.size + 1, [.bool false, .slice none 0 0, .slice none 0 0, .bool false, .slice none 0 0, .slice none 0 0]), (w.heap.size, [.bool n1, .slice o1 l1 c1, .slice p1 m1 k1, .bool n2, .slice o2 l2 c2, .slice p2 m2 k2])]) := ⟨hX, hY, HV.out.later (bnext H2.out hb3)⟩; clear hX hY hb3 x0 x1 x2 x3 x4 x5; have y0 := H3.out.2.2.cell 0 0 rfl rfl; have y1 := H3.out.2.2.cell 0 1 rfl rfl; have y2 := H3.out.2.2.cell 0 2 rfl rfl; have y3 := H3.out.2.2.cell 0 3 rfl rfl; have y4 := H3.out.2.2.cell 0 4 rfl rfl; have y5 := H3.out.2.2.cell 0 5 rfl rfl; have yf := H3.out.2.2.soft 0 rfl))
  have hbx := (H3.out.2.2.box 0 _ _ rfl).1
  have hge := H3.out.2.2.ge 0 rfl
  have hno : ∀ b : Bool, ∀ u, Value.bool b ≠ .int .u64 u := fun b u e => by cases e
  have hns : ∀ u, Value.slice none 0 0 ≠ .int .u64 u := fun u e => by cases e
  have hX := H3.out.1.setSix hbx (hno _) hns hns (hno _) hns hns (.bool nX) (.slice oX lX cX) (.slice pX mX kX) (.bool nY) (.slice oY lY cY) (.slice pY mY kY)
  have hY := H3.out.2.1.setSix hbx (hno _) hns hns (hno _) hns hns (.bool nX) (.slice oX lX cX) (.slice pX mX kX) (.bool nY) (.slice oY lY cY) (.slice pY mY kY)
  have hbl := below_set (v := .slice pY mY kY) (j := 5) (below_set (v := .slice oY lY cY) (j := 4) (below_set (v := .bool nY) (j := 3) (below_set (v := .slice pX mX kX) (j := 2) (below_set (v := .slice oX lX cX) (j := 1) (below_set (v := .bool nX) (j := 0) H3.out.2.2.below hge) hge) hge) hge) hge) hge
  exact bodyPost_ret (v := .tuple #[.agg #[.bool nX, .slice oX lX cX, .slice pX mX kX, .bool nY, .slice oY lY cY, .slice pY mY kY], .int .i64 0]) (by simp [results, Tryz.results10, go_sem, y0, y1, y2, y3, y4, y5, yf]) rfl
    ⟨_, _, _, _, _, _, _, _, _, _, _, _, _, _, rfl, hX, hY, hbl⟩
theorem mayR_intN (v : Int) (d : Nat) : mayR (sgB v) (mag v.natAbs) (mag d) = (decide (0 < d) && decide (Nat.gcd v.natAbs d = 1)) := by
  have h1 : mayB (sgB v) (mag v.natAbs) = true := may_int v
  have h2 : mayB false (mag d) = true := by have := may_int (d : Int); rwa [sgB_nat, Int.natAbs_natCast] at this
  have h3 : decide (0 < (mag d).length) = decide (0 < d) := by
    by_cases e : 0 < d
    · rw [decide_eq_true e, decide_eq_true (mag_len_pos.2 e)]
    · rw [decide_eq_false e, decide_eq_false (fun h => e (mag_len_pos.1 h))]
  unfold mayR
  rw [h1, h2, h3, mag_val, mag_val, Int.natAbs_natCast, Int.natAbs_natCast, Bool.true_and, Bool.true_and]
theorem mayR_rat {w : World} {n : Bool} {o p : Option Addr} {l c m k : Nat} {a : Rat} (h : RatAt w n o l c p m k a) : mayR n (mag a.num.natAbs) (mag a.den) = true := by
  rw [h.num.sg, mayR_intN, decide_eq_true (Nat.pos_of_ne_zero a.den_nz), decide_eq_true a.reduced]; rfl
set_option maxRecDepth 100000 in
set_option maxHeartbeats 4000000 in
theorem smay_big (n1 n2 : Bool) (o1 p1 o2 p2 : Option Addr) (l1 c1 m1 k1 l2 c2 m2 k2 : Nat) (x1 d1 x2 d2 : List Int) (w : World) (hx1 : RowAt w .u64 o1 l1 c1 x1) (wx1 : Wd 18446744073709551616 x1) (hd1 : RowAt w .u64 p1 m1 k1 d1) (wd1 : Wd 18446744073709551616 d1) (hx2 : RowAt w .u64 o2 l2 c2 x2) (wx2 : Wd 18446744073709551616 x2) (hd2 : RowAt w .u64 p2 m2 k2 d2) (wd2 : Wd 18446744073709551616 d2) (hl1 : l1 ≤ 1000) (hm1 : m1 ≤ 1000) (hl2 : l2 ≤ 1000) (hm2 : m2 ≤ 1000) (h1 : mayR n1 x1 d1 = true) (h2 : mayR n2 x2 d2 = true) (a b : Rat) (hx : RatAt w n1 o1 l1 c1 p1 m1 k1 a) (hy : RatAt w n2 o2 l2 c2 p2 m2 k2 b) (ha : Sz a 1000) (hb : Sz b 1000) (r : Bool) (hr : decide (cmpQ a b ≤ 0) = r) :
    Calls Tryz.prog 8 #[.agg #[.bool n1, .slice o1 l1 c1, .slice p1 m1 k1, .bool n2, .slice o2 l2 c2, .slice p2 m2 k2]] w fun e w' => e = .returned (.bool r) ∧ Below w.heap.size w w' := by
  obtain ⟨W, hW, hsz, hbW, hA⟩ := enter1 w [.bool n1, .slice o1 l1 c1, .slice p1 m1 k1, .bool n2, .slice o2 l2 c2, .slice p2 m2 k2] 32
  have HX : Hid (((RowAt W .u64 o1 l1 c1 x1 ∧ RowAt W .u64 p1 m1 k1 d1) ∧ (RowAt W .u64 o2 l2 c2 x2 ∧ RowAt W .u64 p2 m2 k2 d2)) ∧ RatAt W n1 o1 l1 c1 p1 m1 k1 a ∧ RatAt W n2 o2 l2 c2 p2 m2 k2 b) := ⟨⟨⟨hx1.later hbW, hd1.later hbW⟩, ⟨hx2.later hbW, hd2.later hbW⟩⟩, hx.later hbW, hy.later hbW⟩
  have HM : Hid (mayR n1 x1 d1 = true ∧ mayR n2 x2 d2 = true) := ⟨h1, h2⟩
  obtain ⟨c, hc1⟩ : ∃ c, cmpQ a b = c := ⟨_, rfl⟩
  have HCC : Hid (cmpQ a b = c ∧ Sz a 1000 ∧ Sz b 1000) := ⟨hc1, ha, hb⟩
  rw [hc1] at hr
  have HR : Hid (decide (c ≤ 0) = r) := hr
  clear hx1 hd1 h1 hx2 hd2 h2 hx hy ha hb hc1 hr
  go_enter Tryz.func8, Tryz.ntmps8
  go_wp2_with (first
    | (go_at_call 7; have _t := hb1; refine (qmay_any n2 o2 p2 l2 c2 m2 k2 x2 d2 _ (HX.out.1.2.1.later hb1) wx2 (HX.out.1.2.2.later hb1) wd2 (by omega) (by omega) true HM.out.2).mono ?_; rintro e w2 ⟨rfl, hb2'⟩; have hb2 := bnext hb1 hb2'; clear hb2' u0 u1 u2 u3 u4 u5 hb1; have ub := hA.later hb2 (by omega); have u0 := ub.1 0 _ rfl; have u1 := ub.1 1 _ rfl; have u2 := ub.1 2 _ rfl; have u3 := ub.1 3 _ rfl; have u4 := ub.1 4 _ rfl; have u5 := ub.1 5 _ rfl; clear ub)
    | (go_at_call 7; rw [← hW]; refine (qmay_any n1 o1 p1 l1 c1 m1 k1 x1 d1 _ HX.out.1.1.1 wx1 HX.out.1.1.2 wd1 (by omega) (by omega) true HM.out.1).mono ?_; rintro e w1 ⟨rfl, hb1⟩; have ub := hA.later hb1 (by omega); have u0 := ub.1 0 _ rfl; have u1 := ub.1 1 _ rfl; have u2 := ub.1 2 _ rfl; have u3 := ub.1 3 _ rfl; have u4 := ub.1 4 _ rfl; have u5 := ub.1 5 _ rfl; clear ub)
    | (go_at_call 26; refine (qcmp_any n1 n2 o1 p1 o2 p2 l1 c1 m1 k1 l2 c2 m2 k2 a b _ (HX.out.2.1.later hb2) (HX.out.2.2.later hb2) HCC.out.2.1 HCC.out.2.2 c HCC.out.1).mono ?_; rintro e w3 ⟨rfl, hb3⟩))
  go_ret
  exact ⟨ret_bool HR.out, bnext hbW (bnext hb2 hb3)⟩
theorem smay_rats (n1 n2 : Bool) (o1 p1 o2 p2 : Option Addr) (l1 c1 m1 k1 l2 c2 m2 k2 : Nat) (a b : Rat) (w : World) (hx : RatAt w n1 o1 l1 c1 p1 m1 k1 a) (hy : RatAt w n2 o2 l2 c2 p2 m2 k2 b) (ha : Sz a 1000) (hb : Sz b 1000) (h : cmpQ a b ≤ 0) :
    Calls Tryz.prog 8 #[.agg #[.bool n1, .slice o1 l1 c1, .slice p1 m1 k1, .bool n2, .slice o2 l2 c2, .slice p2 m2 k2]] w fun e w' => e = .returned (.bool true) ∧ Below w.heap.size w w' :=
  smay_big n1 n2 o1 p1 o2 p2 l1 c1 m1 k1 l2 c2 m2 k2 (mag a.num.natAbs) (mag a.den) (mag b.num.natAbs) (mag b.den) w hx.num.row (mag_wd _) hx.den (mag_wd _) hy.num.row (mag_wd _) hy.den (mag_wd _) (hx.len ha).1 (hx.len ha).2 (hy.len hb).1 (hy.len hb).2 (mayR_rat hx) (mayR_rat hy) a b hx hy ha hb true (decide_eq_true h)
set_option maxRecDepth 100000 in
set_option maxHeartbeats 4000000 in
theorem phas_one (n1 n2 n3 : Bool) (o1 p1 o2 p2 o3 p3 : Option Addr) (l1 c1 m1 k1 l2 c2 m2 k2 l3 c3 m3 k3 : Nat) (a b x : Rat) (w : World) (hx : RatAt w n1 o1 l1 c1 p1 m1 k1 a) (hy : RatAt w n2 o2 l2 c2 p2 m2 k2 b) (hz : RatAt w n3 o3 l3 c3 p3 m3 k3 x) (ha : Sz a 1000) (hb : Sz b 1000) (hxz : Sz x 1000) (r : Bool) (hr : hasQ a b x = r) :
    Calls Tryz.prog 17 #[.agg #[.bool n1, .slice o1 l1 c1, .slice p1 m1 k1, .bool n2, .slice o2 l2 c2, .slice p2 m2 k2], .agg #[.bool n3, .slice o3 l3 c3, .slice p3 m3 k3]] w fun e w' => e = .returned (.bool r) ∧ Below w.heap.size w w' := by
  obtain ⟨W, hW, hsz, hbW, hA, hB⟩ := enter2 w [.bool n1, .slice o1 l1 c1, .slice p1 m1 k1, .bool n2, .slice o2 l2 c2, .slice p2 m2 k2] [.bool n3, .slice o3 l3 c3, .slice p3 m3 k3] 32 30
  have HX : Hid ((RatAt W n1 o1 l1 c1 p1 m1 k1 a ∧ RatAt W n2 o2 l2 c2 p2 m2 k2 b) ∧ RatAt W n3 o3 l3 c3 p3 m3 k3 x) := ⟨⟨hx.later hbW, hy.later hbW⟩, hz.later hbW⟩
  have HC : Hid (Sz a 1000 ∧ Sz b 1000 ∧ Sz x 1000) := ⟨ha, hb, hxz⟩
  obtain ⟨c, hc1⟩ : ∃ c, cmpQ a x = c := ⟨_, rfl⟩
  obtain ⟨d, hd1⟩ : ∃ d, cmpQ x b = d := ⟨_, rfl⟩
  have HCC : Hid (cmpQ a x = c ∧ cmpQ x b = d) := ⟨hc1, hd1⟩
  unfold hasQ at hr
  rw [hc1, hd1] at hr
  clear hx hy hz ha hb hxz hc1 hd1
  by_cases hc0 : c ≤ 0
  · have HR : Hid (decide (d ≤ 0) = r) := by show _ = _; rw [← hr, decide_eq_true hc0]; rfl
    clear hr
    go_enter Tryz.func17, Tryz.ntmps17
    go_wp2_with (first
      | (go_at_call 26; have _t := hb3; refine (qcmp_any n3 n2 o3 p3 o2 p2 l3 c3 m3 k3 l2 c2 m2 k2 x b _ (HX.out.2.later hb3) (HX.out.1.2.later hb3) HC.out.2.2 HC.out.2.1 d HCC.out.2).mono ?_; rintro e w4 ⟨rfl, hb4⟩)
      | (go_at_call 26; rw [← hW]; refine (qcmp_any n1 n3 o1 p1 o3 p3 l1 c1 m1 k1 l3 c3 m3 k3 a x _ HX.out.1.1 HX.out.2 HC.out.1 HC.out.2.2 c HCC.out.1).mono ?_; rintro e w3 ⟨rfl, hb3⟩; have ub := hA.later hb3 (by omega); have u0 := ub.1 0 _ rfl; have u1 := ub.1 1 _ rfl; have u2 := ub.1 2 _ rfl; have u3 := ub.1 3 _ rfl; have u4 := ub.1 4 _ rfl; have u5 := ub.1 5 _ rfl; clear ub; have qb := hB.later hb3 (by omega); have q0 := qb.1 0 _ rfl; have q1 := qb.1 1 _ rfl; have q2 := qb.1 2 _ rfl; clear qb))
    go_ret
    exact ⟨by rw [HR.out]; rfl, bnext hbW (bnext hb3 hb4)⟩
  · obtain rfl : r = false := by rw [← hr, decide_eq_false hc0]; rfl
    clear hr
    go_enter Tryz.func17, Tryz.ntmps17
    go_wp2_with (go_at_call 26; rw [← hW]; refine (qcmp_any n1 n3 o1 p1 o3 p3 l1 c1 m1 k1 l3 c3 m3 k3 a x _ HX.out.1.1 HX.out.2 HC.out.1 HC.out.2.2 c HCC.out.1).mono ?_; rintro e w3 ⟨rfl, hb3⟩; have ub := hA.later hb3 (by omega); have u0 := ub.1 0 _ rfl; have u1 := ub.1 1 _ rfl; have u2 := ub.1 2 _ rfl; have u3 := ub.1 3 _ rfl; have u4 := ub.1 4 _ rfl; have u5 := ub.1 5 _ rfl; clear ub; have qb := hB.later hb3 (by omega); have q0 := qb.1 0 _ rfl; have q1 := qb.1 1 _ rfl; have q2 := qb.1 2 _ rfl; clear qb)
    go_ret
    exact ⟨rfl, bnext hbW hb3⟩
end Go.Proofs.YthjkdnlbdhhmbaaGreatDoor
