/-
  A pack of walks and facts: YB, YI, YJ, SD.
-/
import Derived.Test.YthjkdnlbdhhmbaaGreatDoorPV27
set_option maxRecDepth 100000
set_option maxHeartbeats 40000000
set_option linter.unusedVariables false
set_option linter.unusedSimpArgs false
namespace Go.Proofs.YthjkdnlbdhhmbaaGreatDoor
open Go.RowKit
theorem value_any (ao : Option Addr) (len cap A : Nat) (p : List Int) (na : Bool) (o1 o2 : Option Addr) (l1 c1 l2 c2 : Nat) (a : Rat) (w : World) (hp : PolyAt w ao len cap p) (ha : RatAt w na o1 l1 c1 o2 l2 c2 a) (hl : len ≤ 64) (hA : A ≤ 10000) (hlp : Lim A p) (hs : lim a.num ≤ 2 ∧ lim (a.den : Int) ≤ 2) (hT0 : TabAt 0 Lib.deBruijn64tab w) :
  Calls Tryz.prog 29 #[.slice ao len cap, .agg #[.bool na, .slice o1 l1 c1, .slice o2 l2 c2]] w fun e w' => NewRat w w' e (evQ p a) := by
 obtain ⟨W, hW⟩ : ∃ W, W = (w.alloc (.cells #[.bool na, .slice o1 l1 c1, .slice o2 l2 c2] 30)).alloc (.cells #[.bool false, .slice none 0 0, .slice none 0 0] 30) := ⟨_, rfl⟩
 have HW : Hid (Below w.heap.size w W ∧ W.heap.size = w.heap.size + 2 ∧ (W.cell? ⟨w.heap.size, 0, none⟩ = some (.bool na) ∧ W.cell? ⟨w.heap.size, 1, none⟩ = some (.slice o1 l1 c1) ∧ W.cell? ⟨w.heap.size, 2, none⟩ = some (.slice o2 l2 c2)) ∧ (∀ m, W.frozen? ⟨w.heap.size + 1, m, none⟩ = false) ∧ W.cell? ⟨w.heap.size + 1, 0, none⟩ = some (.bool false) ∧ W.cell? ⟨w.heap.size + 1, 1, none⟩ = some (.slice none 0 0) ∧ W.cell? ⟨w.heap.size + 1, 2, none⟩ = some (.slice none 0 0)) := by
  rw [hW]
  exact ⟨((Below.refl _ _).alloc (Nat.le_refl _) _).alloc (by simp) _, by simp, ⟨by simp [go_sem], by simp [go_sem], by simp [go_sem]⟩, fun m => by simp [go_sem], by simp [go_sem], by simp [go_sem], by simp [go_sem]⟩
 have HR : Hid (PolyAt W ao len cap p ∧ RatAt W na o1 l1 c1 o2 l2 c2 a ∧ Lim A p ∧ len = p.length ∧ lim a.num ≤ 2 ∧ lim (a.den : Int) ≤ 2 ∧ TabAt 0 Lib.deBruijn64tab W ∧ A ≤ 10000) := ⟨hp.later HW.out.1, ha.later HW.out.1, hlp, hp.hlen, hs.1, hs.2, tab_later hT0 HW.out.1, hA⟩
 have HLL : Hid (∀ k, lim (homo (p.drop k) a.num (a.den : Int)) ≤ 648960 ∧ lim ((a.den : Int) ^ (if k = 0 then p.length - 1 else p.length - k)) ≤ 129) := fun k => by
  have h1 := homo_lim A 64 a.num (a.den : Int) hs.1 hs.2 (p.drop k) (drop_lim hlp) (by rw [List.length_drop]; have := hp.hlen; omega)
  have h2 : (p.drop k).length * (A + 2 * 64 + 5) ≤ 64 * 10140 := Nat.mul_le_mul (by rw [List.length_drop]; have := hp.hlen; omega) (by omega)
  refine ⟨by omega, ?_⟩
  have h3 := lim_pow (a.den : Int) (if k = 0 then p.length - 1 else p.length - k) hs.2
  have h4 := hp.hlen
  split at h3 <;> simp_all <;> omega
 clear hp ha hlp hs hT0 hA
 go_enter Tryz.func29, Tryz.ntmps29
 go_wp2_with (go_at_call 54; rw [← hW]; clear hW; refine (from_any 1 _ (by decide) (by decide)).mono ?_; rintro e w1 ⟨n0, o0, l0, c0, rfl, hs0, ho0, hb1⟩)
 obtain ⟨rs, hrs0⟩ : ∃ r, r = w1.heap.size := ⟨_, rfl⟩
 obtain ⟨rt, hrt0⟩ : ∃ r, r = w1.heap.size + 1 := ⟨_, rfl⟩
 obtain ⟨Y, hY⟩ : ∃ Y, Y = (w1.alloc (.cells #[.bool false, .slice none 0 0] 28)).alloc (.cells #[.bool n0, .slice o0 l0 c0] 28) := ⟨_, rfl⟩
 rw [hs0] at hY
 rw [← hY, ← hrt0, ← hrs0]
 have HY : Hid (Below W.heap.size W Y ∧ rt < Y.heap.size ∧ (Y.cell? ⟨rs, 0, none⟩ = some (.bool false) ∧ Y.cell? ⟨rs, 1, none⟩ = some (.slice none 0 0)) ∧ (Y.cell? ⟨rt, 0, none⟩ = some (.bool (sgB 1)) ∧ Y.cell? ⟨rt, 1, none⟩ = some (.slice o0 l0 c0)) ∧ (∀ m, Y.frozen? ⟨rs, m, none⟩ = false) ∧ (∀ m, Y.frozen? ⟨rt, m, none⟩ = false) ∧ IntAt Y (sgB 1) o0 l0 c0 1) := by
  have hb2 : Below w1.heap.size w1 Y := by rw [hY]; exact ((Below.refl _ _).alloc (Nat.le_refl _) _).alloc (by simp) _
  refine ⟨bnext hb1 hb2, by rw [hY, hrt0]; simp, ?_, ?_, ?_, ?_, (ho0.int rfl).later hb2⟩
  ·
   rw [hY, hrs0]; exact ⟨by simp [go_sem], by simp [go_sem]⟩
  ·
   rw [hY, hrt0]; exact ⟨by simp [go_sem], by simp [go_sem]⟩
  ·
   intro m; rw [hY, hrs0]; simp [go_sem]
  ·
   intro m; rw [hY, hrt0]; simp [go_sem]
 have HRR : Hid (W.heap.size ≤ rs ∧ rt = rs + 1) := ⟨by rw [hrs0]; exact hb1.size, by omega⟩
 clear hY hrs0 hrt0 hs0 ho0 hb1
 go_loopw [7] (fun i wr => ∃ k : Nat, k ≤ len ∧ i = .int .i64 ((k : Int) - 1) ∧ Below W.heap.size W wr ∧ rt < wr.heap.size ∧ ∃ n5 o5 l5 c5 n6 o6 l6 c6, (wr.cell? ⟨rs, 0, none⟩ = some (.bool n5) ∧ wr.cell? ⟨rs, 1, none⟩ = some (.slice o5 l5 c5)) ∧ (wr.cell? ⟨rt, 0, none⟩ = some (.bool n6) ∧ wr.cell? ⟨rt, 1, none⟩ = some (.slice o6 l6 c6)) ∧ (∀ m, wr.frozen? ⟨rs, m, none⟩ = false) ∧ (∀ m, wr.frozen? ⟨rt, m, none⟩ = false) ∧ IntAt wr n5 o5 l5 c5 (homo (p.drop k) a.num (a.den : Int)) ∧ IntAt wr n6 o6 l6 c6 ((a.den : Int) ^ (if k = 0 then p.length - 1 else p.length - k))) (fun i _ => (intOf i + 1).toNat)
 case atStart =>
  refine ⟨len, Nat.le_refl _, rfl, HY.out.1, HY.out.2.1, false, none, 0, 0, sgB 1, o0, l0, c0, HY.out.2.2.1, HY.out.2.2.2.1, HY.out.2.2.2.2.1, HY.out.2.2.2.2.2.1, ?_, ?_⟩
  ·
   rw [HR.out.2.2.2.1, List.drop_length]; exact ⟨rfl, RowAt.nilRow _ _⟩
  ·
   have e : (if len = 0 then p.length - 1 else p.length - len) = 0 := by have := HR.out.2.2.2.1; split <;> omega
   rw [e, Int.pow_zero]; exact HY.out.2.2.2.2.2.2
 case round =>
  obtain ⟨k, hk, rfl, hbel, hrt, n5, o5, l5, c5, n6, o6, l6, c6, ⟨q0, q1⟩, ⟨q2, q3⟩, hfz0, hfz1, hi5, hi6⟩ := hrel
  have HS : Hid (Below W.heap.size W wr) := hbel
  have HRS : Hid (rt < wr.heap.size ∧ rs < wr.heap.size) := ⟨hrt, by have := HRR.out.2; omega⟩
  have HFZ : Hid ((∀ m, wr.frozen? ⟨rs, m, none⟩ = false) ∧ (∀ m, wr.frozen? ⟨rt, m, none⟩ = false)) := ⟨hfz0, hfz1⟩
  have hl5 : l5 ≤ 648960 := by rw [hi5.lim]; exact (HLL.out k).1
  have hl6 : l6 ≤ 129 := by rw [hi6.lim]; exact (HLL.out k).2
  have HI0 : Hid (IntAt wr n5 o5 l5 c5 (homo (p.drop k) a.num (a.den : Int)) ∧ IntAt wr n6 o6 l6 c6 ((a.den : Int) ^ (if k = 0 then p.length - 1 else p.length - k))) := ⟨hi5, hi6⟩
  clear hi5 hi6 hfz0 hfz1 hrt
  by_cases hk0 : k = 0
  ·
   subst hk0
   have hWs := HW.out.2.1
   obtain ⟨D, hD⟩ : ∃ D : Nat, D = a.den ^ (p.length - 1) := ⟨_, rfl⟩
   have hDI : (D : Int) = (a.den : Int) ^ (p.length - 1) := by rw [hD]; exact Int.natCast_pow _ _
   have hD0 : D ≠ 0 := by rw [hD]; exact Nat.ne_of_gt (Nat.pow_pos (Nat.pos_of_ne_zero a.den_nz))
   have HM : Hid (RowAt wr .u64 o5 l5 c5 (mag (homo p a.num (a.den : Int)).natAbs) ∧ RowAt wr .u64 o6 l6 c6 (mag D) ∧ n5 = sgB (homo p a.num (a.den : Int)) ∧ evQ p a = Rat.normalize (homo p a.num (a.den : Int)) D hD0) := by
    have h1 := HI0.out.1
    have h2 := HI0.out.2
    rw [List.drop_zero] at h1
    rw [if_pos rfl, ← hDI] at h2
    have h3 := h2.row
    rw [Int.natAbs_natCast] at h3
    exact ⟨h1.row, h3, h1.sg, homo_rat p a D hDI hD0⟩
   clear HI0 hD hDI
   have HMD : Hid (mayB false (mag D) = true) := by
    have h := mayB_int (D : Int)
    have e : sgB (D : Int) = false := by simp [sgB]
    rw [e, Int.natAbs_natCast] at h
    exact h
   have HW8 : Hid (∀ V, Below W.heap.size W V → V.cell? ⟨w.heap.size + 1, 0, none⟩ = some (.bool false) ∧ V.cell? ⟨w.heap.size + 1, 1, none⟩ = some (.slice none 0 0) ∧ V.cell? ⟨w.heap.size + 1, 2, none⟩ = some (.slice none 0 0) ∧ ∀ m, V.frozen? ⟨w.heap.size + 1, m, none⟩ = false) := fun V hb => ⟨(hb.cell (p := ⟨w.heap.size + 1, 0, none⟩) (by show w.heap.size + 1 < _; omega)).trans HW.out.2.2.2.2.1, (hb.cell (p := ⟨w.heap.size + 1, 1, none⟩) (by show w.heap.size + 1 < _; omega)).trans HW.out.2.2.2.2.2.1, (hb.cell (p := ⟨w.heap.size + 1, 2, none⟩) (by show w.heap.size + 1 < _; omega)).trans HW.out.2.2.2.2.2.2, fun m => (hb.frozen (p := ⟨w.heap.size + 1, m, none⟩) (by show w.heap.size + 1 < _; omega)).trans (HW.out.2.2.2.1 m)⟩
   have HWs : Hid (W.heap.size = w.heap.size + 2) := hWs
   clear hWs
   have HT9 : Hid (TabAt 0 Lib.deBruijn64tab wr) := tab_later HR.out.2.2.2.2.2.2.1 HS.out
   go_wp2_with (go_at_call 57; refine (make_good n5 o5 o6 l5 c5 l6 c6 (mag (homo p a.num (a.den : Int)).natAbs) (mag D) (homo p a.num (a.den : Int)) D wr HM.out.1 HM.out.2.1 (by omega) (by omega) (by rw [HM.out.2.2.1]; exact mayB_int _) HMD.out ⟨rfl, HM.out.2.2.1⟩ rfl hD0 HT9.out (evQ p a) HM.out.2.2.2).mono ?_; rintro e w9 ⟨n9, o9, l9, c9, p9, m9, k9, rfl, hs9, ho9, hp9, hpt, hb9⟩; have H9 : Hid (n9 = sgB (evQ p a).num ∧ Own wr.heap.size w9 .u64 60 o9 l9 c9 (mag (evQ p a).num.natAbs) ∧ Own wr.heap.size w9 .u64 60 p9 m9 k9 (mag (evQ p a).den) ∧ Parted o9 p9 ∧ Below wr.heap.size wr w9) := ⟨hs9, ho9, hp9, hpt, hb9⟩; clear hs9 ho9 hp9 hpt hb9; have hb8 : Below W.heap.size W w9 := bnext HS.out H9.out.2.2.2.2; have hA9 : Below w9.heap.size w9 (w9.alloc (.cells #[.bool n9, .slice o9 l9 c9, .slice p9 m9 k9] 30)) := (Below.refl _ _).alloc (Nat.le_refl _) _; obtain ⟨s0, s1, s2, s3⟩ := HW8.out _ (bnext hb8 hA9))
   have hWs := HWs.out
   have hwr := HS.out.size
   have h9s := H9.out.2.2.2.2.size
   exact bodyPost_ret (v := .agg #[.bool n9, .slice o9 l9 c9, .slice p9 m9 k9]) (by simp [results, Tryz.results29, go_sem, s0, s1, s2]) rfl
    ⟨_, _, _, _, _, _, _, rfl, H9.out.1, ((H9.out.2.1.later hA9).store3 (r := w.heap.size + 1) (by omega) _ _ _).mono (by omega), ((H9.out.2.2.1.later hA9).store3 (r := w.heap.size + 1) (by omega) _ _ _).mono (by omega), H9.out.2.2.2.1, below_store3 (bnext (bnext HW.out.1 (bnext HS.out H9.out.2.2.2.2)) hA9) (by omega) _ _ _⟩
  ·
   obtain ⟨j, rfl⟩ : ∃ j, k = j + 1 := ⟨k - 1, by omega⟩
   have hki : ((j + 1 : Nat) : Int) - 1 = (j : Int) := by omega
   rw [hki]
   have hjp : j < p.length := by rw [← HR.out.2.2.2.1]; omega
   obtain ⟨b, off, n3, o3, l3, c3, rfl, f0, f1, hi3⟩ := HR.out.1.at (show j < len by omega)
   have KS : Hid (∀ w', Below wr.heap.size wr w' → w'.cell? ⟨w.heap.size, 0, none⟩ = some (.bool na) ∧ w'.cell? ⟨w.heap.size, 1, none⟩ = some (.slice o1 l1 c1) ∧ w'.cell? ⟨b, off + j * 2, none⟩ = some (.bool n3) ∧ w'.cell? ⟨b, off + j * 2 + 1, none⟩ = some (.slice o3 l3 c3) ∧ w'.cell? ⟨rt, 0, none⟩ = some (.bool n6) ∧ w'.cell? ⟨rt, 1, none⟩ = some (.slice o6 l6 c6)) := fun w' hb => by
    have hbW := bnext HS.out hb
    exact ⟨(hbW.cell (p := ⟨w.heap.size, 0, none⟩) (by show w.heap.size < _; have := HW.out.2.1; omega)).trans HW.out.2.2.1.1, (hbW.cell (p := ⟨w.heap.size, 1, none⟩) (by show w.heap.size < _; have := HW.out.2.1; omega)).trans HW.out.2.2.1.2.1, (hbW.cell (p := ⟨b, off + j * 2, none⟩) (cell_lt f0)).trans f0, (hbW.cell (p := ⟨b, off + j * 2 + 1, none⟩) (cell_lt f1)).trans f1, (hb.cell (p := ⟨rt, 0, none⟩) HRS.out.1).trans q2, (hb.cell (p := ⟨rt, 1, none⟩) HRS.out.1).trans q3⟩
   have HNE : Hid (w.heap.size ≠ rs ∧ b ≠ rs ∧ rt ≠ rs) := ⟨by have := HW.out.2.1; have := HRR.out.1; omega, by have := cell_lt f0; have := HRR.out.1; simp only at *; omega, by have := HRR.out.2; omega⟩
   have K2 : Hid (∀ (w' : World) (i : Nat) (x : Value), (w'.cell? ⟨w.heap.size, 0, none⟩ = some (.bool na) ∧ w'.cell? ⟨w.heap.size, 1, none⟩ = some (.slice o1 l1 c1) ∧ w'.cell? ⟨b, off + j * 2, none⟩ = some (.bool n3) ∧ w'.cell? ⟨b, off + j * 2 + 1, none⟩ = some (.slice o3 l3 c3) ∧ w'.cell? ⟨rt, 0, none⟩ = some (.bool n6) ∧ w'.cell? ⟨rt, 1, none⟩ = some (.slice o6 l6 c6)) → ((w'.setCell ⟨rs, i, none⟩ x).cell? ⟨w.heap.size, 0, none⟩ = some (.bool na) ∧ (w'.setCell ⟨rs, i, none⟩ x).cell? ⟨w.heap.size, 1, none⟩ = some (.slice o1 l1 c1) ∧ (w'.setCell ⟨rs, i, none⟩ x).cell? ⟨b, off + j * 2, none⟩ = some (.bool n3) ∧ (w'.setCell ⟨rs, i, none⟩ x).cell? ⟨b, off + j * 2 + 1, none⟩ = some (.slice o3 l3 c3) ∧ (w'.setCell ⟨rs, i, none⟩ x).cell? ⟨rt, 0, none⟩ = some (.bool n6) ∧ (w'.setCell ⟨rs, i, none⟩ x).cell? ⟨rt, 1, none⟩ = some (.slice o6 l6 c6))) := fun w' i x h => ⟨by rw [cell_off HNE.out.1]; exact h.1, by rw [cell_off HNE.out.1]; exact h.2.1, by rw [cell_off HNE.out.2.1]; exact h.2.2.1, by rw [cell_off HNE.out.2.1]; exact h.2.2.2.1, by rw [cell_off HNE.out.2.2]; exact h.2.2.2.2.1, by rw [cell_off HNE.out.2.2]; exact h.2.2.2.2.2⟩
   have HX : Hid (∀ V, Below wr.heap.size wr V → V.cell? ⟨rs, 0, none⟩ = some (.bool n5) ∧ V.cell? ⟨rs, 1, none⟩ = some (.slice o5 l5 c5)) := fun V hb => ⟨(hb.cell (p := ⟨rs, 0, none⟩) HRS.out.2).trans q0, (hb.cell (p := ⟨rs, 1, none⟩) HRS.out.2).trans q1⟩
   have HI : Hid (IntAt wr n5 o5 l5 c5 (homo (p.drop (j + 1)) a.num (a.den : Int)) ∧ IntAt wr na o1 l1 c1 a.num ∧ IntAt wr n3 o3 l3 c3 (dig p j) ∧ IntAt wr n6 o6 l6 c6 ((a.den : Int) ^ (p.length - (j + 1)))) := ⟨HI0.out.1, (HR.out.2.1.later HS.out).num, hi3.later HS.out, by have h := HI0.out.2; rw [if_neg (by omega)] at h; exact h⟩
   have hl3 : l3 ≤ 10000 := by rw [hi3.lim]; have := HR.out.2.2.1 j; have := HR.out.2.2.2.2.2.2.2; omega
   have hl1 : l1 ≤ 2 := by rw [HI.out.2.1.lim]; exact HR.out.2.2.2.2.1
   have HL : Hid (True ∧ True ∧ lim (homo (p.drop (j + 1)) a.num (a.den : Int) * a.num) ≤ 1000000 ∧ lim (dig p j * (a.den : Int) ^ (p.length - (j + 1))) ≤ 1000000) := by
    have h1 := lim_mul (homo (p.drop (j + 1)) a.num (a.den : Int)) a.num
    have h2 := lim_mul (dig p j) ((a.den : Int) ^ (p.length - (j + 1)))
    have h3 := HI.out.1.lim
    have h4 := HI.out.2.1.lim
    have h5 := HI.out.2.2.1.lim
    have h6 := HI.out.2.2.2.lim
    exact ⟨trivial, trivial, by omega, by omega⟩
   have HV : Hid (homo (p.drop (j + 1)) a.num (a.den : Int) * a.num + dig p j * (a.den : Int) ^ (p.length - (j + 1)) = homo (p.drop j) a.num (a.den : Int)) := (homo_drop p a.num (a.den : Int) j hjp).symm
   have HDEN : Hid (RowAt wr .u64 o2 l2 c2 (mag a.den) ∧ l2 ≤ 2 ∧ ∀ V, Below W.heap.size W V → V.cell? ⟨w.heap.size, 2, none⟩ = some (.slice o2 l2 c2)) := ⟨(HR.out.2.1.later HS.out).den, by have h := (row_int (HR.out.2.1.later HS.out).den).lim; have := HR.out.2.2.2.2.2.1; omega, fun V hb => (hb.cell (p := ⟨w.heap.size, 2, none⟩) (by show w.heap.size < _; have := HW.out.2.1; omega)).trans HW.out.2.2.1.2.2⟩
   have HJ : Hid (j + 1 ≤ len ∧ j < p.length) := ⟨hk, hjp⟩
   have z1 : (0 : Int) ≤ (j : Int) := by omega
   have z2 : (j : Int) < (len : Int) := by omega
   clear hi3 f0 f1 hk0 hki hjp HI0 hbel
   go_wp2
   refine wp_region_noPanic ?_
   refine wp_region_held_drew (S := fun w' => (w'.cell? ⟨w.heap.size, 0, none⟩ = some (.bool na) ∧ w'.cell? ⟨w.heap.size, 1, none⟩ = some (.slice o1 l1 c1) ∧ w'.cell? ⟨b, off + j * 2, none⟩ = some (.bool n3) ∧ w'.cell? ⟨b, off + j * 2 + 1, none⟩ = some (.slice o3 l3 c3) ∧ w'.cell? ⟨rt, 0, none⟩ = some (.bool n6) ∧ w'.cell? ⟨rt, 1, none⟩ = some (.slice o6 l6 c6))) (by kernel_rfl) (by (try dsimp only); exact KS.out _ (Below.refl _ _).drew) (fun hHeld => ?_)
   refine wpAnyH_take (i := 1) (oi := Oper.mk (some 20) _ _ _ _ _) (v := ?_) rfl (by decide +kernel) (by decide +kernel) (by decide +kernel) (fun _ _ _ h => h) (Or.inl ⟨by rfl, ?_⟩) (by assumption) ?_
   rotate_left
   ·
    (intro w hSw; (try dsimp only at hSw); go_simp <;> (try with_reducible rfl))
   (try simp only [Act.put, List.setIfInBounds_toArray, List.set_cons_zero, List.set_cons_succ])
   refine wpAnyH_take (i := 2) (oi := Oper.mk (some 21) _ _ _ _ _) (v := ?_) rfl (by decide +kernel) (by decide +kernel) (by decide +kernel) (fun _ _ _ h => h) (Or.inl ⟨by rfl, ?_⟩) (by assumption) ?_
   rotate_left
   ·
    (intro w hSw; (try dsimp only at hSw); go_simp <;> (try with_reducible rfl))
   (try simp only [Act.put, List.setIfInBounds_toArray, List.set_cons_zero, List.set_cons_succ])
   refine wpAnyH_take (i := 4) (oi := Oper.mk (some 23) _ _ _ _ _) (v := ?_) rfl (by decide +kernel) (by decide +kernel) (by decide +kernel) (fun _ _ _ h => h) (Or.inl ⟨by rfl, ?_⟩) (by assumption) ?_
   rotate_left
   ·
    (intro w hSw; (try dsimp only at hSw); go_simp <;> (try with_reducible rfl))
   (try simp only [Act.put, List.setIfInBounds_toArray, List.set_cons_zero, List.set_cons_succ])
   refine wpAnyH_take (i := 5) (oi := Oper.mk (some 24) _ _ _ _ _) (v := ?_) rfl (by decide +kernel) (by decide +kernel) (by decide +kernel) (fun _ _ _ h => h) (Or.inl ⟨by rfl, ?_⟩) (by assumption) ?_
   rotate_left
   ·
    (intro w hSw; (try dsimp only at hSw); go_simp <;> (try with_reducible rfl))
   (try simp only [Act.put, List.setIfInBounds_toArray, List.set_cons_zero, List.set_cons_succ])
   refine wpAnyH_take (i := 6) (oi := Oper.mk (some 25) _ _ _ _ _) (v := ?_) rfl (by decide +kernel) (by decide +kernel) (by decide +kernel) (fun _ _ _ h => h) (Or.inl ⟨by rfl, ?_⟩) (by assumption) ?_
   rotate_left
   ·
    (intro w hSw; (try dsimp only at hSw); go_simp <;> (try with_reducible rfl))
   (try simp only [Act.put, List.setIfInBounds_toArray, List.set_cons_zero, List.set_cons_succ])
   refine wpAnyH_take (i := 7) (oi := Oper.mk (some 26) _ _ _ _ _) (v := ?_) rfl (by decide +kernel) (by decide +kernel) (by decide +kernel) (fun _ _ _ h => h) (Or.inl ⟨by rfl, ?_⟩) (by assumption) ?_
   rotate_left
   ·
    (intro w hSw; (try dsimp only at hSw); go_simp <;> (try with_reducible rfl))
   (try simp only [Act.put, List.setIfInBounds_toArray, List.set_cons_zero, List.set_cons_succ])
   refine wpAnyH_take (i := 8) (oi := Oper.mk (some 27) _ _ _ _ _) (v := ?_) rfl (by decide +kernel) (by decide +kernel) (by decide +kernel) (fun _ _ _ h => h) (Or.inl ⟨by rfl, ?_⟩) (by assumption) ?_
   rotate_left
   ·
    (intro w hSw; (try dsimp only at hSw); go_simp <;> (try with_reducible rfl))
   (try simp only [Act.put, List.setIfInBounds_toArray, List.set_cons_zero, List.set_cons_succ])
   refine wpAnyH_ready (rs := [0]) (by decide +kernel) (by simp) ?_
   refine AllReadyH.cons (o := Oper.mk (some 19) _ _ _ _ _) rfl (fun K hK => ?_) AllReadyH.nil
   go_simp
   clear hHeld
   refine hK.out _ _ (by (try dsimp only); exact KS.out _ (Below.refl _ _).drew) (fun hHeld => ?_)
   clear hK K
   (try simp only [Act.put, List.setIfInBounds_toArray, List.set_cons_zero, List.set_cons_succ])
   refine wpAnyH_ready (rs := [3]) (by decide +kernel) (by simp) ?_
   refine AllReadyH.cons (o := Oper.mk (some 22) _ _ _ _ _) rfl (fun K hK => ?_) AllReadyH.nil
   go_simp
   (go_at_call 56; (fail_if_success (have _g := hb4)); refine (pltimes_any n5 na o5 o1 l5 c5 l1 c1 (homo (p.drop (j + 1)) a.num (a.den : Int)) a.num _ (HI.out.1.later (Below.refl _ _).drew) (HI.out.2.1.later (Below.refl _ _).drew) (by omega) (by omega)).mono ?_; rintro e w4 ⟨n7, o7, l7, c7, rfl, hs7, ho7, hb'⟩; have hb4 : Below wr.heap.size wr w4 := bnext (Below.refl _ _).drew hb'; have H7 : Hid (IntAt w4 n7 o7 l7 c7 (homo (p.drop (j + 1)) a.num (a.den : Int) * a.num)) := ho7.int hs7; have hl7 : l7 ≤ 1000000 := (by rw [H7.out.lim]; exact HL.out.2.2.1); clear hs7 ho7 hb')
   (try go_wp2_with fail)
   clear hHeld
   refine hK.out _ _ (by (try dsimp only); exact KS.out _ hb4) (fun hHeld => ?_)
   clear hK K
   (try simp only [Act.put, List.setIfInBounds_toArray, List.set_cons_zero, List.set_cons_succ])
   refine wpAnyH_ready (rs := [9]) (by decide +kernel) (by simp) ?_
   refine AllReadyH.cons (o := Oper.mk (some 28) _ _ _ _ _) rfl (fun K hK => ?_) AllReadyH.nil
   go_simp
   (go_at_call 56; have _g := hb4; refine (pltimes_any n3 n6 o3 o6 l3 c3 l6 c6 (dig p j) ((a.den : Int) ^ (p.length - (j + 1))) _ (HI.out.2.2.1.later hb4) (HI.out.2.2.2.later hb4) (by omega) (by omega)).mono ?_; rintro e w5 ⟨n8, o8, l8, c8, rfl, hs8, ho8, hb'⟩; have hb5 : Below wr.heap.size wr w5 := bnext hb4 hb'; have H8 : Hid (IntAt w5 n8 o8 l8 c8 (dig p j * (a.den : Int) ^ (p.length - (j + 1))) ∧ IntAt w5 n7 o7 l7 c7 (homo (p.drop (j + 1)) a.num (a.den : Int) * a.num)) := ⟨ho8.int hs8, H7.out.later hb'⟩; have hl8 : l8 ≤ 1000000 := (by rw [H8.out.1.lim]; exact HL.out.2.2.2); clear hs8 ho8 hb')
   (try go_wp2_with fail)
   clear hHeld
   refine hK.out _ _ (by (try dsimp only); exact KS.out _ hb5) (fun hHeld => ?_)
   clear hK K
   (try simp only [Act.put, List.setIfInBounds_toArray, List.set_cons_zero, List.set_cons_succ])
   refine wpAnyH_ready (rs := [10]) (by decide +kernel) (by simp) ?_
   refine AllReadyH.cons (o := Oper.mk (some 29) _ _ _ _ _) rfl (fun K hK => ?_) AllReadyH.nil
   go_simp
   (go_at_call 55; refine (plplus_any n7 n8 o7 o8 l7 c7 l8 c8 (homo (p.drop (j + 1)) a.num (a.den : Int) * a.num) (dig p j * (a.den : Int) ^ (p.length - (j + 1))) _ H8.out.2 H8.out.1 (by omega) (by omega)).mono ?_; rw [HV.out]; rintro e w6 ⟨n9, o9, l9, c9, rfl, hs9, ho9, hb'⟩; have hb6 : Below wr.heap.size wr w6 := bnext hb5 hb'; have H9 : Hid (IntAt w6 n9 o9 l9 c9 (homo (p.drop j) a.num (a.den : Int))) := ho9.int hs9; clear hs9 ho9 hb'; obtain ⟨r0, r1⟩ := HX.out _ hb6; have hfz : ∀ m, w6.frozen? ⟨rs, m, none⟩ = false := fun m => (hb6.frozen (p := ⟨rs, m, none⟩) HRS.out.2).trans (HFZ.out.1 m))
   (try go_wp2_with fail)
   clear hHeld
   refine hK.out _ _ (by (try dsimp only); exact KS.out _ hb6) (fun hHeld => ?_)
   clear hK K
   (try simp only [Act.put, List.setIfInBounds_toArray, List.set_cons_zero, List.set_cons_succ])
   refine wpAnyH_ready (rs := [11]) (by decide +kernel) (by simp) ?_
   refine AllReadyH.cons (o := Oper.mk none _ _ _ _ _) rfl (fun K hK => ?_) AllReadyH.nil
   go_simp
   clear hHeld
   refine hK.out _ _ (by (try dsimp only); exact K2.out _ _ _ (K2.out _ _ _ (KS.out _ hb6))) (fun hHeld => ?_)
   clear hK K
   (try simp only [Act.put, List.setIfInBounds_toArray, List.set_cons_zero, List.set_cons_succ])
   refine wpAnyH_done (by decide +kernel) ?_ _
   refine NoPanic.normal ?_
   obtain ⟨V, hV⟩ : ∃ V, V = (w6.setCell ⟨rs, 0, none⟩ (.bool n9)).setCell ⟨rs, 1, none⟩ (.slice o9 l9 c9) := ⟨_, rfl⟩
   rw [← hV]
   have HVB : Hid (Below W.heap.size W V ∧ rt < V.heap.size ∧ (V.cell? ⟨rs, 0, none⟩ = some (.bool n9) ∧ V.cell? ⟨rs, 1, none⟩ = some (.slice o9 l9 c9)) ∧ (V.cell? ⟨rt, 0, none⟩ = some (.bool n6) ∧ V.cell? ⟨rt, 1, none⟩ = some (.slice o6 l6 c6)) ∧ (∀ m, V.frozen? ⟨rs, m, none⟩ = false) ∧ (∀ m, V.frozen? ⟨rt, m, none⟩ = false) ∧ IntAt V n9 o9 l9 c9 (homo (p.drop j) a.num (a.den : Int)) ∧ IntAt V n6 o6 l6 c6 ((a.den : Int) ^ (p.length - (j + 1))) ∧ RowAt V .u64 o2 l2 c2 (mag a.den)) := by
    have hk9 := K2.out _ 1 (.slice o9 l9 c9) (K2.out _ 0 (.bool n9) (KS.out _ hb6))
    have hb7 : Below W.heap.size W V := by rw [hV]; exact ((bnext HS.out hb6).setCell (p := ⟨rs, 0, none⟩) HRR.out.1 _).setCell (p := ⟨rs, 1, none⟩) HRR.out.1 _
    have e1 : (w6.setCell ⟨rs, 0, none⟩ (.bool n9)).cell? ⟨rs, 1, none⟩ = some (.slice o5 l5 c5) := by simp [go_sem, r0, r1]
    refine ⟨hb7, by rw [hV]; have := hb6.size; have := HRS.out.1; simp; omega, ?_, ?_, ?_, ?_, ?_, ?_, ?_⟩
    ·
     rw [hV]; exact ⟨by simp [go_sem, r0, r1], by simp [go_sem, r0, r1]⟩
    ·
     rw [hV]; exact ⟨hk9.2.2.2.2.1, hk9.2.2.2.2.2⟩
    ·
     intro m; rw [hV, soft_far, soft_far]; exact hfz m
    ·
     intro m; rw [hV, soft_far, soft_far]; exact (hb6.frozen (p := ⟨rt, m, none⟩) HRS.out.1).trans (HFZ.out.2 m)
    ·
     rw [hV]; exact (H9.out.cellKept r0 (fun z e => by cases e) _).cellKept e1 (fun z e => by cases e) _
    ·
     rw [hV]; exact ((HI.out.2.2.2.later hb6).cellKept r0 (fun z e => by cases e) _).cellKept e1 (fun z e => by cases e) _
    ·
     rw [hV]; exact ((HDEN.out.1.later hb6).cellKept r0 (fun z e => by cases e) _).cellKept e1 (fun z e => by cases e) _
   clear hV hHeld r0 r1 hfz H9 H8 H7 hb4 hb5 hb6 q0 q1 q2 q3
   by_cases hj : 0 < j
   ·
    have hjI : (0 : Int) < (j : Int) := by omega
    have t0 := HVB.out.2.2.2.1.1
    have t1 := HVB.out.2.2.2.1.2
    have t2 := HDEN.out.2.2 _ HVB.out.1
    have hl2 := HDEN.out.2.1
    go_wp2_with (go_at_call 56; refine (pltimes_any n6 false o6 o2 l6 c6 l2 c2 ((a.den : Int) ^ (p.length - (j + 1))) (a.den : Int) V HVB.out.2.2.2.2.2.2.2.1 (row_int HVB.out.2.2.2.2.2.2.2.2) (by omega) (by omega)).mono ?_; rintro e w8 ⟨n8, o8, l8, c8, rfl, hs8, ho8, hb8⟩; have H8 : Hid (IntAt w8 n8 o8 l8 c8 ((a.den : Int) ^ (p.length - j)) ∧ Below V.heap.size V w8) := ⟨by have e : (a.den : Int) ^ (p.length - (j + 1)) * (a.den : Int) = (a.den : Int) ^ (p.length - j) := (by rw [← Int.pow_succ]; congr 1; have := HJ.out.2; omega); rw [← e]; exact ho8.int hs8, hb8⟩; clear hs8 ho8; have y0 := (hb8.cell (p := ⟨rt, 0, none⟩) HVB.out.2.1).trans HVB.out.2.2.2.1.1; have y1 := (hb8.cell (p := ⟨rt, 1, none⟩) HVB.out.2.1).trans HVB.out.2.2.2.1.2; have y3 : ∀ m, w8.frozen? ⟨rt, m, none⟩ = false := fun m => (hb8.frozen (p := ⟨rt, m, none⟩) HVB.out.2.1).trans (HVB.out.2.2.2.2.2.1 m); clear hb8)
    go_roundw
    case rel =>
     have e1 : (w8.setCell ⟨rt, 0, none⟩ (.bool n8)).cell? ⟨rt, 1, none⟩ = some (.slice o6 l6 c6) := by simp [go_sem, y0, y1]
     have hrsv : rs < V.heap.size := by have := HRR.out.2; have := HVB.out.2.1; omega
     have hne : rs ≠ rt := fun e => HNE.out.2.2 e.symm
     refine ⟨j, by have := HJ.out.1; omega, by go_num, ((bnext HVB.out.1 H8.out.2).setCell (p := ⟨rt, 0, none⟩) (by show _ ≤ rt; have := HRR.out; omega) _).setCell (p := ⟨rt, 1, none⟩) (by show _ ≤ rt; have := HRR.out; omega) _, by (have := H8.out.2.size; have := HVB.out.2.1; simp; omega), n9, o9, l9, c9, n8, o8, l8, c8, ?_, ?_, ?_, ?_, ?_, ?_⟩
     ·
      exact ⟨by rw [cell_off hne, cell_off hne]; exact (H8.out.2.cell (p := ⟨rs, 0, none⟩) hrsv).trans HVB.out.2.2.1.1, by rw [cell_off hne, cell_off hne]; exact (H8.out.2.cell (p := ⟨rs, 1, none⟩) hrsv).trans HVB.out.2.2.1.2⟩
     ·
      exact ⟨by simp [go_sem, y0, y1], by simp [go_sem, y0, y1]⟩
     ·
      intro m; rw [soft_far, soft_far]; exact (H8.out.2.frozen (p := ⟨rs, m, none⟩) hrsv).trans (HVB.out.2.2.2.2.1 m)
     ·
      intro m; rw [soft_far, soft_far]; exact y3 m
     ·
      exact ((HVB.out.2.2.2.2.2.2.1.later H8.out.2).cellKept y0 (fun z e => by cases e) _).cellKept e1 (fun z e => by cases e) _
     ·
      rw [if_neg (by omega)]; exact (H8.out.1.cellKept y0 (fun z e => by cases e) _).cellKept e1 (fun z e => by cases e) _
    case measure => simp [intOf]
   ·
    have hjI : ¬ (0 : Int) < (j : Int) := by omega
    go_wp2
    go_roundw
    case rel =>
     refine ⟨j, by have := HJ.out.1; omega, by go_num, HVB.out.1, HVB.out.2.1, n9, o9, l9, c9, n6, o6, l6, c6, HVB.out.2.2.1, HVB.out.2.2.2.1, HVB.out.2.2.2.2.1, HVB.out.2.2.2.2.2.1, HVB.out.2.2.2.2.2.2.1, ?_⟩
     rw [if_pos (by omega)]
     have h := HVB.out.2.2.2.2.2.2.2.1
     have e : p.length - (j + 1) = p.length - 1 := by omega
     rw [e] at h; exact h
    case measure => simp [intOf]
structure GP (w : World) (ao : Option Addr) (la ca A : Nat) (p : List Int) : Prop where
 at' : PolyAt w ao la ca p
 lead : Lead p
 lims : Lim A p
 short : la ≤ 50
 small : A ≤ 100000
theorem GP.later {w w' : World} {ao : Option Addr} {la ca A : Nat} {p : List Int} (h : GP w ao la ca A p) (hb : Below w.heap.size w w') : GP w' ao la ca A p := ⟨h.at'.later hb, h.lead, h.lims, h.short, h.small⟩
theorem GP.check {w : World} {ao : Option Addr} {la ca A : Nat} {p : List Int} (h : GP w ao la ca A p) : Calls Tryz.prog 27 #[.slice ao la ca] w fun e w' => e = .returned (.int .i64 0) ∧ Below w.heap.size w w' :=
 pcheck_ok ao la ca p w h.at' (by have := h.short; omega) h.lead (h.lims.mono (by have := h.small; omega))
theorem geval_any (ao : Option Addr) (len cap A : Nat) (p : List Int) (na : Bool) (o1 o2 : Option Addr) (l1 c1 l2 c2 : Nat) (a : Rat) (w : World) (hp : GP w ao len cap A p) (hA : A ≤ 10000) (ha : RatAt w na o1 l1 c1 o2 l2 c2 a) (hs : lim a.num ≤ 2 ∧ lim (a.den : Int) ≤ 2) (hT0 : TabAt 0 Lib.deBruijn64tab w) :
  Calls Tryz.prog 9 #[.slice ao len cap, .agg #[.bool na, .slice o1 l1 c1, .slice o2 l2 c2]] w fun e w' => NewRatErr w w' e (evQ p a) := by
 obtain ⟨W, hT⟩ := ROne2.mk' w na o1 o2 l1 c1 l2 c2
 have hsz := hT.size
 have hl1 : l1 ≤ 2 := by rw [ha.num.lim]; exact hs.1
 have hl2 : l2 ≤ 2 := by have h := (row_int ha.den).lim; have := hs.2; omega
 have h1 := (hp.later hT.below).check
 have h2 : ∀ V, Below W.heap.size W V → Calls Tryz.prog 28 #[.agg #[.bool na, .slice o1 l1 c1, .slice o2 l2 c2]] V fun e w' => e = .returned (.int .i64 0) ∧ Below V.heap.size V w' := fun V hb => rcheck_good na o1 o2 l1 c1 l2 c2 a V ((ha.later hT.below).later hb) (by omega) (by omega) (tab_later (tab_later hT0 hT.below) hb)
 have h3 : ∀ V, Below W.heap.size W V → Calls Tryz.prog 29 #[.slice ao len cap, .agg #[.bool na, .slice o1 l1 c1, .slice o2 l2 c2]] V fun e w' => NewRat V w' e (evQ p a) := fun V hb => value_any ao len cap A p na o1 o2 l1 c1 l2 c2 a V ((hp.later hT.below).later hb).at' ((ha.later hT.below).later hb) (by have := hp.short; omega) hA hp.lims hs (tab_later (tab_later hT0 hT.below) hb)
 clear hp ha hs hT0 hA
 obtain ⟨p0, p1, p2⟩ := hT.a
 go_enter Tryz.func9, Tryz.ntmps9
 go_wp2_with (first
  | (go_at_call 29; refine (h3 _ hb2).mono ?_; rintro e w3 ⟨n9, o9, l9, c9, p9, m9, k9, rfl, hs9, ho9, hp9, hpt, hb3⟩; have HA : Hid (n9 = sgB (evQ p a).num ∧ Own W.heap.size w3 .u64 60 o9 l9 c9 (mag (evQ p a).num.natAbs) ∧ Own W.heap.size w3 .u64 60 p9 m9 k9 (mag (evQ p a).den) ∧ Parted o9 p9 ∧ Below W.heap.size W w3) := ⟨hs9, ho9.mono hb2.size, hp9.mono hb2.size, hpt, bnext hb2 hb3⟩; clear hs9 ho9 hp9 hpt hb3; obtain ⟨g5, g2, g3, g4⟩ := hT.r.later HA.out.2.2.2.2 (by omega))
  | (go_at_call 27; rw [← hT.eq]; refine h1.mono ?_; rintro e w1 ⟨rfl, hb1⟩; clear p0 p1 p2; obtain ⟨p0, p1, p2⟩ := hT.a.later hb1 (by omega))
  | (go_at_call 28; refine (h2 _ hb1).mono ?_; rintro e w2 ⟨rfl, hb2'⟩; have hb2 := bnext hb1 hb2'; clear hb2' p0 p1 p2; obtain ⟨p0, p1, p2⟩ := hT.a.later hb2 (by omega)))
 exact bodyPost_ret (v := .tuple #[.agg #[.bool n9, .slice o9 l9 c9, .slice p9 m9 k9], .int .i64 0]) (by simp [results, Tryz.results9, go_sem, g2, g3, g4]) rfl
  ⟨_, _, _, _, _, _, _, rfl, HA.out.1, (HA.out.2.1.store3 (by omega) _ _ _).mono (by omega), (HA.out.2.2.1.store3 (by omega) _ _ _).mono (by omega), HA.out.2.2.2.1, below_store3 (bnext hT.below HA.out.2.2.2.2) (by omega) _ _ _⟩
theorem qcmp_any (na nb : Bool) (ao po bo qo : Option Addr) (la ca lp cp lb cb lq cq : Nat) (a b : Rat) (w : World) (hx : RatAt w na ao la ca po lp cp a) (hy : RatAt w nb bo lb cb qo lq cq b) (ha : Sz a 1000) (hb : Sz b 1000) (c : Int) (hc : cmpQ a b = c) :
  Calls Tryz.prog 26 #[.agg #[.bool na, .slice ao la ca, .slice po lp cp], .agg #[.bool nb, .slice bo lb cb, .slice qo lq cq]] w fun e w' => e = .returned (.int .i64 c) ∧ Below w.heap.size w w' := by
 obtain ⟨W, hT⟩ := RTwo2.mk' w na nb ao po bo qo la ca lp cp lb cb lq cq
 have hsz := hT.size
 have HX : Hid (RatAt W na ao la ca po lp cp a ∧ RatAt W nb bo lb cb qo lq cq b ∧ Below w.heap.size w W) := ⟨hx.later hT.below, hy.later hT.below, hT.below⟩
 have hla : la ≤ 1000 := (hx.len ha).1
 have hlp : lp ≤ 1000 := (hx.len ha).2
 have hlb : lb ≤ 1000 := (hy.len hb).1
 have hlq : lq ≤ 1000 := (hy.len hb).2
 have KW : Hid (∀ w' : World, Below W.heap.size W w' → w'.cell? ⟨w.heap.size, 0, none⟩ = some (.bool na) ∧ w'.cell? ⟨w.heap.size, 1, none⟩ = some (.slice ao la ca) ∧ w'.cell? ⟨w.heap.size, 2, none⟩ = some (.slice po lp cp) ∧ w'.cell? ⟨w.heap.size + 1, 0, none⟩ = some (.bool nb) ∧ w'.cell? ⟨w.heap.size + 1, 1, none⟩ = some (.slice bo lb cb) ∧ w'.cell? ⟨w.heap.size + 1, 2, none⟩ = some (.slice qo lq cq)) := fun w' h => ⟨(h.cell (p := ⟨w.heap.size, 0, none⟩) (by show w.heap.size < _; omega)).trans hT.a.1, (h.cell (p := ⟨w.heap.size, 1, none⟩) (by show w.heap.size < _; omega)).trans hT.a.2.1, (h.cell (p := ⟨w.heap.size, 2, none⟩) (by show w.heap.size < _; omega)).trans hT.a.2.2, (h.cell (p := ⟨w.heap.size + 1, 0, none⟩) (by show w.heap.size + 1 < _; omega)).trans hT.b.1, (h.cell (p := ⟨w.heap.size + 1, 1, none⟩) (by show w.heap.size + 1 < _; omega)).trans hT.b.2.1, (h.cell (p := ⟨w.heap.size + 1, 2, none⟩) (by show w.heap.size + 1 < _; omega)).trans hT.b.2.2⟩
 have HC : Hid (cmpI (a.num * (b.den : Int)) (b.num * (a.den : Int)) = c) := hc
 have HL : Hid ((mag (a.num * (b.den : Int)).natAbs).length ≤ 3000 ∧ (mag (b.num * (a.den : Int)).natAbs).length ≤ 3000) := by
  have h2 := mul_len a.num (b.den : Int)
  have h3 := mul_len b.num (a.den : Int)
  rw [Int.natAbs_natCast] at h2 h3
  have := ha.1; have := ha.2; have := hb.1; have := hb.2
  refine ⟨?_, ?_⟩ <;> omega
 clear hx hy ha hb hc
 go_enter Tryz.func26, Tryz.ntmps26
 go_upto_region 1 with fail
 rw [← hT.eq]
 clear hT
 have hzU : W.heap.size ≤ W.drew.heap.size := Nat.le_refl _
 have S0 : Step8 0 := ⟨trivial⟩
 go_region_held3 (fun w' => (w'.cell? ⟨w.heap.size, 0, none⟩ = some (.bool na) ∧ w'.cell? ⟨w.heap.size, 1, none⟩ = some (.slice ao la ca) ∧ w'.cell? ⟨w.heap.size, 2, none⟩ = some (.slice po lp cp) ∧ w'.cell? ⟨w.heap.size + 1, 0, none⟩ = some (.bool nb) ∧ w'.cell? ⟨w.heap.size + 1, 1, none⟩ = some (.slice bo lb cb) ∧ w'.cell? ⟨w.heap.size + 1, 2, none⟩ = some (.slice qo lq cq)))
  (with_reducible (first | exact KW.out _ (Below.refl _ _).drew | exact KW.out _ (by assumption) | (refine KW.out _ ?_; (repeat (first | refine below_alloc ?_ (Nat.le_refl _) | refine Below.drew ?_ | refine below_set ?_ (by omega))); (first | exact hbF5 | exact hbF4 | exact hbF3 | exact hbF2 | exact hbF1 | exact Below.refl _ _))))
  (first
   | (have _t := S0; go_at_call 50; refine with_held (S := fun w9 => Below W.heap.size W w9) (by show Below _ _ _; with_reducible ((repeat (first | refine below_alloc ?_ (Nat.le_refl _) | refine Below.drew ?_ | refine below_set ?_ (by omega))); (first | exact hbF5 | exact hbF4 | exact hbF3 | exact hbF2 | exact hbF1 | exact Below.refl _ _))) (fun hS => ?_); refine (qden_any nb bo qo lb cb lq cq _ (by omega)).mono ?_; rintro e f1 ⟨rfl, hb⟩; skip; have hbF1 : Below W.heap.size W f1 := bnext hS hb; have hzF1 := hbF1.size; clear hS hb S0; have S1 : Step8 1 := ⟨trivial⟩)
   | (have _t := S1; go_at_call 49; refine with_held (S := fun w9 => Below W.heap.size W w9) (by show Below _ _ _; with_reducible ((repeat (first | refine below_alloc ?_ (Nat.le_refl _) | refine Below.drew ?_ | refine below_set ?_ (by omega))); (first | exact hbF5 | exact hbF4 | exact hbF3 | exact hbF2 | exact hbF1 | exact Below.refl _ _))) (fun hS => ?_); refine with_held (S := fun w9 => Below f1.heap.size f1 w9) (by show Below _ _ _; with_reducible ((repeat (refine below_alloc ?_ (Nat.le_refl _))); exact Below.refl _ _)) (fun hS2 => ?_); refine (rtimes_any na false ao qo la ca lq cq a.num (b.den : Int) _ (HX.out.1.num.later hS) (row_int (HX.out.2.1.den.later hS)) (by omega) (by omega)).mono ?_; rintro e f2 ⟨n1, o1, l1, c1, rfl, hs, ho, hb⟩; have H2 : Hid (IntAt f2 n1 o1 l1 c1 (a.num * (b.den : Int))) := ho.int hs; have hl1 : l1 ≤ 3000 := (by rw [ho.row.hlen]; exact HL.out.1); clear hs ho; have hbF2 : Below W.heap.size W f2 := bnext hS hb; have hzF2 := hbF2.size; clear hS hb S1; clear hS2; have S2 : Step8 2 := ⟨trivial⟩)
   | (have _t := S2; go_at_call 50; refine with_held (S := fun w9 => Below W.heap.size W w9) (by show Below _ _ _; with_reducible ((repeat (first | refine below_alloc ?_ (Nat.le_refl _) | refine Below.drew ?_ | refine below_set ?_ (by omega))); (first | exact hbF5 | exact hbF4 | exact hbF3 | exact hbF2 | exact hbF1 | exact Below.refl _ _))) (fun hS => ?_); refine with_held (S := fun w9 => Below f2.heap.size f2 w9) (by show Below _ _ _; with_reducible ((repeat (refine below_alloc ?_ (Nat.le_refl _))); exact Below.refl _ _)) (fun hS2 => ?_); refine (qden_any na ao po la ca lp cp _ (by omega)).mono ?_; rintro e f3 ⟨rfl, hb⟩; have H3 : Hid (IntAt f3 n1 o1 l1 c1 (a.num * (b.den : Int))) := H2.out.later (bnext hS2 hb); have hbF3 : Below W.heap.size W f3 := bnext hS hb; have hzF3 := hbF3.size; clear hS hb S2; clear hS2; have S3 : Step8 3 := ⟨trivial⟩)
   | (have _t := S3; go_at_call 49; refine with_held (S := fun w9 => Below W.heap.size W w9) (by show Below _ _ _; with_reducible ((repeat (first | refine below_alloc ?_ (Nat.le_refl _) | refine Below.drew ?_ | refine below_set ?_ (by omega))); (first | exact hbF5 | exact hbF4 | exact hbF3 | exact hbF2 | exact hbF1 | exact Below.refl _ _))) (fun hS => ?_); refine with_held (S := fun w9 => Below f3.heap.size f3 w9) (by show Below _ _ _; with_reducible ((repeat (refine below_alloc ?_ (Nat.le_refl _))); exact Below.refl _ _)) (fun hS2 => ?_); refine (rtimes_any nb false bo po lb cb lp cp b.num (a.den : Int) _ (HX.out.2.1.num.later hS) (row_int (HX.out.1.den.later hS)) (by omega) (by omega)).mono ?_; rintro e f4 ⟨n2, o2, l2, c2, rfl, hs, ho, hb⟩; have H4 : Hid (IntAt f4 n1 o1 l1 c1 (a.num * (b.den : Int)) ∧ IntAt f4 n2 o2 l2 c2 (b.num * (a.den : Int))) := ⟨H3.out.later (bnext hS2 hb), ho.int hs⟩; have hl2 : l2 ≤ 3000 := (by rw [ho.row.hlen]; exact HL.out.2); clear hs ho; have hbF4 : Below W.heap.size W f4 := bnext hS hb; have hzF4 := hbF4.size; clear hS hb S3; clear hS2; have S4 : Step8 4 := ⟨trivial⟩)
   | (have _t := S4; go_at_call 48; refine with_held (S := fun w9 => Below W.heap.size W w9) (by show Below _ _ _; with_reducible ((repeat (first | refine below_alloc ?_ (Nat.le_refl _) | refine Below.drew ?_ | refine below_set ?_ (by omega))); (first | exact hbF5 | exact hbF4 | exact hbF3 | exact hbF2 | exact hbF1 | exact Below.refl _ _))) (fun hS => ?_); refine with_held (S := fun w9 => Below f4.heap.size f4 w9) (by show Below _ _ _; with_reducible ((repeat (refine below_alloc ?_ (Nat.le_refl _))); exact Below.refl _ _)) (fun hS2 => ?_); refine (rcmp_any n1 n2 o1 o2 l1 c1 l2 c2 _ _ _ (H4.out.1.later hS2) (H4.out.2.later hS2) (by omega) (by omega) c HC.out).mono ?_; rintro e f5 ⟨rfl, hb⟩; skip; have hbF5 : Below W.heap.size W f5 := bnext hS hb; have hzF5 := hbF5.size; clear hS hb S4; clear hS2; skip))
 all_goals go_wp2
 go_ret
 exact ⟨rfl, bnext HX.out.2.2 hbF5⟩
end Go.Proofs.YthjkdnlbdhhmbaaGreatDoor
