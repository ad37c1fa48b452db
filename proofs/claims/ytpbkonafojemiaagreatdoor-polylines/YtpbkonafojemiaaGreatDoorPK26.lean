/-
  A pack of walks and facts: YB, YI, ZE, YJ, YG, YK.
-/
import Derived.Test.YtpbkonafojemiaaGreatDoorPK21
import Derived.Test.YtpbkonafojemiaaGreatDoorPK22
import Derived.Test.YtpbkonafojemiaaGreatDoorPK24
import Derived.Test.YtpbkonafojemiaaGreatDoorPK25
set_option maxRecDepth 100000
set_option maxHeartbeats 40000000
set_option linter.unusedVariables false
set_option linter.unusedSimpArgs false
namespace Go.Proofs.YtpbkonafojemiaaGreatDoor
open Go.RowKit
theorem value_any (ao : Option Addr) (len cap A : Nat) (p : List Int) (na : Bool) (o1 o2 : Option Addr) (l1 c1 l2 c2 : Nat) (a : Rat) (w : World) (hp : PolyAt w ao len cap p) (ha : RatAt w na o1 l1 c1 o2 l2 c2 a) (hl : len ≤ 64) (hA : A ≤ 10000) (hlp : Lim A p) (hs : lim a.num ≤ 2 ∧ lim (a.den : Int) ≤ 2) (hT0 : TabAt 0 Lib.deBruijn64tab w) :
  Calls Tryz.prog 26 #[.slice ao len cap, .agg #[.bool na, .slice o1 l1 c1, .slice o2 l2 c2]] w fun e w' => NewRat w w' e (evQ p a) := by
 obtain ⟨W, hW⟩ : ∃ W, W = (w.alloc (.cells #[.bool na, .slice o1 l1 c1, .slice o2 l2 c2] 30)).alloc (.cells #[.bool false, .slice none 0 0, .slice none 0 0] 30) := ⟨_, rfl⟩
 have HW : Hid (Below w.heap.size w W ∧ W.heap.size = w.heap.size + 2 ∧ (W.cell? ⟨w.heap.size, 0, none⟩ = some (.bool na) ∧ W.cell? ⟨w.heap.size, 1, none⟩ = some (.slice o1 l1 c1) ∧ W.cell? ⟨w.heap.size, 2, none⟩ = some (.slice o2 l2 c2)) ∧ (∀ m, W.frozen? ⟨w.heap.size + 1, m, none⟩ = false) ∧ W.cell? ⟨w.heap.size + 1, 0, none⟩ = some (.bool false) ∧ W.cell? ⟨w.heap.size + 1, 1, none⟩ = some (.slice none 0 0) ∧ W.cell? ⟨w.heap.size + 1, 2, none⟩ = some (.slice none 0 0)) := by
  rw [hW]
  exact ⟨((Below.refl _ _).alloc (Nat.le_refl _) _).alloc (by simp) _, by simp, ⟨by simp [go_sem], by simp [go_sem], by simp [go_sem]⟩, fun m => by simp [go_sem], by simp [go_sem], by simp [go_sem], by simp [go_sem]⟩
 have HR : Hid (PolyAt W ao len cap p ∧ RatAt W na o1 l1 c1 o2 l2 c2 a ∧ Lim A p ∧ len = p.length ∧ lim a.num ≤ 2 ∧ lim (a.den : Int) ≤ 2 ∧ TabAt 0 Lib.deBruijn64tab W ∧ A ≤ 10000) := ⟨hp.later HW.out.1, ha.later HW.out.1, hlp, hp.hlen, hs.1, hs.2, tab_later hT0 HW.out.1, hA⟩
 have HLL : Hid (∀ k, lim (homo (p.drop k) a.num (a.den : Int)) ≤ 648960 ∧ lim ((a.den : Int) ^ (if k = 0 then p.length - 1 else p.length - k)) ≤ 129) := fun k => by
  have h1 := homo_lim A 64 a.num (a.den : Int) hs.1 hs.2 (p.drop k) (drop_lim hlp) (by rw [List.length_drop]; have := hp.hlen; omega)
  have h2 : (p.drop k).length * (A + 2 * 64 + 5) ≤ 64 * 10140 := Nat.mul_le_mul (by rw [List.length_drop]; have := hp.hlen; omega) (by omega)
  refine ⟨by omega, ?_⟩
  have h3 := lim_pow (a.den : Int) (if k = 0 then p.length - 1 else p.length - k) hs.2
  have h4 := hp.hlen
  split at h3 <;> simp_all <;> omega
 clear hp ha hlp hs hT0 hA
 go_enter Tryz.func26, Tryz.ntmps26
 go_wp2_with (go_at_call 41; rw [← hW]; clear hW; refine (from_any 1 _ (by decide) (by decide)).mono ?_; rintro e w1 ⟨n0, o0, l0, c0, rfl, hs0, ho0, hb1⟩)
 obtain ⟨rs, hrs0⟩ : ∃ r, r = w1.heap.size := ⟨_, rfl⟩
 obtain ⟨rt, hrt0⟩ : ∃ r, r = w1.heap.size + 1 := ⟨_, rfl⟩
 obtain ⟨Y, hY⟩ : ∃ Y, Y = (w1.alloc (.cells #[.bool false, .slice none 0 0] 28)).alloc (.cells #[.bool n0, .slice o0 l0 c0] 28) := ⟨_, rfl⟩
 rw [hs0] at hY
 rw [← hY, ← hrt0, ← hrs0]
 have HY : Hid (Below W.heap.size W Y ∧ rt < Y.heap.size ∧ (Y.cell? ⟨rs, 0, none⟩ = some (.bool false) ∧ Y.cell? ⟨rs, 1, none⟩ = some (.slice none 0 0)) ∧ (Y.cell? ⟨rt, 0, none⟩ = some (.bool (sgB 1)) ∧ Y.cell? ⟨rt, 1, none⟩ = some (.slice o0 l0 c0)) ∧ (∀ m, Y.frozen? ⟨rs, m, none⟩ = false) ∧ (∀ m, Y.frozen? ⟨rt, m, none⟩ = false) ∧ IntAt Y (sgB 1) o0 l0 c0 1) := by
  have hb2 : Below w1.heap.size w1 Y := by rw [hY]; exact ((Below.refl _ _).alloc (Nat.le_refl _) _).alloc (by simp) _
  refine ⟨bnext hb1 hb2, by rw [hY, hrt0]; simp, ?_, ?_, ?_, ?_, (ho0.int rfl).later hb2⟩
  ·
   rw [hY, hrs0]; exact ⟨by simp [go_sem], by simp [go_sem]⟩
  ·
   rw [hY, hrt0]; exact ⟨by simp [go_sem], by simp [go_sem]⟩
  ·
   intro m; rw [hY, hrs0]; simp [go_sem]
  ·
   intro m; rw [hY, hrt0]; simp [go_sem]
 have HRR : Hid (W.heap.size ≤ rs ∧ rt = rs + 1) := ⟨by rw [hrs0]; exact hb1.size, by omega⟩
 clear hY hrs0 hrt0 hs0 ho0 hb1
 go_loopw [7] (fun i wr => ∃ k : Nat, k ≤ len ∧ i = .int .i64 ((k : Int) - 1) ∧ Below W.heap.size W wr ∧ rt < wr.heap.size ∧ ∃ n5 o5 l5 c5 n6 o6 l6 c6, (wr.cell? ⟨rs, 0, none⟩ = some (.bool n5) ∧ wr.cell? ⟨rs, 1, none⟩ = some (.slice o5 l5 c5)) ∧ (wr.cell? ⟨rt, 0, none⟩ = some (.bool n6) ∧ wr.cell? ⟨rt, 1, none⟩ = some (.slice o6 l6 c6)) ∧ (∀ m, wr.frozen? ⟨rs, m, none⟩ = false) ∧ (∀ m, wr.frozen? ⟨rt, m, none⟩ = false) ∧ IntAt wr n5 o5 l5 c5 (homo (p.drop k) a.num (a.den : Int)) ∧ IntAt wr n6 o6 l6 c6 ((a.den : Int) ^ (if k = 0 then p.length - 1 else p.length - k))) (fun i _ => (intOf i + 1).toNat)
 case atStart =>
  refine ⟨len, Nat.le_refl _, rfl, HY.out.1, HY.out.2.1, false, none, 0, 0, sgB 1, o0, l0, c0, HY.out.2.2.1, HY.out.2.2.2.1, HY.out.2.2.2.2.1, HY.out.2.2.2.2.2.1, ?_, ?_⟩
  ·
   rw [HR.out.2.2.2.1, List.drop_length]; exact ⟨rfl, RowAt.nilRow _ _⟩
  ·
   have e : (if len = 0 then p.length - 1 else p.length - len) = 0 := by have := HR.out.2.2.2.1; split <;> omega
   rw [e, Int.pow_zero]; exact HY.out.2.2.2.2.2.2
 case round =>
  obtain ⟨k, hk, rfl, hbel, hrt, n5, o5, l5, c5, n6, o6, l6, c6, ⟨q0, q1⟩, ⟨q2, q3⟩, hfz0, hfz1, hi5, hi6⟩ := hrel
  have HS : Hid (Below W.heap.size W wr) := hbel
  have HRS : Hid (rt < wr.heap.size ∧ rs < wr.heap.size) := ⟨hrt, by have := HRR.out.2; omega⟩
  have HFZ : Hid ((∀ m, wr.frozen? ⟨rs, m, none⟩ = false) ∧ (∀ m, wr.frozen? ⟨rt, m, none⟩ = false)) := ⟨hfz0, hfz1⟩
  have hl5 : l5 ≤ 648960 := by rw [hi5.lim]; exact (HLL.out k).1
  have hl6 : l6 ≤ 129 := by rw [hi6.lim]; exact (HLL.out k).2
  have HI0 : Hid (IntAt wr n5 o5 l5 c5 (homo (p.drop k) a.num (a.den : Int)) ∧ IntAt wr n6 o6 l6 c6 ((a.den : Int) ^ (if k = 0 then p.length - 1 else p.length - k))) := ⟨hi5, hi6⟩
  clear hi5 hi6 hfz0 hfz1 hrt
  by_cases hk0 : k = 0
  ·
   subst hk0
   have hWs := HW.out.2.1
   obtain ⟨D, hD⟩ : ∃ D : Nat, D = a.den ^ (p.length - 1) := ⟨_, rfl⟩
   have hDI : (D : Int) = (a.den : Int) ^ (p.length - 1) := by rw [hD]; exact Int.natCast_pow _ _
   have hD0 : D ≠ 0 := by rw [hD]; exact Nat.ne_of_gt (Nat.pow_pos (Nat.pos_of_ne_zero a.den_nz))
   have HM : Hid (RowAt wr .u64 o5 l5 c5 (mag (homo p a.num (a.den : Int)).natAbs) ∧ RowAt wr .u64 o6 l6 c6 (mag D) ∧ n5 = sgB (homo p a.num (a.den : Int)) ∧ evQ p a = Rat.normalize (homo p a.num (a.den : Int)) D hD0) := by
    have h1 := HI0.out.1
    have h2 := HI0.out.2
    rw [List.drop_zero] at h1
    rw [if_pos rfl, ← hDI] at h2
    have h3 := h2.row
    rw [Int.natAbs_natCast] at h3
    exact ⟨h1.row, h3, h1.sg, homo_rat p a D hDI hD0⟩
   clear HI0 hD hDI
   have HMD : Hid (mayB false (mag D) = true) := by
    have h := mayB_int (D : Int)
    have e : sgB (D : Int) = false := by simp [sgB]
    rw [e, Int.natAbs_natCast] at h
    exact h
   have HW8 : Hid (∀ V, Below W.heap.size W V → V.cell? ⟨w.heap.size + 1, 0, none⟩ = some (.bool false) ∧ V.cell? ⟨w.heap.size + 1, 1, none⟩ = some (.slice none 0 0) ∧ V.cell? ⟨w.heap.size + 1, 2, none⟩ = some (.slice none 0 0) ∧ ∀ m, V.frozen? ⟨w.heap.size + 1, m, none⟩ = false) := fun V hb => ⟨(hb.cell (p := ⟨w.heap.size + 1, 0, none⟩) (by show w.heap.size + 1 < _; omega)).trans HW.out.2.2.2.2.1, (hb.cell (p := ⟨w.heap.size + 1, 1, none⟩) (by show w.heap.size + 1 < _; omega)).trans HW.out.2.2.2.2.2.1, (hb.cell (p := ⟨w.heap.size + 1, 2, none⟩) (by show w.heap.size + 1 < _; omega)).trans HW.out.2.2.2.2.2.2, fun m => (hb.frozen (p := ⟨w.heap.size + 1, m, none⟩) (by show w.heap.size + 1 < _; omega)).trans (HW.out.2.2.2.1 m)⟩
   have HWs : Hid (W.heap.size = w.heap.size + 2) := hWs
   clear hWs
   have HT9 : Hid (TabAt 0 Lib.deBruijn64tab wr) := tab_later HR.out.2.2.2.2.2.2.1 HS.out
   go_wp2_with (go_at_call 44; refine (make_good n5 o5 o6 l5 c5 l6 c6 (mag (homo p a.num (a.den : Int)).natAbs) (mag D) (homo p a.num (a.den : Int)) D wr HM.out.1 HM.out.2.1 (by omega) (by omega) (by rw [HM.out.2.2.1]; exact mayB_int _) HMD.out ⟨rfl, HM.out.2.2.1⟩ rfl hD0 HT9.out (evQ p a) HM.out.2.2.2).mono ?_; rintro e w9 ⟨n9, o9, l9, c9, p9, m9, k9, rfl, hs9, ho9, hp9, hpt, hb9⟩; have H9 : Hid (n9 = sgB (evQ p a).num ∧ Own wr.heap.size w9 .u64 56 o9 l9 c9 (mag (evQ p a).num.natAbs) ∧ Own wr.heap.size w9 .u64 56 p9 m9 k9 (mag (evQ p a).den) ∧ Parted o9 p9 ∧ Below wr.heap.size wr w9) := ⟨hs9, ho9, hp9, hpt, hb9⟩; clear hs9 ho9 hp9 hpt hb9; have hb8 : Below W.heap.size W w9 := bnext HS.out H9.out.2.2.2.2; have hA9 : Below w9.heap.size w9 (w9.alloc (.cells #[.bool n9, .slice o9 l9 c9, .slice p9 m9 k9] 30)) := (Below.refl _ _).alloc (Nat.le_refl _) _; obtain ⟨s0, s1, s2, s3⟩ := HW8.out _ (bnext hb8 hA9))
   have hWs := HWs.out
   have hwr := HS.out.size
   have h9s := H9.out.2.2.2.2.size
   exact bodyPost_ret (v := .agg #[.bool n9, .slice o9 l9 c9, .slice p9 m9 k9]) (by simp [results, Tryz.results26, go_sem, s0, s1, s2]) rfl
    ⟨_, _, _, _, _, _, _, rfl, H9.out.1, ((H9.out.2.1.later hA9).store3 (r := w.heap.size + 1) (by omega) _ _ _).mono (by omega), ((H9.out.2.2.1.later hA9).store3 (r := w.heap.size + 1) (by omega) _ _ _).mono (by omega), H9.out.2.2.2.1, below_store3 (bnext (bnext HW.out.1 (bnext HS.out H9.out.2.2.2.2)) hA9) (by omega) _ _ _⟩
  ·
   obtain ⟨j, rfl⟩ : ∃ j, k = j + 1 := ⟨k - 1, by omega⟩
   have hki : ((j + 1 : Nat) : Int) - 1 = (j : Int) := by omega
   rw [hki]
   have hjp : j < p.length := by rw [← HR.out.2.2.2.1]; omega
   obtain ⟨b, off, n3, o3, l3, c3, rfl, f0, f1, hi3⟩ := HR.out.1.at (show j < len by omega)
   have KS : Hid (∀ w', Below wr.heap.size wr w' → w'.cell? ⟨w.heap.size, 0, none⟩ = some (.bool na) ∧ w'.cell? ⟨w.heap.size, 1, none⟩ = some (.slice o1 l1 c1) ∧ w'.cell? ⟨b, off + j * 2, none⟩ = some (.bool n3) ∧ w'.cell? ⟨b, off + j * 2 + 1, none⟩ = some (.slice o3 l3 c3) ∧ w'.cell? ⟨rt, 0, none⟩ = some (.bool n6) ∧ w'.cell? ⟨rt, 1, none⟩ = some (.slice o6 l6 c6)) := fun w' hb => by
    have hbW := bnext HS.out hb
    exact ⟨(hbW.cell (p := ⟨w.heap.size, 0, none⟩) (by show w.heap.size < _; have := HW.out.2.1; omega)).trans HW.out.2.2.1.1, (hbW.cell (p := ⟨w.heap.size, 1, none⟩) (by show w.heap.size < _; have := HW.out.2.1; omega)).trans HW.out.2.2.1.2.1, (hbW.cell (p := ⟨b, off + j * 2, none⟩) (cell_lt f0)).trans f0, (hbW.cell (p := ⟨b, off + j * 2 + 1, none⟩) (cell_lt f1)).trans f1, (hb.cell (p := ⟨rt, 0, none⟩) HRS.out.1).trans q2, (hb.cell (p := ⟨rt, 1, none⟩) HRS.out.1).trans q3⟩
   have HNE : Hid (w.heap.size ≠ rs ∧ b ≠ rs ∧ rt ≠ rs) := ⟨by have := HW.out.2.1; have := HRR.out.1; omega, by have := cell_lt f0; have := HRR.out.1; simp only at *; omega, by have := HRR.out.2; omega⟩
   have K2 : Hid (∀ (w' : World) (i : Nat) (x : Value), (w'.cell? ⟨w.heap.size, 0, none⟩ = some (.bool na) ∧ w'.cell? ⟨w.heap.size, 1, none⟩ = some (.slice o1 l1 c1) ∧ w'.cell? ⟨b, off + j * 2, none⟩ = some (.bool n3) ∧ w'.cell? ⟨b, off + j * 2 + 1, none⟩ = some (.slice o3 l3 c3) ∧ w'.cell? ⟨rt, 0, none⟩ = some (.bool n6) ∧ w'.cell? ⟨rt, 1, none⟩ = some (.slice o6 l6 c6)) → ((w'.setCell ⟨rs, i, none⟩ x).cell? ⟨w.heap.size, 0, none⟩ = some (.bool na) ∧ (w'.setCell ⟨rs, i, none⟩ x).cell? ⟨w.heap.size, 1, none⟩ = some (.slice o1 l1 c1) ∧ (w'.setCell ⟨rs, i, none⟩ x).cell? ⟨b, off + j * 2, none⟩ = some (.bool n3) ∧ (w'.setCell ⟨rs, i, none⟩ x).cell? ⟨b, off + j * 2 + 1, none⟩ = some (.slice o3 l3 c3) ∧ (w'.setCell ⟨rs, i, none⟩ x).cell? ⟨rt, 0, none⟩ = some (.bool n6) ∧ (w'.setCell ⟨rs, i, none⟩ x).cell? ⟨rt, 1, none⟩ = some (.slice o6 l6 c6))) := fun w' i x h => ⟨by rw [cell_off HNE.out.1]; exact h.1, by rw [cell_off HNE.out.1]; exact h.2.1, by rw [cell_off HNE.out.2.1]; exact h.2.2.1, by rw [cell_off HNE.out.2.1]; exact h.2.2.2.1, by rw [cell_off HNE.out.2.2]; exact h.2.2.2.2.1, by rw [cell_off HNE.out.2.2]; exact h.2.2.2.2.2⟩
   have HX : Hid (∀ V, Below wr.heap.size wr V → V.cell? ⟨rs, 0, none⟩ = some (.bool n5) ∧ V.cell? ⟨rs, 1, none⟩ = some (.slice o5 l5 c5)) := fun V hb => ⟨(hb.cell (p := ⟨rs, 0, none⟩) HRS.out.2).trans q0, (hb.cell (p := ⟨rs, 1, none⟩) HRS.out.2).trans q1⟩
   have HI : Hid (IntAt wr n5 o5 l5 c5 (homo (p.drop (j + 1)) a.num (a.den : Int)) ∧ IntAt wr na o1 l1 c1 a.num ∧ IntAt wr n3 o3 l3 c3 (dig p j) ∧ IntAt wr n6 o6 l6 c6 ((a.den : Int) ^ (p.length - (j + 1)))) := ⟨HI0.out.1, (HR.out.2.1.later HS.out).num, hi3.later HS.out, by have h := HI0.out.2; rw [if_neg (by omega)] at h; exact h⟩
   have hl3 : l3 ≤ 10000 := by rw [hi3.lim]; have := HR.out.2.2.1 j; have := HR.out.2.2.2.2.2.2.2; omega
   have hl1 : l1 ≤ 2 := by rw [HI.out.2.1.lim]; exact HR.out.2.2.2.2.1
   have HL : Hid (True ∧ True ∧ lim (homo (p.drop (j + 1)) a.num (a.den : Int) * a.num) ≤ 1000000 ∧ lim (dig p j * (a.den : Int) ^ (p.length - (j + 1))) ≤ 1000000) := by
    have h1 := lim_mul (homo (p.drop (j + 1)) a.num (a.den : Int)) a.num
    have h2 := lim_mul (dig p j) ((a.den : Int) ^ (p.length - (j + 1)))
    have h3 := HI.out.1.lim
    have h4 := HI.out.2.1.lim
    have h5 := HI.out.2.2.1.lim
    have h6 := HI.out.2.2.2.lim
    exact ⟨trivial, trivial, by omega, by omega⟩
   have HV : Hid (homo (p.drop (j + 1)) a.num (a.den : Int) * a.num + dig p j * (a.den : Int) ^ (p.length - (j + 1)) = homo (p.drop j) a.num (a.den : Int)) := (homo_drop p a.num (a.den : Int) j hjp).symm
   have HDEN : Hid (RowAt wr .u64 o2 l2 c2 (mag a.den) ∧ l2 ≤ 2 ∧ ∀ V, Below W.heap.size W V → V.cell? ⟨w.heap.size, 2, none⟩ = some (.slice o2 l2 c2)) := ⟨(HR.out.2.1.later HS.out).den, by have h := (row_int (HR.out.2.1.later HS.out).den).lim; have := HR.out.2.2.2.2.2.1; omega, fun V hb => (hb.cell (p := ⟨w.heap.size, 2, none⟩) (by show w.heap.size < _; have := HW.out.2.1; omega)).trans HW.out.2.2.1.2.2⟩
   have HJ : Hid (j + 1 ≤ len ∧ j < p.length) := ⟨hk, hjp⟩
   have z1 : (0 : Int) ≤ (j : Int) := by omega
   have z2 : (j : Int) < (len : Int) := by omega
   clear hi3 f0 f1 hk0 hki hjp HI0 hbel
   go_wp2
   refine wp_region_noPanic ?_
   refine wp_region_held_drew (S := fun w' => (w'.cell? ⟨w.heap.size, 0, none⟩ = some (.bool na) ∧ w'.cell? ⟨w.heap.size, 1, none⟩ = some (.slice o1 l1 c1) ∧ w'.cell? ⟨b, off + j * 2, none⟩ = some (.bool n3) ∧ w'.cell? ⟨b, off + j * 2 + 1, none⟩ = some (.slice o3 l3 c3) ∧ w'.cell? ⟨rt, 0, none⟩ = some (.bool n6) ∧ w'.cell? ⟨rt, 1, none⟩ = some (.slice o6 l6 c6))) (by kernel_rfl) (by (try dsimp only); exact KS.out _ (Below.refl _ _).drew) (fun hHeld => ?_)
   refine wpAnyH_take (i := 1) (oi := Oper.mk (some 20) _ _ _ _ _) (v := ?_) rfl (by decide +kernel) (by decide +kernel) (by decide +kernel) (fun _ _ _ h => h) (Or.inl ⟨by rfl, ?_⟩) (by assumption) ?_
   rotate_left
   ·
    (intro w hSw; (try dsimp only at hSw); go_simp <;> (try with_reducible rfl))
   (try simp only [Act.put, List.setIfInBounds_toArray, List.set_cons_zero, List.set_cons_succ])
   refine wpAnyH_take (i := 2) (oi := Oper.mk (some 21) _ _ _ _ _) (v := ?_) rfl (by decide +kernel) (by decide +kernel) (by decide +kernel) (fun _ _ _ h => h) (Or.inl ⟨by rfl, ?_⟩) (by assumption) ?_
   rotate_left
   ·
    (intro w hSw; (try dsimp only at hSw); go_simp <;> (try with_reducible rfl))
   (try simp only [Act.put, List.setIfInBounds_toArray, List.set_cons_zero, List.set_cons_succ])
   refine wpAnyH_take (i := 4) (oi := Oper.mk (some 23) _ _ _ _ _) (v := ?_) rfl (by decide +kernel) (by decide +kernel) (by decide +kernel) (fun _ _ _ h => h) (Or.inl ⟨by rfl, ?_⟩) (by assumption) ?_
   rotate_left
   ·
    (intro w hSw; (try dsimp only at hSw); go_simp <;> (try with_reducible rfl))
   (try simp only [Act.put, List.setIfInBounds_toArray, List.set_cons_zero, List.set_cons_succ])
   refine wpAnyH_take (i := 5) (oi := Oper.mk (some 24) _ _ _ _ _) (v := ?_) rfl (by decide +kernel) (by decide +kernel) (by decide +kernel) (fun _ _ _ h => h) (Or.inl ⟨by rfl, ?_⟩) (by assumption) ?_
   rotate_left
   ·
    (intro w hSw; (try dsimp only at hSw); go_simp <;> (try with_reducible rfl))
   (try simp only [Act.put, List.setIfInBounds_toArray, List.set_cons_zero, List.set_cons_succ])
   refine wpAnyH_take (i := 6) (oi := Oper.mk (some 25) _ _ _ _ _) (v := ?_) rfl (by decide +kernel) (by decide +kernel) (by decide +kernel) (fun _ _ _ h => h) (Or.inl ⟨by rfl, ?_⟩) (by assumption) ?_
   rotate_left
   ·
    (intro w hSw; (try dsimp only at hSw); go_simp <;> (try with_reducible rfl))
   (try simp only [Act.put, List.setIfInBounds_toArray, List.set_cons_zero, List.set_cons_succ])
   refine wpAnyH_take (i := 7) (oi := Oper.mk (some 26) _ _ _ _ _) (v := ?_) rfl (by decide +kernel) (by decide +kernel) (by decide +kernel) (fun _ _ _ h => h) (Or.inl ⟨by rfl, ?_⟩) (by assumption) ?_
   rotate_left
   ·
    (intro w hSw; (try dsimp only at hSw); go_simp <;> (try with_reducible rfl))
   (try simp only [Act.put, List.setIfInBounds_toArray, List.set_cons_zero, List.set_cons_succ])
   refine wpAnyH_take (i := 8) (oi := Oper.mk (some 27) _ _ _ _ _) (v := ?_) rfl (by decide +kernel) (by decide +kernel) (by decide +kernel) (fun _ _ _ h => h) (Or.inl ⟨by rfl, ?_⟩) (by assumption) ?_
   rotate_left
   ·
    (intro w hSw; (try dsimp only at hSw); go_simp <;> (try with_reducible rfl))
   (try simp only [Act.put, List.setIfInBounds_toArray, List.set_cons_zero, List.set_cons_succ])
   refine wpAnyH_ready (rs := [0]) (by decide +kernel) (by simp) ?_
   refine AllReadyH.cons (o := Oper.mk (some 19) _ _ _ _ _) rfl (fun K hK => ?_) AllReadyH.nil
   go_simp
   clear hHeld
   refine hK.out _ _ (by (try dsimp only); exact KS.out _ (Below.refl _ _).drew) (fun hHeld => ?_)
   clear hK K
   (try simp only [Act.put, List.setIfInBounds_toArray, List.set_cons_zero, List.set_cons_succ])
   refine wpAnyH_ready (rs := [3]) (by decide +kernel) (by simp) ?_
   refine AllReadyH.cons (o := Oper.mk (some 22) _ _ _ _ _) rfl (fun K hK => ?_) AllReadyH.nil
   go_simp
   (go_at_call 43; (fail_if_success (have _g := hb4)); refine (pltimes_any n5 na o5 o1 l5 c5 l1 c1 (homo (p.drop (j + 1)) a.num (a.den : Int)) a.num _ (HI.out.1.later (Below.refl _ _).drew) (HI.out.2.1.later (Below.refl _ _).drew) (by omega) (by omega)).mono ?_; rintro e w4 ⟨n7, o7, l7, c7, rfl, hs7, ho7, hb'⟩; have hb4 : Below wr.heap.size wr w4 := bnext (Below.refl _ _).drew hb'; have H7 : Hid (IntAt w4 n7 o7 l7 c7 (homo (p.drop (j + 1)) a.num (a.den : Int) * a.num)) := ho7.int hs7; have hl7 : l7 ≤ 1000000 := (by rw [H7.out.lim]; exact HL.out.2.2.1); clear hs7 ho7 hb')
   (try go_wp2_with fail)
   clear hHeld
   refine hK.out _ _ (by (try dsimp only); exact KS.out _ hb4) (fun hHeld => ?_)
   clear hK K
   (try simp only [Act.put, List.setIfInBounds_toArray, List.set_cons_zero, List.set_cons_succ])
   refine wpAnyH_ready (rs := [9]) (by decide +kernel) (by simp) ?_
   refine AllReadyH.cons (o := Oper.mk (some 28) _ _ _ _ _) rfl (fun K hK => ?_) AllReadyH.nil
   go_simp
   (go_at_call 43; have _g := hb4; refine (pltimes_any n3 n6 o3 o6 l3 c3 l6 c6 (dig p j) ((a.den : Int) ^ (p.length - (j + 1))) _ (HI.out.2.2.1.later hb4) (HI.out.2.2.2.later hb4) (by omega) (by omega)).mono ?_; rintro e w5 ⟨n8, o8, l8, c8, rfl, hs8, ho8, hb'⟩; have hb5 : Below wr.heap.size wr w5 := bnext hb4 hb'; have H8 : Hid (IntAt w5 n8 o8 l8 c8 (dig p j * (a.den : Int) ^ (p.length - (j + 1))) ∧ IntAt w5 n7 o7 l7 c7 (homo (p.drop (j + 1)) a.num (a.den : Int) * a.num)) := ⟨ho8.int hs8, H7.out.later hb'⟩; have hl8 : l8 ≤ 1000000 := (by rw [H8.out.1.lim]; exact HL.out.2.2.2); clear hs8 ho8 hb')
   (try go_wp2_with fail)
   clear hHeld
   refine hK.out _ _ (by (try dsimp only); exact KS.out _ hb5) (fun hHeld => ?_)
   clear hK K
   (try simp only [Act.put, List.setIfInBounds_toArray, List.set_cons_zero, List.set_cons_succ])
   refine wpAnyH_ready (rs := [10]) (by decide +kernel) (by simp) ?_
   refine AllReadyH.cons (o := Oper.mk (some 29) _ _ _ _ _) rfl (fun K hK => ?_) AllReadyH.nil
   go_simp
   (go_at_call 42; refine (plplus_any n7 n8 o7 o8 l7 c7 l8 c8 (homo (p.drop (j + 1)) a.num (a.den : Int) * a.num) (dig p j * (a.den : Int) ^ (p.length - (j + 1))) _ H8.out.2 H8.out.1 (by omega) (by omega)).mono ?_; rw [HV.out]; rintro e w6 ⟨n9, o9, l9, c9, rfl, hs9, ho9, hb'⟩; have hb6 : Below wr.heap.size wr w6 := bnext hb5 hb'; have H9 : Hid (IntAt w6 n9 o9 l9 c9 (homo (p.drop j) a.num (a.den : Int))) := ho9.int hs9; clear hs9 ho9 hb'; obtain ⟨r0, r1⟩ := HX.out _ hb6; have hfz : ∀ m, w6.frozen? ⟨rs, m, none⟩ = false := fun m => (hb6.frozen (p := ⟨rs, m, none⟩) HRS.out.2).trans (HFZ.out.1 m))
   (try go_wp2_with fail)
   clear hHeld
   refine hK.out _ _ (by (try dsimp only); exact KS.out _ hb6) (fun hHeld => ?_)
   clear hK K
   (try simp only [Act.put, List.setIfInBounds_toArray, List.set_cons_zero, List.set_cons_succ])
   refine wpAnyH_ready (rs := [11]) (by decide +kernel) (by simp) ?_
   refine AllReadyH.cons (o := Oper.mk none _ _ _ _ _) rfl (fun K hK => ?_) AllReadyH.nil
   go_simp
   clear hHeld
   refine hK.out _ _ (by (try dsimp only); exact K2.out _ _ _ (K2.out _ _ _ (KS.out _ hb6))) (fun hHeld => ?_)
   clear hK K
   (try simp only [Act.put, List.setIfInBounds_toArray, List.set_cons_zero, List.set_cons_succ])
   refine wpAnyH_done (by decide +kernel) ?_ _
   refine NoPanic.normal ?_
   obtain ⟨V, hV⟩ : ∃ V, V = (w6.setCell ⟨rs, 0, none⟩ (.bool n9)).setCell ⟨rs, 1, none⟩ (.slice o9 l9 c9) := ⟨_, rfl⟩
   rw [← hV]
   have HVB : Hid (Below W.heap.size W V ∧ rt < V.heap.size ∧ (V.cell? ⟨rs, 0, none⟩ = some (.bool n9) ∧ V.cell? ⟨rs, 1, none⟩ = some (.slice o9 l9 c9)) ∧ (V.cell? ⟨rt, 0, none⟩ = some (.bool n6) ∧ V.cell? ⟨rt, 1, none⟩ = some (.slice o6 l6 c6)) ∧ (∀ m, V.frozen? ⟨rs, m, none⟩ = false) ∧ (∀ m, V.frozen? ⟨rt, m, none⟩ = false) ∧ IntAt V n9 o9 l9 c9 (homo (p.drop j) a.num (a.den : Int)) ∧ IntAt V n6 o6 l6 c6 ((a.den : Int) ^ (p.length - (j + 1))) ∧ RowAt V .u64 o2 l2 c2 (mag a.den)) := by
    have hk9 := K2.out _ 1 (.slice o9 l9 c9) (K2.out _ 0 (.bool n9) (KS.out _ hb6))
    have hb7 : Below W.heap.size W V := by rw [hV]; exact ((bnext HS.out hb6).setCell (p := ⟨rs, 0, none⟩) HRR.out.1 _).setCell (p := ⟨rs, 1, none⟩) HRR.out.1 _
    have e1 : (w6.setCell ⟨rs, 0, none⟩ (.bool n9)).cell? ⟨rs, 1, none⟩ = some (.slice o5 l5 c5) := by simp [go_sem, r0, r1]
    refine ⟨hb7, by rw [hV]; have := hb6.size; have := HRS.out.1; simp; omega, ?_, ?_, ?_, ?_, ?_, ?_, ?_⟩
    ·
     rw [hV]; exact ⟨by simp [go_sem, r0, r1], by simp [go_sem, r0, r1]⟩
    ·
     rw [hV]; exact ⟨hk9.2.2.2.2.1, hk9.2.2.2.2.2⟩
    ·
     intro m; rw [hV, soft_far, soft_far]; exact hfz m
    ·
     intro m; rw [hV, soft_far, soft_far]; exact (hb6.frozen (p := ⟨rt, m, none⟩) HRS.out.1).trans (HFZ.out.2 m)
    ·
     rw [hV]; exact (H9.out.cellKept r0 (fun z e => by cases e) _).cellKept e1 (fun z e => by cases e) _
    ·
     rw [hV]; exact ((HI.out.2.2.2.later hb6).cellKept r0 (fun z e => by cases e) _).cellKept e1 (fun z e => by cases e) _
    ·
     rw [hV]; exact ((HDEN.out.1.later hb6).cellKept r0 (fun z e => by cases e) _).cellKept e1 (fun z e => by cases e) _
   clear hV hHeld r0 r1 hfz H9 H8 H7 hb4 hb5 hb6 q0 q1 q2 q3
   by_cases hj : 0 < j
   ·
    have hjI : (0 : Int) < (j : Int) := by omega
    have t0 := HVB.out.2.2.2.1.1
    have t1 := HVB.out.2.2.2.1.2
    have t2 := HDEN.out.2.2 _ HVB.out.1
    have hl2 := HDEN.out.2.1
    go_wp2_with (go_at_call 43; refine (pltimes_any n6 false o6 o2 l6 c6 l2 c2 ((a.den : Int) ^ (p.length - (j + 1))) (a.den : Int) V HVB.out.2.2.2.2.2.2.2.1 (row_int HVB.out.2.2.2.2.2.2.2.2) (by omega) (by omega)).mono ?_; rintro e w8 ⟨n8, o8, l8, c8, rfl, hs8, ho8, hb8⟩; have H8 : Hid (IntAt w8 n8 o8 l8 c8 ((a.den : Int) ^ (p.length - j)) ∧ Below V.heap.size V w8) := ⟨by have e : (a.den : Int) ^ (p.length - (j + 1)) * (a.den : Int) = (a.den : Int) ^ (p.length - j) := (by rw [← Int.pow_succ]; congr 1; have := HJ.out.2; omega); rw [← e]; exact ho8.int hs8, hb8⟩; clear hs8 ho8; have y0 := (hb8.cell (p := ⟨rt, 0, none⟩) HVB.out.2.1).trans HVB.out.2.2.2.1.1; have y1 := (hb8.cell (p := ⟨rt, 1, none⟩) HVB.out.2.1).trans HVB.out.2.2.2.1.2; have y3 : ∀ m, w8.frozen? ⟨rt, m, none⟩ = false := fun m => (hb8.frozen (p := ⟨rt, m, none⟩) HVB.out.2.1).trans (HVB.out.2.2.2.2.2.1 m); clear hb8)
    go_roundw
    case rel =>
     have e1 : (w8.setCell ⟨rt, 0, none⟩ (.bool n8)).cell? ⟨rt, 1, none⟩ = some (.slice o6 l6 c6) := by simp [go_sem, y0, y1]
     have hrsv : rs < V.heap.size := by have := HRR.out.2; have := HVB.out.2.1; omega
     have hne : rs ≠ rt := fun e => HNE.out.2.2 e.symm
     refine ⟨j, by have := HJ.out.1; omega, by go_num, ((bnext HVB.out.1 H8.out.2).setCell (p := ⟨rt, 0, none⟩) (by show _ ≤ rt; have := HRR.out; omega) _).setCell (p := ⟨rt, 1, none⟩) (by show _ ≤ rt; have := HRR.out; omega) _, by (have := H8.out.2.size; have := HVB.out.2.1; simp; omega), n9, o9, l9, c9, n8, o8, l8, c8, ?_, ?_, ?_, ?_, ?_, ?_⟩
     ·
      exact ⟨by rw [cell_off hne, cell_off hne]; exact (H8.out.2.cell (p := ⟨rs, 0, none⟩) hrsv).trans HVB.out.2.2.1.1, by rw [cell_off hne, cell_off hne]; exact (H8.out.2.cell (p := ⟨rs, 1, none⟩) hrsv).trans HVB.out.2.2.1.2⟩
     ·
      exact ⟨by simp [go_sem, y0, y1], by simp [go_sem, y0, y1]⟩
     ·
      intro m; rw [soft_far, soft_far]; exact (H8.out.2.frozen (p := ⟨rs, m, none⟩) hrsv).trans (HVB.out.2.2.2.2.1 m)
     ·
      intro m; rw [soft_far, soft_far]; exact y3 m
     ·
      exact ((HVB.out.2.2.2.2.2.2.1.later H8.out.2).cellKept y0 (fun z e => by cases e) _).cellKept e1 (fun z e => by cases e) _
     ·
      rw [if_neg (by omega)]; exact (H8.out.1.cellKept y0 (fun z e => by cases e) _).cellKept e1 (fun z e => by cases e) _
    case measure => simp [intOf]
   ·
    have hjI : ¬ (0 : Int) < (j : Int) := by omega
    go_wp2
    go_roundw
    case rel =>
     refine ⟨j, by have := HJ.out.1; omega, by go_num, HVB.out.1, HVB.out.2.1, n9, o9, l9, c9, n6, o6, l6, c6, HVB.out.2.2.1, HVB.out.2.2.2.1, HVB.out.2.2.2.2.1, HVB.out.2.2.2.2.2.1, HVB.out.2.2.2.2.2.2.1, ?_⟩
     rw [if_pos (by omega)]
     have h := HVB.out.2.2.2.2.2.2.2.1
     have e : p.length - (j + 1) = p.length - 1 := by omega
     rw [e] at h; exact h
    case measure => simp [intOf]
end Go.Proofs.YtpbkonafojemiaaGreatDoor
namespace Go.Proofs.YtpbkonafojemiaaGreatDoor
open Go.RowKit
structure GP (w : World) (ao : Option Addr) (la ca A : Nat) (p : List Int) : Prop where
 at' : PolyAt w ao la ca p
 lead : Lead p
 lims : Lim A p
 short : la ≤ 50
 small : A ≤ 100000
theorem GP.later {w w' : World} {ao : Option Addr} {la ca A : Nat} {p : List Int} (h : GP w ao la ca A p) (hb : Below w.heap.size w w') : GP w' ao la ca A p := ⟨h.at'.later hb, h.lead, h.lims, h.short, h.small⟩
theorem GP.check {w : World} {ao : Option Addr} {la ca A : Nat} {p : List Int} (h : GP w ao la ca A p) : Calls Tryz.prog 24 #[.slice ao la ca] w fun e w' => e = .returned (.int .i64 0) ∧ Below w.heap.size w w' :=
 pcheck_ok ao la ca p w h.at' (by have := h.short; omega) h.lead (h.lims.mono (by have := h.small; omega))
theorem gchecks_any (ao bo : Option Addr) (la ca lb cb A : Nat) (p s : List Int) (w : World) (hp : GP w ao la ca A p) (hs : GP w bo lb cb A s) :
  Calls Tryz.prog 45 #[.slice ao la ca, .slice bo lb cb] w fun e w' => e = .returned (.int .i64 0) ∧ Below w.heap.size w w' := by
 have h1 := hp.check
 have h2 : ∀ W, Below w.heap.size w W → Calls Tryz.prog 24 #[.slice bo lb cb] W fun e w' => e = .returned (.int .i64 0) ∧ Below W.heap.size W w' := fun W hb => (hs.later hb).check
 clear hp hs
 go_enter Tryz.func45, Tryz.ntmps45
 go_wp2_with (first
  | (go_at_call 24; have _t := hb1; refine (h2 _ hb1).mono ?_; rintro e w2 ⟨rfl, hb2⟩)
  | (go_at_call 24; refine h1.mono ?_; rintro e w1 ⟨rfl, hb1⟩))
 go_ret
 exact ⟨rfl, bnext hb1 hb2⟩
end Go.Proofs.YtpbkonafojemiaaGreatDoor
namespace Go.Proofs.YtpbkonafojemiaaGreatDoor
open Go.RowKit
def QoAns (w w' : World) (e : Ending) (q : Prop) : Prop := ∃ (o : Option Addr) (l c : Nat) (ok : Bool), e = .returned (.tuple #[.slice o l c, .bool ok]) ∧ (ok = true ↔ q) ∧ Below w.heap.size w w'
theorem line_fails {a : List Int} {x d : Int} {α : Rat} {k hh nb mo : Nat} (hα : α * (d : Rat) = (x : Rat)) (hg : Nat.Coprime d.natAbs x.natAbs) (hd : 0 < d) (ha : a.length = k + 1) (hH : ∀ t, (dig a t).natAbs < 2 ^ hh) (hn : k + 1 < 2 ^ nb) (hmo : mo = k + hh + nb)
  (h : ∃ m, m < k ∧ (syT a x d m % d ≠ 0 ∨ 2 ^ mo ≤ (syT a x d m / d).natAbs)) : evQ a α ≠ 0 := by
 intro h0
 obtain ⟨h1, h2⟩ := (sy_root hα hg (by omega)).1 h0
 obtain ⟨m, hm, h3 | h3⟩ := h
 ·
  exact h3 (Int.emod_eq_zero_of_dvd (h1 m (by omega)))
 ·
  have h4 := sy_small hd h1 h2 m (by omega)
  have h5 := absS_le (M := 2 ^ hh) (fun t => Nat.le_of_lt (hH t)) a.length
  have h6 : a.length * 2 ^ hh < 2 ^ nb * 2 ^ hh := by rw [ha]; exact Nat.mul_lt_mul_of_pos_right hn (Nat.pow_pos (by decide))
  have h7 : 2 ^ nb * 2 ^ hh ≤ 2 ^ mo := by rw [← Nat.pow_add]; exact Nat.pow_le_pow_right (by decide) (by omega)
  omega
theorem line_left {a l : List Int} {x d : Int} {α : Rat} {k A : Nat} (hα : α * (d : Rat) = (x : Rat)) (hg : Nat.Coprime d.natAbs x.natAbs) (ha : a.length = k + 1) (h : LeftSt a x d k A 0 l) : dig l 0 = 0 ↔ evQ a α = 0 := by
 have ht := h.top
 rw [Nat.sub_zero] at ht
 have e : a.length - 1 = k := by omega
 rw [sy_root hα hg (by omega), ht, e]
 exact ⟨fun h1 => ⟨fun m hm => Int.dvd_of_emod_eq_zero (h.even m (by omega)), h1⟩, fun h1 => h1.2⟩
theorem trim_one {l : List Int} {m : Nat} (hl : 1 ≤ l.length) (hm : m = trimN (l.take 1) (l.take 1).length) : (m = 0 ∧ dig l 0 = 0) ∨ (m = 1 ∧ dig l 0 ≠ 0) := by
 have h1 : (l.take 1).length = 1 := by rw [List.length_take]; omega
 have h2 : dig (l.take 1) 0 = dig l 0 := dig_take (by omega)
 rw [h1] at hm
 by_cases h : dig l 0 = 0
 ·
  rw [trimN_zero (by rw [h2]; exact h)] at hm; exact Or.inl ⟨hm, h⟩
 ·
  rw [trimN_keep (by rw [h2]; exact h)] at hm; exact Or.inr ⟨hm, h⟩
theorem equotient_any (ao bo : Option Addr) (k ca cb A : Nat) (a b : List Int) (x d : Int) (α : Rat) (w : World) (ha : PolyAt w ao (k + 1) ca a) (hA : Lim A a) (hAA : A ≤ 1000) (hb : PolyAt w bo 2 cb b) (hk0 : 0 < k) (hk : k ≤ 49) (hb0 : dig b 0 = -x) (hb1 : dig b 1 = d) (hd : 0 < d) (hK : Lim 3 b)
  (hα : α * (d : Rat) = (x : Rat)) (hg : Nat.Coprime d.natAbs x.natAbs) :
  Calls Tryz.prog 28 #[.slice ao (k + 1) ca, .slice bo 2 cb] w fun e w' => QoAns w w' e (evQ a α = 0) := by
 obtain ⟨bb, off, _, _, _, _, rfl, hbc, _, _⟩ := hb.at (show 0 < 2 by omega)
 have HR : Hid (PolyAt w ao (k + 1) ca a ∧ PolyAt w (some ⟨bb, off, none⟩) 2 cb b ∧ Lim A a ∧ Lim 3 b ∧ bb < w.heap.size ∧ a.length = k + 1 ∧ b.length = 2 ∧ A ≤ 1000) := ⟨ha, hb, hA, hK, cell_lt hbc, ha.hlen.symm, hb.hlen.symm, hAA⟩
 have HL : Hid (dig b 0 = -x ∧ dig b 1 = d ∧ 0 < d ∧ α * (d : Rat) = (x : Rat) ∧ Nat.Coprime d.natAbs x.natAbs) := ⟨hb0, hb1, hd, hα, hg⟩
 clear ha hb hA hK hbc hb0 hb1 hd hα hg hAA
 have y0 : (((k : Int) + 1) == 0) = false := by simp; omega
 have y1 : ¬ (k : Int) + 1 < 2 := by omega
 have y2 : IntKind.i64.wrap ((k : Int) + 1 - 2) = (k : Int) + 1 - 2 := by rw [IntKind.wrap_i64]; omega
 have y3 : (k : Int) + 1 - 2 + 1 = (k : Int) := by omega
 have y4 : IntKind.i64.wrap (k : Int) = (k : Int) := by rw [IntKind.wrap_i64]; omega
 have y5 : IntKind.u64.wrap ((k : Int) + 1) = (k : Int) + 1 := by rw [IntKind.wrap_u64]; omega
 go_enter Tryz.func28, Tryz.ntmps28
 go_wp2_with (first
  | (go_at_call 46; refine (room_any k _ (by omega)).mono ?_; rintro e w1 ⟨rfl, hB1, hg1, hb1⟩; have H1 : Hid (PBlk w1 w.heap.size (List.replicate k 0) ∧ w.heap.size < w1.heap.size ∧ Below w.heap.size w w1) := ⟨(hB1 0).blk, hg1, hb1⟩; clear hB1 hg1 hb1)
  | (go_at_call 47; refine (height_any ao (k + 1) ca A a _ (HR.out.1.later H1.out.2.2) (by omega) HR.out.2.2.2.2.2.2.2 HR.out.2.2.1).mono ?_; rintro e w2 ⟨hh, rfl, hhb, hb2⟩; have hh6 : hh ≤ 64000 := (by have := HR.out.2.2.2.2.2.2.2; have := hhb.2; omega); have H2 : Hid ((∀ t, (dig a t).natAbs < 2 ^ hh) ∧ Below w1.heap.size w1 w2 ∧ Below w.heap.size w w2 ∧ PBlk w2 w.heap.size (List.replicate k 0) ∧ w.heap.size < w2.heap.size) := ⟨hhb.1, hb2, bnext H1.out.2.2 hb2, H1.out.1.later hb2 H1.out.2.1, Nat.lt_of_lt_of_le H1.out.2.1 hb2.size⟩; clear hhb hb2; have y6 : IntKind.i64.wrap ((k : Int) + (hh : Int)) = (k : Int) + (hh : Int) := (by rw [IntKind.wrap_i64]; omega))
  | (go_at_call 48; refine (len_any ((k : Int) + 1) _ (by omega) (by omega)).mono ?_; rintro e w3 ⟨rfl, rfl⟩; obtain ⟨nb, hnb⟩ : ∃ nb : Nat, Lib.bitLen ((k : Int) + 1).toNat = nb := ⟨_, rfl⟩; rw [hnb]; have hnb64 : nb ≤ 64 := (by rw [← hnb]; exact Lib.bitLen_le _ 64 (by omega) (by omega)); have HNB : Hid (k + 1 < 2 ^ nb) := (by have h := (bitLen_bounds (y := k + 1) (by omega) (by omega)).2.2; rw [show ((k : Int) + 1).toNat = k + 1 by omega] at hnb; rw [hnb] at h; exact h); clear hnb; obtain ⟨mo, hmo⟩ : ∃ mo : Nat, mo = k + hh + nb := ⟨_, rfl⟩; have y7 : (k : Int) + (hh : Int) + (nb : Int) = (mo : Int) := (by omega); have y8 : IntKind.i64.wrap (mo : Int) = (mo : Int) := (by rw [IntKind.wrap_i64]; omega); have HMO : Hid (mo = k + hh + nb) := hmo; clear hmo)
  | (go_at_call 49; have hA : Below w3.heap.size w3 (w3.alloc (.cells #[.slice (some ⟨bb, off, none⟩) 2 cb, .slice (some ⟨w.heap.size, 0, none⟩) k k, .int .i64 (mo : Int)] 79)) := (Below.refl _ _).alloc (Nat.le_refl _) _; have hbD := bnext H2.out.2.2.1 hA; refine (plcopied_any ao (k + 1) ca a _ (HR.out.1.later hbD) (by omega) (HR.out.2.2.1.mono (by have := HR.out.2.2.2.2.2.2.2; omega))).mono ?_; rintro e w4 hnew; obtain ⟨g, rfl, H4⟩ : ∃ g, e = .returned (.slice (some ⟨g, 0, none⟩) (k + 1) (k + 1)) ∧ Hid (ES w.heap.size w4 g w.heap.size w3.heap.size (some ⟨bb, off, none⟩) cb k b mo a (List.replicate k 0) ∧ Below w.heap.size w w4) := (by
    rcases hnew with ⟨h0, _⟩ | ⟨_, g, he, hpb, hg1, hg2, hbw⟩
    ·
     exact absurd h0 (by have := HR.out.2.2.2.2.2.1; omega)
    ·
     have hgD : w3.heap.size < g := by have h := hg1; simp at h; omega
     have hd : ∀ j v, #[Value.slice (some ⟨bb, off, none⟩) 2 cb, .slice (some ⟨w.heap.size, 0, none⟩) k k, .int .i64 (mo : Int)][j]? = some v → w4.cell? ⟨w3.heap.size, j, none⟩ = some v := fun j v hv => by
      refine (hbw.cell (p := ⟨w3.heap.size, j, none⟩) (by simp)).trans ?_
      have := Cells.new w3 #[Value.slice (some ⟨bb, off, none⟩) 2 cb, .slice (some ⟨w.heap.size, 0, none⟩) k k, .int .i64 (mo : Int)] 79 j v (by simpa using hv)
      exact this
     rw [HR.out.2.2.2.2.2.1] at he
     exact ⟨g, he, ⟨⟨Nat.le_refl _, H2.out.2.2.2.2, hgD, hg2⟩, hd 0 _ rfl, hd 1 _ rfl, hd 2 _ rfl, HR.out.2.1.later (bnext hbD hbw), fun x hx => (by cases hx; exact HR.out.2.2.2.2.1), hpb, (H2.out.2.2.2.1.later hA H2.out.2.2.2.2).later hbw (by have := H2.out.2.2.2.2; simp; omega)⟩, bnext hbD hbw⟩); clear hnew hA hbD)
  | (go_at_call 50; refine (etakeOut_any w.heap.size g w.heap.size w3.heap.size bb off cb k mo A a b x d _ H4.out.1 HR.out.2.2.2.2.2.1 HR.out.2.2.2.2.2.2.1 HL.out.1 HL.out.2.1 HL.out.2.2.1 HR.out.2.2.1 HR.out.2.2.2.2.2.2.2 HR.out.2.2.2.1 (by omega) H4.out.2.size).mono ?_; rintro e w5 ⟨ok, rfl, hb5, hbad, hgood⟩; have HB5 : Hid (Below w.heap.size w w5) := H4.out.2.trans hb5; clear hb5; cases ok <;> first | (obtain ⟨l, q, hl, hq, hes⟩ := hgood rfl; have H5 : Hid (LeftSt a x d k A 0 l ∧ q.length = k ∧ ES w.heap.size w5 g w.heap.size w3.heap.size (some ⟨bb, off, none⟩) cb k b mo l q) := ⟨hl, hq, hes⟩; clear hl hq hes hbad hgood) | (have HBD : Hid (evQ a α ≠ 0) := line_fails HL.out.2.2.2.1 HL.out.2.2.2.2 HL.out.2.2.1 HR.out.2.2.2.2.2.1 H2.out.1 HNB.out HMO.out (hbad rfl); clear hbad hgood))
  | (go_at_call 52; (fail_if_success (have _t := HB6)); refine (trimmed_any (some ⟨g, 0, none⟩) 1 (k + 1) (l.take 1) _ ((H5.out.2.2.hr.poly (len := k + 1) H5.out.1.len.symm).take (by omega)) (by omega)).mono ?_; rintro e w6 ⟨o6, m6, hm6, rfl, _, _, hb6⟩; have HB6 : Hid (Below w5.heap.size w5 w6) := hb6; have h01 := trim_one (by rw [H5.out.1.len]; omega) hm6; clear hb6 hm6; rcases h01 with ⟨rfl, hz⟩ | ⟨rfl, hz⟩ <;> first | (have HZ0 : Hid (dig l 0 = 0) := hz; have gd1 := (H5.out.2.2.later HB6.out).d1; clear hz) | (have HZ1 : Hid (dig l 0 ≠ 0) := hz; clear hz))
  | (go_at_call 52; have _t := HZ0; refine (trimmed_any (some ⟨w.heap.size, 0, none⟩) k k q _ (((H5.out.2.2.later HB6.out).hq.poly (len := k) H5.out.2.1.symm)) (by omega)).mono ?_; rintro e w7 ⟨o7, m7, _, rfl, _, _, hb7⟩))
 all_goals go_ret2
 all_goals first
  | exact ⟨_, _, _, _, rfl, ⟨fun _ => (line_left HL.out.2.2.2.1 HL.out.2.2.2.2 HR.out.2.2.2.2.2.1 H5.out.1).1 HZ0.out, fun _ => rfl⟩, bnext HB5.out (bnext HB6.out hb7)⟩
  | exact ⟨_, _, _, _, rfl, ⟨fun h => (by cases h), fun h => absurd ((line_left HL.out.2.2.2.1 HL.out.2.2.2.2 HR.out.2.2.2.2.2.1 H5.out.1).2 h) HZ1.out⟩, bnext HB5.out HB6.out⟩
  | exact ⟨_, _, _, _, rfl, ⟨fun h => (by cases h), fun h => absurd h HBD.out⟩, HB5.out⟩
end Go.Proofs.YtpbkonafojemiaaGreatDoor
namespace Go.Proofs.YtpbkonafojemiaaGreatDoor
open Go.RowKit
theorem geval_any (ao : Option Addr) (len cap A : Nat) (p : List Int) (na : Bool) (o1 o2 : Option Addr) (l1 c1 l2 c2 : Nat) (a : Rat) (w : World) (hp : GP w ao len cap A p) (hA : A ≤ 10000) (ha : RatAt w na o1 l1 c1 o2 l2 c2 a) (hs : lim a.num ≤ 2 ∧ lim (a.den : Int) ≤ 2) (hT0 : TabAt 0 Lib.deBruijn64tab w) :
  Calls Tryz.prog 10 #[.slice ao len cap, .agg #[.bool na, .slice o1 l1 c1, .slice o2 l2 c2]] w fun e w' => NewRatErr w w' e (evQ p a) := by
 obtain ⟨W, hT⟩ := ROne2.mk' w na o1 o2 l1 c1 l2 c2
 have hsz := hT.size
 have hl1 : l1 ≤ 2 := by rw [ha.num.lim]; exact hs.1
 have hl2 : l2 ≤ 2 := by have h := (row_int ha.den).lim; have := hs.2; omega
 have h1 := (hp.later hT.below).check
 have h2 : ∀ V, Below W.heap.size W V → Calls Tryz.prog 25 #[.agg #[.bool na, .slice o1 l1 c1, .slice o2 l2 c2]] V fun e w' => e = .returned (.int .i64 0) ∧ Below V.heap.size V w' := fun V hb => rcheck_good na o1 o2 l1 c1 l2 c2 a V ((ha.later hT.below).later hb) (by omega) (by omega) (tab_later (tab_later hT0 hT.below) hb)
 have h3 : ∀ V, Below W.heap.size W V → Calls Tryz.prog 26 #[.slice ao len cap, .agg #[.bool na, .slice o1 l1 c1, .slice o2 l2 c2]] V fun e w' => NewRat V w' e (evQ p a) := fun V hb => value_any ao len cap A p na o1 o2 l1 c1 l2 c2 a V ((hp.later hT.below).later hb).at' ((ha.later hT.below).later hb) (by have := hp.short; omega) hA hp.lims hs (tab_later (tab_later hT0 hT.below) hb)
 clear hp ha hs hT0 hA
 obtain ⟨p0, p1, p2⟩ := hT.a
 go_enter Tryz.func10, Tryz.ntmps10
 go_wp2_with (first
  | (go_at_call 26; refine (h3 _ hb2).mono ?_; rintro e w3 ⟨n9, o9, l9, c9, p9, m9, k9, rfl, hs9, ho9, hp9, hpt, hb3⟩; have HA : Hid (n9 = sgB (evQ p a).num ∧ Own W.heap.size w3 .u64 56 o9 l9 c9 (mag (evQ p a).num.natAbs) ∧ Own W.heap.size w3 .u64 56 p9 m9 k9 (mag (evQ p a).den) ∧ Parted o9 p9 ∧ Below W.heap.size W w3) := ⟨hs9, ho9.mono hb2.size, hp9.mono hb2.size, hpt, bnext hb2 hb3⟩; clear hs9 ho9 hp9 hpt hb3; obtain ⟨g5, g2, g3, g4⟩ := hT.r.later HA.out.2.2.2.2 (by omega))
  | (go_at_call 24; rw [← hT.eq]; refine h1.mono ?_; rintro e w1 ⟨rfl, hb1⟩; clear p0 p1 p2; obtain ⟨p0, p1, p2⟩ := hT.a.later hb1 (by omega))
  | (go_at_call 25; refine (h2 _ hb1).mono ?_; rintro e w2 ⟨rfl, hb2'⟩; have hb2 := bnext hb1 hb2'; clear hb2' p0 p1 p2; obtain ⟨p0, p1, p2⟩ := hT.a.later hb2 (by omega)))
 exact bodyPost_ret (v := .tuple #[.agg #[.bool n9, .slice o9 l9 c9, .slice p9 m9 k9], .int .i64 0]) (by simp [results, Tryz.results10, go_sem, g2, g3, g4]) rfl
  ⟨_, _, _, _, _, _, _, rfl, HA.out.1, (HA.out.2.1.store3 (by omega) _ _ _).mono (by omega), (HA.out.2.2.1.store3 (by omega) _ _ _).mono (by omega), HA.out.2.2.2.1, below_store3 (bnext hT.below HA.out.2.2.2.2) (by omega) _ _ _⟩
end Go.Proofs.YtpbkonafojemiaaGreatDoor
namespace Go.Proofs.YtpbkonafojemiaaGreatDoor
open Go.RowKit
theorem PolyAt.trim {w : World} {ao ao' : Option Addr} {len cap m : Nat} {p : List Int} (h : PolyAt w ao len cap p) (hm : m = trimN p p.length) (h0 : m = 0 → ao' = none) (h1 : 0 < m → ao' = ao) : PolyAt w ao' m m (trimL p) := by
 rcases Nat.eq_zero_or_pos m with e | e
 ·
  have h2 : trimL p = [] := List.eq_nil_of_length_eq_zero (by rw [trimL_len, ← hm]; exact e)
  rw [h2, h0 e, e]; exact PolyAt.nilPoly _
 ·
  have hl : m ≤ len := by rw [hm, h.hlen]; exact trimN_le _ _
  have h2 := h.take hl
  rw [h1 e]
  refine ⟨by rw [trimL_len]; exact hm, Nat.le_refl _, fun e2 => ?_, ?_⟩
  ·
   have := h.hnil e2; have := h.hcap; omega
  ·
   have h3 := h2.hat
   rw [hm] at h3
   rw [hm]; exact h3
end Go.Proofs.YtpbkonafojemiaaGreatDoor
namespace Go.Proofs.YtpbkonafojemiaaGreatDoor
open Go.RowKit
theorem gcheckDiv_any (ao bo : Option Addr) (la ca lb cb A : Nat) (p s : List Int) (w : World) (hp : GP w ao la ca A p) (hs : GP w bo lb cb A s) (h0 : 0 < lb) :
  Calls Tryz.prog 27 #[.slice ao la ca, .slice bo lb cb] w fun e w' => e = .returned (.int .i64 0) ∧ Below w.heap.size w w' := by
 have h1 := gchecks_any ao bo la ca lb cb A p s w hp hs
 have hb' : ((lb : Int) == 0) = false := by simp; omega
 clear hp hs
 go_enter Tryz.func27, Tryz.ntmps27
 go_wp2_with (go_at_call 45; refine h1.mono ?_; rintro e w1 ⟨rfl, hb1⟩)
 go_ret
 exact ⟨rfl, hb1⟩
end Go.Proofs.YtpbkonafojemiaaGreatDoor
