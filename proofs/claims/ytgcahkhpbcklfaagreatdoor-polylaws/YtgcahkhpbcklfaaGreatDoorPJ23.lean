/-
  A pack of walks and facts: YB, YC, YH.
-/
import Derived.Test.YtgcahkhpbcklfaaGreatDoorPJ20
import Derived.Test.YtgcahkhpbcklfaaGreatDoorPJ21
import Derived.Test.YtgcahkhpbcklfaaGreatDoorPJ22
set_option maxRecDepth 100000
set_option maxHeartbeats 40000000
set_option linter.unusedVariables false
set_option linter.unusedSimpArgs false
namespace Go.Proofs.YtgcahkhpbcklfaaGreatDoor
open Go.RowKit
theorem value_any (ao : Option Addr) (len cap A : Nat) (p : List Int) (na : Bool) (o1 o2 : Option Addr) (l1 c1 l2 c2 : Nat) (a : Rat) (w : World) (hp : PolyAt w ao len cap p) (ha : RatAt w na o1 l1 c1 o2 l2 c2 a) (hl : len ≤ 64) (hA : A ≤ 10000) (hlp : Lim A p) (hs : lim a.num ≤ 2 ∧ lim (a.den : Int) ≤ 2) (hT0 : TabAt 0 Lib.deBruijn64tab w) :
  Calls Tryz.prog 35 #[.slice ao len cap, .agg #[.bool na, .slice o1 l1 c1, .slice o2 l2 c2]] w fun e w' => NewRat w w' e (evQ p a) := by
 obtain ⟨W, hW⟩ : ∃ W, W = (w.alloc (.cells #[.bool na, .slice o1 l1 c1, .slice o2 l2 c2] 30)).alloc (.cells #[.bool false, .slice none 0 0, .slice none 0 0] 30) := ⟨_, rfl⟩
 have HW : Hid (Below w.heap.size w W ∧ W.heap.size = w.heap.size + 2 ∧ (W.cell? ⟨w.heap.size, 0, none⟩ = some (.bool na) ∧ W.cell? ⟨w.heap.size, 1, none⟩ = some (.slice o1 l1 c1) ∧ W.cell? ⟨w.heap.size, 2, none⟩ = some (.slice o2 l2 c2)) ∧ (∀ m, W.frozen? ⟨w.heap.size + 1, m, none⟩ = false) ∧ W.cell? ⟨w.heap.size + 1, 0, none⟩ = some (.bool false) ∧ W.cell? ⟨w.heap.size + 1, 1, none⟩ = some (.slice none 0 0) ∧ W.cell? ⟨w.heap.size + 1, 2, none⟩ = some (.slice none 0 0)) := by
  rw [hW]
  exact ⟨((Below.refl _ _).alloc (Nat.le_refl _) _).alloc (by simp) _, by simp, ⟨by simp [go_sem], by simp [go_sem], by simp [go_sem]⟩, fun m => by simp [go_sem], by simp [go_sem], by simp [go_sem], by simp [go_sem]⟩
 have HR : Hid (PolyAt W ao len cap p ∧ RatAt W na o1 l1 c1 o2 l2 c2 a ∧ Lim A p ∧ len = p.length ∧ lim a.num ≤ 2 ∧ lim (a.den : Int) ≤ 2 ∧ TabAt 0 Lib.deBruijn64tab W ∧ A ≤ 10000) := ⟨hp.later HW.out.1, ha.later HW.out.1, hlp, hp.hlen, hs.1, hs.2, tab_later hT0 HW.out.1, hA⟩
 have HLL : Hid (∀ k, lim (homo (p.drop k) a.num (a.den : Int)) ≤ 648960 ∧ lim ((a.den : Int) ^ (if k = 0 then p.length - 1 else p.length - k)) ≤ 129) := fun k => by
  have h1 := homo_lim A 64 a.num (a.den : Int) hs.1 hs.2 (p.drop k) (drop_lim hlp) (by rw [List.length_drop]; have := hp.hlen; omega)
  have h2 : (p.drop k).length * (A + 2 * 64 + 5) ≤ 64 * 10140 := Nat.mul_le_mul (by rw [List.length_drop]; have := hp.hlen; omega) (by omega)
  refine ⟨by omega, ?_⟩
  have h3 := lim_pow (a.den : Int) (if k = 0 then p.length - 1 else p.length - k) hs.2
  have h4 := hp.hlen
  split at h3 <;> simp_all <;> omega
 clear hp ha hlp hs hT0 hA
 go_enter Tryz.func35, Tryz.ntmps35
 go_wp2_with (go_at_call 57; rw [← hW]; clear hW; refine (from_any 1 _ (by decide) (by decide)).mono ?_; rintro e w1 ⟨n0, o0, l0, c0, rfl, hs0, ho0, hb1⟩)
 obtain ⟨rs, hrs0⟩ : ∃ r, r = w1.heap.size := ⟨_, rfl⟩
 obtain ⟨rt, hrt0⟩ : ∃ r, r = w1.heap.size + 1 := ⟨_, rfl⟩
 obtain ⟨Y, hY⟩ : ∃ Y, Y = (w1.alloc (.cells #[.bool false, .slice none 0 0] 28)).alloc (.cells #[.bool n0, .slice o0 l0 c0] 28) := ⟨_, rfl⟩
 rw [hs0] at hY
 rw [← hY, ← hrt0, ← hrs0]
 have HY : Hid (Below W.heap.size W Y ∧ rt < Y.heap.size ∧ (Y.cell? ⟨rs, 0, none⟩ = some (.bool false) ∧ Y.cell? ⟨rs, 1, none⟩ = some (.slice none 0 0)) ∧ (Y.cell? ⟨rt, 0, none⟩ = some (.bool (sgB 1)) ∧ Y.cell? ⟨rt, 1, none⟩ = some (.slice o0 l0 c0)) ∧ (∀ m, Y.frozen? ⟨rs, m, none⟩ = false) ∧ (∀ m, Y.frozen? ⟨rt, m, none⟩ = false) ∧ IntAt Y (sgB 1) o0 l0 c0 1) := by
  have hb2 : Below w1.heap.size w1 Y := by rw [hY]; exact ((Below.refl _ _).alloc (Nat.le_refl _) _).alloc (by simp) _
  refine ⟨bnext hb1 hb2, by rw [hY, hrt0]; simp, ?_, ?_, ?_, ?_, (ho0.int rfl).later hb2⟩
  ·
   rw [hY, hrs0]; exact ⟨by simp [go_sem], by simp [go_sem]⟩
  ·
   rw [hY, hrt0]; exact ⟨by simp [go_sem], by simp [go_sem]⟩
  ·
   intro m; rw [hY, hrs0]; simp [go_sem]
  ·
   intro m; rw [hY, hrt0]; simp [go_sem]
 have HRR : Hid (W.heap.size ≤ rs ∧ rt = rs + 1) := ⟨by rw [hrs0]; exact hb1.size, by omega⟩
 clear hY hrs0 hrt0 hs0 ho0 hb1
 go_loopw [7] (fun i wr => ∃ k : Nat, k ≤ len ∧ i = .int .i64 ((k : Int) - 1) ∧ Below W.heap.size W wr ∧ rt < wr.heap.size ∧ ∃ n5 o5 l5 c5 n6 o6 l6 c6, (wr.cell? ⟨rs, 0, none⟩ = some (.bool n5) ∧ wr.cell? ⟨rs, 1, none⟩ = some (.slice o5 l5 c5)) ∧ (wr.cell? ⟨rt, 0, none⟩ = some (.bool n6) ∧ wr.cell? ⟨rt, 1, none⟩ = some (.slice o6 l6 c6)) ∧ (∀ m, wr.frozen? ⟨rs, m, none⟩ = false) ∧ (∀ m, wr.frozen? ⟨rt, m, none⟩ = false) ∧ IntAt wr n5 o5 l5 c5 (homo (p.drop k) a.num (a.den : Int)) ∧ IntAt wr n6 o6 l6 c6 ((a.den : Int) ^ (if k = 0 then p.length - 1 else p.length - k))) (fun i _ => (intOf i + 1).toNat)
 case atStart =>
  refine ⟨len, Nat.le_refl _, rfl, HY.out.1, HY.out.2.1, false, none, 0, 0, sgB 1, o0, l0, c0, HY.out.2.2.1, HY.out.2.2.2.1, HY.out.2.2.2.2.1, HY.out.2.2.2.2.2.1, ?_, ?_⟩
  ·
   rw [HR.out.2.2.2.1, List.drop_length]; exact ⟨rfl, RowAt.nilRow _ _⟩
  ·
   have e : (if len = 0 then p.length - 1 else p.length - len) = 0 := by have := HR.out.2.2.2.1; split <;> omega
   rw [e, Int.pow_zero]; exact HY.out.2.2.2.2.2.2
 case round =>
  obtain ⟨k, hk, rfl, hbel, hrt, n5, o5, l5, c5, n6, o6, l6, c6, ⟨q0, q1⟩, ⟨q2, q3⟩, hfz0, hfz1, hi5, hi6⟩ := hrel
  have HS : Hid (Below W.heap.size W wr) := hbel
  have HRS : Hid (rt < wr.heap.size ∧ rs < wr.heap.size) := ⟨hrt, by have := HRR.out.2; omega⟩
  have HFZ : Hid ((∀ m, wr.frozen? ⟨rs, m, none⟩ = false) ∧ (∀ m, wr.frozen? ⟨rt, m, none⟩ = false)) := ⟨hfz0, hfz1⟩
  have hl5 : l5 ≤ 648960 := by rw [hi5.lim]; exact (HLL.out k).1
  have hl6 : l6 ≤ 129 := by rw [hi6.lim]; exact (HLL.out k).2
  have HI0 : Hid (IntAt wr n5 o5 l5 c5 (homo (p.drop k) a.num (a.den : Int)) ∧ IntAt wr n6 o6 l6 c6 ((a.den : Int) ^ (if k = 0 then p.length - 1 else p.length - k))) := ⟨hi5, hi6⟩
  clear hi5 hi6 hfz0 hfz1 hrt
  by_cases hk0 : k = 0
  ·
   subst hk0
   have hWs := HW.out.2.1
   obtain ⟨D, hD⟩ : ∃ D : Nat, D = a.den ^ (p.length - 1) := ⟨_, rfl⟩
   have hDI : (D : Int) = (a.den : Int) ^ (p.length - 1) := by rw [hD]; exact Int.natCast_pow _ _
   have hD0 : D ≠ 0 := by rw [hD]; exact Nat.ne_of_gt (Nat.pow_pos (Nat.pos_of_ne_zero a.den_nz))
   have HM : Hid (RowAt wr .u64 o5 l5 c5 (mag (homo p a.num (a.den : Int)).natAbs) ∧ RowAt wr .u64 o6 l6 c6 (mag D) ∧ n5 = sgB (homo p a.num (a.den : Int)) ∧ evQ p a = Rat.normalize (homo p a.num (a.den : Int)) D hD0) := by
    have h1 := HI0.out.1
    have h2 := HI0.out.2
    rw [List.drop_zero] at h1
    rw [if_pos rfl, ← hDI] at h2
    have h3 := h2.row
    rw [Int.natAbs_natCast] at h3
    exact ⟨h1.row, h3, h1.sg, homo_rat p a D hDI hD0⟩
   clear HI0 hD hDI
   have HMD : Hid (mayB false (mag D) = true) := by
    have h := mayB_int (D : Int)
    have e : sgB (D : Int) = false := by simp [sgB]
    rw [e, Int.natAbs_natCast] at h
    exact h
   have HW8 : Hid (∀ V, Below W.heap.size W V → V.cell? ⟨w.heap.size + 1, 0, none⟩ = some (.bool false) ∧ V.cell? ⟨w.heap.size + 1, 1, none⟩ = some (.slice none 0 0) ∧ V.cell? ⟨w.heap.size + 1, 2, none⟩ = some (.slice none 0 0) ∧ ∀ m, V.frozen? ⟨w.heap.size + 1, m, none⟩ = false) := fun V hb => ⟨(hb.cell (p := ⟨w.heap.size + 1, 0, none⟩) (by show w.heap.size + 1 < _; omega)).trans HW.out.2.2.2.2.1, (hb.cell (p := ⟨w.heap.size + 1, 1, none⟩) (by show w.heap.size + 1 < _; omega)).trans HW.out.2.2.2.2.2.1, (hb.cell (p := ⟨w.heap.size + 1, 2, none⟩) (by show w.heap.size + 1 < _; omega)).trans HW.out.2.2.2.2.2.2, fun m => (hb.frozen (p := ⟨w.heap.size + 1, m, none⟩) (by show w.heap.size + 1 < _; omega)).trans (HW.out.2.2.2.1 m)⟩
   have HWs : Hid (W.heap.size = w.heap.size + 2) := hWs
   clear hWs
   have HT9 : Hid (TabAt 0 Lib.deBruijn64tab wr) := tab_later HR.out.2.2.2.2.2.2.1 HS.out
   go_wp2_with (go_at_call 59; refine (make_good n5 o5 o6 l5 c5 l6 c6 (mag (homo p a.num (a.den : Int)).natAbs) (mag D) (homo p a.num (a.den : Int)) D wr HM.out.1 HM.out.2.1 (by omega) (by omega) (by rw [HM.out.2.2.1]; exact mayB_int _) HMD.out ⟨rfl, HM.out.2.2.1⟩ rfl hD0 HT9.out (evQ p a) HM.out.2.2.2).mono ?_; rintro e w9 ⟨n9, o9, l9, c9, p9, m9, k9, rfl, hs9, ho9, hp9, hpt, hb9⟩; have H9 : Hid (n9 = sgB (evQ p a).num ∧ Own wr.heap.size w9 .u64 63 o9 l9 c9 (mag (evQ p a).num.natAbs) ∧ Own wr.heap.size w9 .u64 63 p9 m9 k9 (mag (evQ p a).den) ∧ Parted o9 p9 ∧ Below wr.heap.size wr w9) := ⟨hs9, ho9, hp9, hpt, hb9⟩; clear hs9 ho9 hp9 hpt hb9; have hb8 : Below W.heap.size W w9 := bnext HS.out H9.out.2.2.2.2; have hA9 : Below w9.heap.size w9 (w9.alloc (.cells #[.bool n9, .slice o9 l9 c9, .slice p9 m9 k9] 30)) := (Below.refl _ _).alloc (Nat.le_refl _) _; obtain ⟨s0, s1, s2, s3⟩ := HW8.out _ (bnext hb8 hA9))
   have hWs := HWs.out
   have hwr := HS.out.size
   have h9s := H9.out.2.2.2.2.size
   exact bodyPost_ret (v := .agg #[.bool n9, .slice o9 l9 c9, .slice p9 m9 k9]) (by simp [results, Tryz.results35, go_sem, s0, s1, s2]) rfl
    ⟨_, _, _, _, _, _, _, rfl, H9.out.1, ((H9.out.2.1.later hA9).store3 (r := w.heap.size + 1) (by omega) _ _ _).mono (by omega), ((H9.out.2.2.1.later hA9).store3 (r := w.heap.size + 1) (by omega) _ _ _).mono (by omega), H9.out.2.2.2.1, below_store3 (bnext (bnext HW.out.1 (bnext HS.out H9.out.2.2.2.2)) hA9) (by omega) _ _ _⟩
  ·
   obtain ⟨j, rfl⟩ : ∃ j, k = j + 1 := ⟨k - 1, by omega⟩
   have hki : ((j + 1 : Nat) : Int) - 1 = (j : Int) := by omega
   rw [hki]
   have hjp : j < p.length := by rw [← HR.out.2.2.2.1]; omega
   obtain ⟨b, off, n3, o3, l3, c3, rfl, f0, f1, hi3⟩ := HR.out.1.at (show j < len by omega)
   have KS : Hid (∀ w', Below wr.heap.size wr w' → w'.cell? ⟨w.heap.size, 0, none⟩ = some (.bool na) ∧ w'.cell? ⟨w.heap.size, 1, none⟩ = some (.slice o1 l1 c1) ∧ w'.cell? ⟨b, off + j * 2, none⟩ = some (.bool n3) ∧ w'.cell? ⟨b, off + j * 2 + 1, none⟩ = some (.slice o3 l3 c3) ∧ w'.cell? ⟨rt, 0, none⟩ = some (.bool n6) ∧ w'.cell? ⟨rt, 1, none⟩ = some (.slice o6 l6 c6)) := fun w' hb => by
    have hbW := bnext HS.out hb
    exact ⟨(hbW.cell (p := ⟨w.heap.size, 0, none⟩) (by show w.heap.size < _; have := HW.out.2.1; omega)).trans HW.out.2.2.1.1, (hbW.cell (p := ⟨w.heap.size, 1, none⟩) (by show w.heap.size < _; have := HW.out.2.1; omega)).trans HW.out.2.2.1.2.1, (hbW.cell (p := ⟨b, off + j * 2, none⟩) (cell_lt f0)).trans f0, (hbW.cell (p := ⟨b, off + j * 2 + 1, none⟩) (cell_lt f1)).trans f1, (hb.cell (p := ⟨rt, 0, none⟩) HRS.out.1).trans q2, (hb.cell (p := ⟨rt, 1, none⟩) HRS.out.1).trans q3⟩
   have HNE : Hid (w.heap.size ≠ rs ∧ b ≠ rs ∧ rt ≠ rs) := ⟨by have := HW.out.2.1; have := HRR.out.1; omega, by have := cell_lt f0; have := HRR.out.1; simp only at *; omega, by have := HRR.out.2; omega⟩
   have K2 : Hid (∀ (w' : World) (i : Nat) (x : Value), (w'.cell? ⟨w.heap.size, 0, none⟩ = some (.bool na) ∧ w'.cell? ⟨w.heap.size, 1, none⟩ = some (.slice o1 l1 c1) ∧ w'.cell? ⟨b, off + j * 2, none⟩ = some (.bool n3) ∧ w'.cell? ⟨b, off + j * 2 + 1, none⟩ = some (.slice o3 l3 c3) ∧ w'.cell? ⟨rt, 0, none⟩ = some (.bool n6) ∧ w'.cell? ⟨rt, 1, none⟩ = some (.slice o6 l6 c6)) → ((w'.setCell ⟨rs, i, none⟩ x).cell? ⟨w.heap.size, 0, none⟩ = some (.bool na) ∧ (w'.setCell ⟨rs, i, none⟩ x).cell? ⟨w.heap.size, 1, none⟩ = some (.slice o1 l1 c1) ∧ (w'.setCell ⟨rs, i, none⟩ x).cell? ⟨b, off + j * 2, none⟩ = some (.bool n3) ∧ (w'.setCell ⟨rs, i, none⟩ x).cell? ⟨b, off + j * 2 + 1, none⟩ = some (.slice o3 l3 c3) ∧ (w'.setCell ⟨rs, i, none⟩ x).cell? ⟨rt, 0, none⟩ = some (.bool n6) ∧ (w'.setCell ⟨rs, i, none⟩ x).cell? ⟨rt, 1, none⟩ = some (.slice o6 l6 c6))) := fun w' i x h => ⟨by rw [cell_off HNE.out.1]; exact h.1, by rw [cell_off HNE.out.1]; exact h.2.1, by rw [cell_off HNE.out.2.1]; exact h.2.2.1, by rw [cell_off HNE.out.2.1]; exact h.2.2.2.1, by rw [cell_off HNE.out.2.2]; exact h.2.2.2.2.1, by rw [cell_off HNE.out.2.2]; exact h.2.2.2.2.2⟩
   have HX : Hid (∀ V, Below wr.heap.size wr V → V.cell? ⟨rs, 0, none⟩ = some (.bool n5) ∧ V.cell? ⟨rs, 1, none⟩ = some (.slice o5 l5 c5)) := fun V hb => ⟨(hb.cell (p := ⟨rs, 0, none⟩) HRS.out.2).trans q0, (hb.cell (p := ⟨rs, 1, none⟩) HRS.out.2).trans q1⟩
   have HI : Hid (IntAt wr n5 o5 l5 c5 (homo (p.drop (j + 1)) a.num (a.den : Int)) ∧ IntAt wr na o1 l1 c1 a.num ∧ IntAt wr n3 o3 l3 c3 (dig p j) ∧ IntAt wr n6 o6 l6 c6 ((a.den : Int) ^ (p.length - (j + 1)))) := ⟨HI0.out.1, (HR.out.2.1.later HS.out).num, hi3.later HS.out, by have h := HI0.out.2; rw [if_neg (by omega)] at h; exact h⟩
   have hl3 : l3 ≤ 10000 := by rw [hi3.lim]; have := HR.out.2.2.1 j; have := HR.out.2.2.2.2.2.2.2; omega
   have hl1 : l1 ≤ 2 := by rw [HI.out.2.1.lim]; exact HR.out.2.2.2.2.1
   have HL : Hid (True ∧ True ∧ lim (homo (p.drop (j + 1)) a.num (a.den : Int) * a.num) ≤ 1000000 ∧ lim (dig p j * (a.den : Int) ^ (p.length - (j + 1))) ≤ 1000000) := by
    have h1 := lim_mul (homo (p.drop (j + 1)) a.num (a.den : Int)) a.num
    have h2 := lim_mul (dig p j) ((a.den : Int) ^ (p.length - (j + 1)))
    have h3 := HI.out.1.lim
    have h4 := HI.out.2.1.lim
    have h5 := HI.out.2.2.1.lim
    have h6 := HI.out.2.2.2.lim
    exact ⟨trivial, trivial, by omega, by omega⟩
   have HV : Hid (homo (p.drop (j + 1)) a.num (a.den : Int) * a.num + dig p j * (a.den : Int) ^ (p.length - (j + 1)) = homo (p.drop j) a.num (a.den : Int)) := (homo_drop p a.num (a.den : Int) j hjp).symm
   have HDEN : Hid (RowAt wr .u64 o2 l2 c2 (mag a.den) ∧ l2 ≤ 2 ∧ ∀ V, Below W.heap.size W V → V.cell? ⟨w.heap.size, 2, none⟩ = some (.slice o2 l2 c2)) := ⟨(HR.out.2.1.later HS.out).den, by have h := (row_int (HR.out.2.1.later HS.out).den).lim; have := HR.out.2.2.2.2.2.1; omega, fun V hb => (hb.cell (p := ⟨w.heap.size, 2, none⟩) (by show w.heap.size < _; have := HW.out.2.1; omega)).trans HW.out.2.2.1.2.2⟩
   have HJ : Hid (j + 1 ≤ len ∧ j < p.length) := ⟨hk, hjp⟩
   have z1 : (0 : Int) ≤ (j : Int) := by omega
   have z2 : (j : Int) < (len : Int) := by omega
   clear hi3 f0 f1 hk0 hki hjp HI0 hbel
   go_wp2
   refine wp_region_noPanic ?_
   refine wp_region_held_drew (S := fun w' => (w'.cell? ⟨w.heap.size, 0, none⟩ = some (.bool na) ∧ w'.cell? ⟨w.heap.size, 1, none⟩ = some (.slice o1 l1 c1) ∧ w'.cell? ⟨b, off + j * 2, none⟩ = some (.bool n3) ∧ w'.cell? ⟨b, off + j * 2 + 1, none⟩ = some (.slice o3 l3 c3) ∧ w'.cell? ⟨rt, 0, none⟩ = some (.bool n6) ∧ w'.cell? ⟨rt, 1, none⟩ = some (.slice o6 l6 c6))) (by kernel_rfl) (by (try dsimp only); exact KS.out _ (Below.refl _ _).drew) (fun hHeld => ?_)
   refine wpAnyH_take (i := 1) (oi := Oper.mk (some 20) _ _ _ _ _) (v := ?_) rfl (by decide +kernel) (by decide +kernel) (by decide +kernel) (fun _ _ _ h => h) (Or.inl ⟨by rfl, ?_⟩) (by assumption) ?_
   rotate_left
   ·
    (intro w hSw; (try dsimp only at hSw); go_simp <;> (try with_reducible rfl))
   (try simp only [Act.put, List.setIfInBounds_toArray, List.set_cons_zero, List.set_cons_succ])
   refine wpAnyH_take (i := 2) (oi := Oper.mk (some 21) _ _ _ _ _) (v := ?_) rfl (by decide +kernel) (by decide +kernel) (by decide +kernel) (fun _ _ _ h => h) (Or.inl ⟨by rfl, ?_⟩) (by assumption) ?_
   rotate_left
   ·
    (intro w hSw; (try dsimp only at hSw); go_simp <;> (try with_reducible rfl))
   (try simp only [Act.put, List.setIfInBounds_toArray, List.set_cons_zero, List.set_cons_succ])
   refine wpAnyH_take (i := 4) (oi := Oper.mk (some 23) _ _ _ _ _) (v := ?_) rfl (by decide +kernel) (by decide +kernel) (by decide +kernel) (fun _ _ _ h => h) (Or.inl ⟨by rfl, ?_⟩) (by assumption) ?_
   rotate_left
   ·
    (intro w hSw; (try dsimp only at hSw); go_simp <;> (try with_reducible rfl))
   (try simp only [Act.put, List.setIfInBounds_toArray, List.set_cons_zero, List.set_cons_succ])
   refine wpAnyH_take (i := 5) (oi := Oper.mk (some 24) _ _ _ _ _) (v := ?_) rfl (by decide +kernel) (by decide +kernel) (by decide +kernel) (fun _ _ _ h => h) (Or.inl ⟨by rfl, ?_⟩) (by assumption) ?_
   rotate_left
   ·
    (intro w hSw; (try dsimp only at hSw); go_simp <;> (try with_reducible rfl))
   (try simp only [Act.put, List.setIfInBounds_toArray, List.set_cons_zero, List.set_cons_succ])
   refine wpAnyH_take (i := 6) (oi := Oper.mk (some 25) _ _ _ _ _) (v := ?_) rfl (by decide +kernel) (by decide +kernel) (by decide +kernel) (fun _ _ _ h => h) (Or.inl ⟨by rfl, ?_⟩) (by assumption) ?_
   rotate_left
   ·
    (intro w hSw; (try dsimp only at hSw); go_simp <;> (try with_reducible rfl))
   (try simp only [Act.put, List.setIfInBounds_toArray, List.set_cons_zero, List.set_cons_succ])
   refine wpAnyH_take (i := 7) (oi := Oper.mk (some 26) _ _ _ _ _) (v := ?_) rfl (by decide +kernel) (by decide +kernel) (by decide +kernel) (fun _ _ _ h => h) (Or.inl ⟨by rfl, ?_⟩) (by assumption) ?_
   rotate_left
   ·
    (intro w hSw; (try dsimp only at hSw); go_simp <;> (try with_reducible rfl))
   (try simp only [Act.put, List.setIfInBounds_toArray, List.set_cons_zero, List.set_cons_succ])
   refine wpAnyH_take (i := 8) (oi := Oper.mk (some 27) _ _ _ _ _) (v := ?_) rfl (by decide +kernel) (by decide +kernel) (by decide +kernel) (fun _ _ _ h => h) (Or.inl ⟨by rfl, ?_⟩) (by assumption) ?_
   rotate_left
   ·
    (intro w hSw; (try dsimp only at hSw); go_simp <;> (try with_reducible rfl))
   (try simp only [Act.put, List.setIfInBounds_toArray, List.set_cons_zero, List.set_cons_succ])
   refine wpAnyH_ready (rs := [0]) (by decide +kernel) (by simp) ?_
   refine AllReadyH.cons (o := Oper.mk (some 19) _ _ _ _ _) rfl (fun K hK => ?_) AllReadyH.nil
   go_simp
   clear hHeld
   refine hK.out _ _ (by (try dsimp only); exact KS.out _ (Below.refl _ _).drew) (fun hHeld => ?_)
   clear hK K
   (try simp only [Act.put, List.setIfInBounds_toArray, List.set_cons_zero, List.set_cons_succ])
   refine wpAnyH_ready (rs := [3]) (by decide +kernel) (by simp) ?_
   refine AllReadyH.cons (o := Oper.mk (some 22) _ _ _ _ _) rfl (fun K hK => ?_) AllReadyH.nil
   go_simp
   (go_at_call 58; (fail_if_success (have _g := hb4)); refine (pltimes_any n5 na o5 o1 l5 c5 l1 c1 (homo (p.drop (j + 1)) a.num (a.den : Int)) a.num _ (HI.out.1.later (Below.refl _ _).drew) (HI.out.2.1.later (Below.refl _ _).drew) (by omega) (by omega)).mono ?_; rintro e w4 ⟨n7, o7, l7, c7, rfl, hs7, ho7, hb'⟩; have hb4 : Below wr.heap.size wr w4 := bnext (Below.refl _ _).drew hb'; have H7 : Hid (IntAt w4 n7 o7 l7 c7 (homo (p.drop (j + 1)) a.num (a.den : Int) * a.num)) := ho7.int hs7; have hl7 : l7 ≤ 1000000 := (by rw [H7.out.lim]; exact HL.out.2.2.1); clear hs7 ho7 hb')
   (try go_wp2_with fail)
   clear hHeld
   refine hK.out _ _ (by (try dsimp only); exact KS.out _ hb4) (fun hHeld => ?_)
   clear hK K
   (try simp only [Act.put, List.setIfInBounds_toArray, List.set_cons_zero, List.set_cons_succ])
   refine wpAnyH_ready (rs := [9]) (by decide +kernel) (by simp) ?_
   refine AllReadyH.cons (o := Oper.mk (some 28) _ _ _ _ _) rfl (fun K hK => ?_) AllReadyH.nil
   go_simp
   (go_at_call 58; have _g := hb4; refine (pltimes_any n3 n6 o3 o6 l3 c3 l6 c6 (dig p j) ((a.den : Int) ^ (p.length - (j + 1))) _ (HI.out.2.2.1.later hb4) (HI.out.2.2.2.later hb4) (by omega) (by omega)).mono ?_; rintro e w5 ⟨n8, o8, l8, c8, rfl, hs8, ho8, hb'⟩; have hb5 : Below wr.heap.size wr w5 := bnext hb4 hb'; have H8 : Hid (IntAt w5 n8 o8 l8 c8 (dig p j * (a.den : Int) ^ (p.length - (j + 1))) ∧ IntAt w5 n7 o7 l7 c7 (homo (p.drop (j + 1)) a.num (a.den : Int) * a.num)) := ⟨ho8.int hs8, H7.out.later hb'⟩; have hl8 : l8 ≤ 1000000 := (by rw [H8.out.1.lim]; exact HL.out.2.2.2); clear hs8 ho8 hb')
   (try go_wp2_with fail)
   clear hHeld
   refine hK.out _ _ (by (try dsimp only); exact KS.out _ hb5) (fun hHeld => ?_)
   clear hK K
   (try simp only [Act.put, List.setIfInBounds_toArray, List.set_cons_zero, List.set_cons_succ])
   refine wpAnyH_ready (rs := [10]) (by decide +kernel) (by simp) ?_
   refine AllReadyH.cons (o := Oper.mk (some 29) _ _ _ _ _) rfl (fun K hK => ?_) AllReadyH.nil
   go_simp
   (go_at_call 53; refine (plplus_any n7 n8 o7 o8 l7 c7 l8 c8 (homo (p.drop (j + 1)) a.num (a.den : Int) * a.num) (dig p j * (a.den : Int) ^ (p.length - (j + 1))) _ H8.out.2 H8.out.1 (by omega) (by omega)).mono ?_; rw [HV.out]; rintro e w6 ⟨n9, o9, l9, c9, rfl, hs9, ho9, hb'⟩; have hb6 : Below wr.heap.size wr w6 := bnext hb5 hb'; have H9 : Hid (IntAt w6 n9 o9 l9 c9 (homo (p.drop j) a.num (a.den : Int))) := ho9.int hs9; clear hs9 ho9 hb'; obtain ⟨r0, r1⟩ := HX.out _ hb6; have hfz : ∀ m, w6.frozen? ⟨rs, m, none⟩ = false := fun m => (hb6.frozen (p := ⟨rs, m, none⟩) HRS.out.2).trans (HFZ.out.1 m))
   (try go_wp2_with fail)
   clear hHeld
   refine hK.out _ _ (by (try dsimp only); exact KS.out _ hb6) (fun hHeld => ?_)
   clear hK K
   (try simp only [Act.put, List.setIfInBounds_toArray, List.set_cons_zero, List.set_cons_succ])
   refine wpAnyH_ready (rs := [11]) (by decide +kernel) (by simp) ?_
   refine AllReadyH.cons (o := Oper.mk none _ _ _ _ _) rfl (fun K hK => ?_) AllReadyH.nil
   go_simp
   clear hHeld
   refine hK.out _ _ (by (try dsimp only); exact K2.out _ _ _ (K2.out _ _ _ (KS.out _ hb6))) (fun hHeld => ?_)
   clear hK K
   (try simp only [Act.put, List.setIfInBounds_toArray, List.set_cons_zero, List.set_cons_succ])
   refine wpAnyH_done (by decide +kernel) ?_ _
   refine NoPanic.normal ?_
   obtain ⟨V, hV⟩ : ∃ V, V = (w6.setCell ⟨rs, 0, none⟩ (.bool n9)).setCell ⟨rs, 1, none⟩ (.slice o9 l9 c9) := ⟨_, rfl⟩
   rw [← hV]
   have HVB : Hid (Below W.heap.size W V ∧ rt < V.heap.size ∧ (V.cell? ⟨rs, 0, none⟩ = some (.bool n9) ∧ V.cell? ⟨rs, 1, none⟩ = some (.slice o9 l9 c9)) ∧ (V.cell? ⟨rt, 0, none⟩ = some (.bool n6) ∧ V.cell? ⟨rt, 1, none⟩ = some (.slice o6 l6 c6)) ∧ (∀ m, V.frozen? ⟨rs, m, none⟩ = false) ∧ (∀ m, V.frozen? ⟨rt, m, none⟩ = false) ∧ IntAt V n9 o9 l9 c9 (homo (p.drop j) a.num (a.den : Int)) ∧ IntAt V n6 o6 l6 c6 ((a.den : Int) ^ (p.length - (j + 1))) ∧ RowAt V .u64 o2 l2 c2 (mag a.den)) := by
    have hk9 := K2.out _ 1 (.slice o9 l9 c9) (K2.out _ 0 (.bool n9) (KS.out _ hb6))
    have hb7 : Below W.heap.size W V := by rw [hV]; exact ((bnext HS.out hb6).setCell (p := ⟨rs, 0, none⟩) HRR.out.1 _).setCell (p := ⟨rs, 1, none⟩) HRR.out.1 _
    have e1 : (w6.setCell ⟨rs, 0, none⟩ (.bool n9)).cell? ⟨rs, 1, none⟩ = some (.slice o5 l5 c5) := by simp [go_sem, r0, r1]
    refine ⟨hb7, by rw [hV]; have := hb6.size; have := HRS.out.1; simp; omega, ?_, ?_, ?_, ?_, ?_, ?_, ?_⟩
    ·
     rw [hV]; exact ⟨by simp [go_sem, r0, r1], by simp [go_sem, r0, r1]⟩
    ·
     rw [hV]; exact ⟨hk9.2.2.2.2.1, hk9.2.2.2.2.2⟩
    ·
     intro m; rw [hV, soft_far, soft_far]; exact hfz m
    ·
     intro m; rw [hV, soft_far, soft_far]; exact (hb6.frozen (p := ⟨rt, m, none⟩) HRS.out.1).trans (HFZ.out.2 m)
    ·
     rw [hV]; exact (H9.out.cellKept r0 (fun z e => by cases e) _).cellKept e1 (fun z e => by cases e) _
    ·
     rw [hV]; exact ((HI.out.2.2.2.later hb6).cellKept r0 (fun z e => by cases e) _).cellKept e1 (fun z e => by cases e) _
    ·
     rw [hV]; exact ((HDEN.out.1.later hb6).cellKept r0 (fun z e => by cases e) _).cellKept e1 (fun z e => by cases e) _
   clear hV hHeld r0 r1 hfz H9 H8 H7 hb4 hb5 hb6 q0 q1 q2 q3
   by_cases hj : 0 < j
   ·
    have hjI : (0 : Int) < (j : Int) := by omega
    have t0 := HVB.out.2.2.2.1.1
    have t1 := HVB.out.2.2.2.1.2
    have t2 := HDEN.out.2.2 _ HVB.out.1
    have hl2 := HDEN.out.2.1
    go_wp2_with (go_at_call 58; refine (pltimes_any n6 false o6 o2 l6 c6 l2 c2 ((a.den : Int) ^ (p.length - (j + 1))) (a.den : Int) V HVB.out.2.2.2.2.2.2.2.1 (row_int HVB.out.2.2.2.2.2.2.2.2) (by omega) (by omega)).mono ?_; rintro e w8 ⟨n8, o8, l8, c8, rfl, hs8, ho8, hb8⟩; have H8 : Hid (IntAt w8 n8 o8 l8 c8 ((a.den : Int) ^ (p.length - j)) ∧ Below V.heap.size V w8) := ⟨by have e : (a.den : Int) ^ (p.length - (j + 1)) * (a.den : Int) = (a.den : Int) ^ (p.length - j) := (by rw [← Int.pow_succ]; congr 1; have := HJ.out.2; omega); rw [← e]; exact ho8.int hs8, hb8⟩; clear hs8 ho8; have y0 := (hb8.cell (p := ⟨rt, 0, none⟩) HVB.out.2.1).trans HVB.out.2.2.2.1.1; have y1 := (hb8.cell (p := ⟨rt, 1, none⟩) HVB.out.2.1).trans HVB.out.2.2.2.1.2; have y3 : ∀ m, w8.frozen? ⟨rt, m, none⟩ = false := fun m => (hb8.frozen (p := ⟨rt, m, none⟩) HVB.out.2.1).trans (HVB.out.2.2.2.2.2.1 m); clear hb8)
    go_roundw
    case rel =>
     have e1 : (w8.setCell ⟨rt, 0, none⟩ (.bool n8)).cell? ⟨rt, 1, none⟩ = some (.slice o6 l6 c6) := by simp [go_sem, y0, y1]
     have hrsv : rs < V.heap.size := by have := HRR.out.2; have := HVB.out.2.1; omega
     have hne : rs ≠ rt := fun e => HNE.out.2.2 e.symm
     refine ⟨j, by have := HJ.out.1; omega, by go_num, ((bnext HVB.out.1 H8.out.2).setCell (p := ⟨rt, 0, none⟩) (by show _ ≤ rt; have := HRR.out; omega) _).setCell (p := ⟨rt, 1, none⟩) (by show _ ≤ rt; have := HRR.out; omega) _, by (have := H8.out.2.size; have := HVB.out.2.1; simp; omega), n9, o9, l9, c9, n8, o8, l8, c8, ?_, ?_, ?_, ?_, ?_, ?_⟩
     ·
      exact ⟨by rw [cell_off hne, cell_off hne]; exact (H8.out.2.cell (p := ⟨rs, 0, none⟩) hrsv).trans HVB.out.2.2.1.1, by rw [cell_off hne, cell_off hne]; exact (H8.out.2.cell (p := ⟨rs, 1, none⟩) hrsv).trans HVB.out.2.2.1.2⟩
     ·
      exact ⟨by simp [go_sem, y0, y1], by simp [go_sem, y0, y1]⟩
     ·
      intro m; rw [soft_far, soft_far]; exact (H8.out.2.frozen (p := ⟨rs, m, none⟩) hrsv).trans (HVB.out.2.2.2.2.1 m)
     ·
      intro m; rw [soft_far, soft_far]; exact y3 m
     ·
      exact ((HVB.out.2.2.2.2.2.2.1.later H8.out.2).cellKept y0 (fun z e => by cases e) _).cellKept e1 (fun z e => by cases e) _
     ·
      rw [if_neg (by omega)]; exact (H8.out.1.cellKept y0 (fun z e => by cases e) _).cellKept e1 (fun z e => by cases e) _
    case measure => simp [intOf]
   ·
    have hjI : ¬ (0 : Int) < (j : Int) := by omega
    go_wp2
    go_roundw
    case rel =>
     refine ⟨j, by have := HJ.out.1; omega, by go_num, HVB.out.1, HVB.out.2.1, n9, o9, l9, c9, n6, o6, l6, c6, HVB.out.2.2.1, HVB.out.2.2.2.1, HVB.out.2.2.2.2.1, HVB.out.2.2.2.2.2.1, HVB.out.2.2.2.2.2.2.1, ?_⟩
     rw [if_pos (by omega)]
     have h := HVB.out.2.2.2.2.2.2.2.1
     have e : p.length - (j + 1) = p.length - 1 := by omega
     rw [e] at h; exact h
    case measure => simp [intOf]
end Go.Proofs.YtgcahkhpbcklfaaGreatDoor
namespace Go.Proofs.YtgcahkhpbcklfaaGreatDoor
open Go.RowKit
def PdSt (r1 b : List Int) (top L : Int) (i j : Nat) (l : List Int) : Prop := l.length = r1.length ∧ ∀ t, t < r1.length → dig l t = if i ≤ t ∧ t < i + j then dig r1 t * L - top * dig b (t - i) else dig r1 t
theorem PdSt.start (r1 b : List Int) (top L : Int) (i : Nat) : PdSt r1 b top L i 0 r1 := ⟨rfl, fun t ht => by rw [if_neg (by omega)]⟩
theorem PdSt.at {r1 b l : List Int} {top L : Int} {i j : Nat} (h : PdSt r1 b top L i j l) (hj : i + j < r1.length) : dig l (i + j) = dig r1 (i + j) := by rw [h.2 _ hj, if_neg (by omega)]
theorem PdSt.step {r1 b l : List Int} {top L : Int} {i j : Nat} (h : PdSt r1 b top L i j l) (hj : i + j < r1.length) : PdSt r1 b top L i (j + 1) (l.set (i + j) (dig l (i + j) * L - top * dig b j)) := by
 refine ⟨by simpa using h.1, fun t ht => ?_⟩
 rw [pdig_set _ _ _ _ (by rw [h.1]; exact ht)]
 by_cases e : t = i + j
 ·
  subst e
  rw [if_pos rfl, if_pos (by omega), h.at hj, show i + j - i = j by omega]
 ·
  rw [if_neg e, h.2 t ht]
  by_cases e2 : i ≤ t ∧ t < i + j
  ·
   rw [if_pos e2, if_pos (by omega)]
  ·
   rw [if_neg e2, if_neg (by omega)]
theorem PdSt.lim {r1 b l : List Int} {top L : Int} {i j M K : Nat} (h : PdSt r1 b top L i j l) (h1 : Lim M r1) (h2 : Lim K b) (h3 : lim top ≤ M) (h4 : lim L ≤ K) : Lim (2 * M + 2 * K + 1) l := by
 intro t
 by_cases ht : t < r1.length
 ·
  rw [h.2 t ht]
  split
  ·
   have a1 := lim_mul (dig r1 t) L
   have a2 := lim_mul top (dig b (t - i))
   have a3 := lim_add (dig r1 t * L) (-(top * dig b (t - i)))
   rw [lim_neg] at a3
   have a4 := h1 t
   have a5 := h2 (t - i)
   rw [Int.sub_eq_add_neg]
   omega
  ·
   have := h1 t; omega
 ·
  rw [dig_past (by rw [h.1]; omega), lim_zero]; omega
def evS (f : Nat → Int) (x : Int) : Nat → Int
 | 0 => 0
 | n + 1 => evS f x n + f n * x ^ n
theorem evS_congr {f g : Nat → Int} {x : Int} {n : Nat} (h : ∀ t, t < n → f t = g t) : evS f x n = evS g x n := by
 induction n with
 | zero => rfl
 | succ n ih => unfold evS; rw [ih (fun t ht => h t (by omega)), h n (by omega)]
theorem evS_take (l : List Int) (x : Int) (n : Nat) (h : n ≤ l.length) : ev (l.take n) x = evS (dig l) x n := by
 induction n with
 | zero => simp [ev, evS]
 | succ n ih => rw [ev_take l n x (by omega), ih (by omega)]; rfl
theorem evS_ev (l : List Int) (x : Int) : ev l x = evS (dig l) x l.length := by
 have := evS_take l x l.length (Nat.le_refl _); rwa [List.take_length] at this
theorem evS_shift (f : Nat → Int) (x : Int) (n : Nat) : evS f x (n + 1) = f 0 + x * evS (fun t => f (t + 1)) x n := by
 induction n with
 | zero => simp [evS]
 | succ n ih =>
  rw [evS, ih]
  show _ = f 0 + x * (evS (fun t => f (t + 1)) x n + f (n + 1) * x ^ n)
  rw [Int.pow_succ]; grind
theorem evS_lin (f g : Nat → Int) (a c x : Int) (n : Nat) : evS (fun t => f t * a - c * g t) x n = evS f x n * a - c * evS g x n := by
 induction n with
 | zero => simp [evS]
 | succ n ih => simp only [evS]; rw [ih]; grind
structure PDv (a b : List Int) (k J : Nat) (r q : List Int) : Prop where
 lr : r.length = a.length
 lq : q.length = k
 low : ∀ t, t < J → dig r t = dig a t
 zer : ∀ t, t < J → dig q t = 0
 idn : ∀ x, dig b (b.length - 1) ^ k * ev a x = ev q x * ev b x + dig b (b.length - 1) ^ k * evS (dig a) x J + dig b (b.length - 1) ^ J * x ^ J * evS (fun t => dig r (J + t)) x (b.length - 1)
theorem evS_split (f : Nat → Int) (x : Int) (m n : Nat) : evS f x (m + n) = evS f x m + x ^ m * evS (fun t => f (m + t)) x n := by
 induction n with
 | zero => simp [evS]
 | succ n ih =>
  rw [← Nat.add_assoc, evS, ih, evS, Int.pow_add]; grind
theorem PDv.start {a b : List Int} {k : Nat} (hb : 0 < b.length) (hk : a.length + 1 = b.length + k) : PDv a b k k a (List.replicate k 0) := by
 refine ⟨rfl, by simp, fun _ _ => rfl, fun t _ => rep_dig _ _, fun x => ?_⟩
 rw [rep_ev, evS_ev a x, show a.length = k + (b.length - 1) by omega, evS_split]
 grind
theorem ev_set0 {q : List Int} {i : Nat} {v x : Int} (hi : i < q.length) (h0 : dig q i = 0) : ev (q.set i v) x = ev q x + v * x ^ i := by
 have := ev_set q i v x hi
 rw [h0, Int.zero_add] at this; exact this
theorem PDv.step {a b r q l : List Int} {k i : Nat} {top L : Int} (h : PDv a b k (i + 1) r q) (hL : L = dig b (b.length - 1)) (hb : 0 < b.length) (hk : a.length + 1 = b.length + k) (hi : i < k)
  (htop : top = dig (r.set i (dig r i * L ^ (k - 1 - i))) (i + (b.length - 1))) (hl : PdSt (r.set i (dig r i * L ^ (k - 1 - i))) b top L i (b.length - 1) l) : PDv a b k i l (q.set i (top * L ^ i)) := by
 have hir : i < r.length := by rw [h.lr]; omega
 obtain ⟨r1, hr1⟩ : ∃ r1, r1 = r.set i (dig r i * L ^ (k - 1 - i)) := ⟨_, rfl⟩
 have hr1l : r1.length = a.length := by rw [hr1, List.length_set]; exact h.lr
 rw [← hr1] at htop hl
 have d0 : dig r1 i = dig a i * L ^ (k - 1 - i) := by rw [hr1, pdig_set _ _ _ _ hir, if_pos rfl, h.low i (by omega)]
 have d1 : ∀ t, t ≠ i → dig r1 t = dig r t := fun t ht => by
  by_cases e : t < r.length
  ·
   rw [hr1, pdig_set _ _ _ _ e, if_neg ht]
  ·
   rw [dig_past (by rw [hr1, List.length_set]; omega), dig_past (by omega)]
 refine ⟨by rw [hl.1]; exact hr1l, by rw [List.length_set]; exact h.lq, fun t ht => ?_, fun t ht => ?_, fun x => ?_⟩
 ·
  rw [hl.2 t (by omega), if_neg (by omega), d1 t (by omega), h.low t (by omega)]
 ·
  rw [pdig_set _ _ _ _ (by rw [h.lq]; omega), if_neg (by omega), h.zer t (by omega)]
 ·
  rw [h.idn x, ev_set0 (by rw [h.lq]; exact hi) (h.zer i (by omega)), ← hL]
  have e1 : evS (fun t => dig l (i + t)) x (b.length - 1) = evS (fun t => dig r1 (i + t) * L - top * dig b t) x (b.length - 1) := evS_congr fun t ht => by
   rw [hl.2 _ (by omega), if_pos (by omega), show i + t - i = t by omega]
  rw [e1, evS_lin (fun t => dig r1 (i + t)) (dig b) L top x]
  have e2 : evS (fun t => dig r1 (i + t)) x (b.length - 1 + 1) = evS (fun t => dig r1 (i + t)) x (b.length - 1) + top * x ^ (b.length - 1) := by rw [evS, htop]
  have e3 : evS (fun t => dig r1 (i + t)) x (b.length - 1 + 1) = dig a i * L ^ (k - 1 - i) + x * evS (fun t => dig r (i + 1 + t)) x (b.length - 1) := by
   rw [evS_shift]
   rw [show i + 0 = i from rfl, d0]
   congr 2
   exact evS_congr fun t ht => by rw [d1 _ (by omega), show i + (t + 1) = i + 1 + t by omega]
  have e4 : ev b x = evS (dig b) x (b.length - 1) + L * x ^ (b.length - 1) := by
   rw [evS_ev b x, show b.length = b.length - 1 + 1 by omega, evS, hL]; congr 2
  have e5 : evS (dig a) x (i + 1) = evS (dig a) x i + dig a i * x ^ i := rfl
  have e6 : L ^ k = L ^ i * L * L ^ (k - 1 - i) := by
   rw [← Int.pow_succ, ← Int.pow_add]; congr 1; omega
  have e7 : evS (fun t => dig r1 (i + t)) x (b.length - 1) = dig a i * L ^ (k - 1 - i) + x * evS (fun t => dig r (i + 1 + t)) x (b.length - 1) - top * x ^ (b.length - 1) := by rw [← e3, e2]; grind
  rw [e7, e5, e4, Int.pow_succ, Int.pow_succ, e6]
  grind
theorem PDv.done {a b r q : List Int} {k : Nat} (h : PDv a b k 0 r q) (hr : b.length - 1 ≤ r.length) (x : Int) : dig b (b.length - 1) ^ k * ev a x = ev q x * ev b x + ev (r.take (b.length - 1)) x := by
 rw [h.idn x, evS_take r x _ hr]
 have : evS (fun t => dig r (0 + t)) x (b.length - 1) = evS (dig r) x (b.length - 1) := evS_congr fun t _ => by rw [Nat.zero_add]
 rw [this]
 simp [evS]
end Go.Proofs.YtgcahkhpbcklfaaGreatDoor
namespace Go.Proofs.YtgcahkhpbcklfaaGreatDoor
open Go.RowKit
theorem ev_zeros (p : List Int) (n : Nat) (x : Int) : ev (p ++ List.replicate n 0) x = ev p x := by
 induction p with
 | nil => simp [rep_ev, ev]
 | cons c p ih => show c + x * ev (p ++ List.replicate n 0) x = c + x * ev p x; rw [ih]
theorem dig_noughts (p : List Int) (n t : Nat) : dig (p ++ List.replicate n 0) t = dig p t := by
 by_cases h : t < p.length
 ·
  unfold dig; rw [List.getD_eq_getElem?_getD, List.getD_eq_getElem?_getD, List.getElem?_append_left h]
 ·
  rw [dig_past (Nat.le_of_not_lt h)]
  unfold dig
  rw [List.getD_eq_getElem?_getD, List.getElem?_append_right (Nat.le_of_not_lt h), List.getElem?_replicate]
  split <;> rfl
theorem dig_of_ev {p q : List Int} (h : ∀ x, ev p x = ev q x) (t : Nat) : dig p t = dig q t := by
 have e := eq_of_ev (p := p ++ List.replicate q.length 0) (q := q ++ List.replicate p.length 0) (by simp; omega) (fun x => by rw [ev_zeros, ev_zeros]; exact h x)
 rw [← dig_noughts p q.length t, e, dig_noughts]
theorem lead_of_digs {p q : List Int} (hp : Lead p) (hq : Lead q) (h : ∀ t, dig p t = dig q t) : p = q := by
 have aux : ∀ {p q : List Int}, Lead q → (∀ t, dig p t = dig q t) → q.length ≤ p.length := fun {p q} hq h => by
  rcases Nat.lt_or_ge p.length q.length with e | e
  ·
   exact absurd (by rw [← h, dig_past (by omega)]) (hq (by omega))
  ·
   exact e
 have h1 := aux hq h
 have h2 := aux hp (fun t => (h t).symm)
 exact dig_ext (by omega) fun t _ => h t
theorem lead_ext {p q : List Int} (hp : Lead p) (hq : Lead q) (h : ∀ x, ev p x = ev q x) : p = q := lead_of_digs hp hq (dig_of_ev h)
theorem ev_of_digs {p q : List Int} (h : ∀ t, dig p t = dig q t) (x : Int) : ev p x = ev q x := by
 rw [← ev_zeros p q.length x, ← ev_zeros q p.length x]
 rw [dig_ext (x := p ++ List.replicate q.length 0) (y := q ++ List.replicate p.length 0) (by simp; omega) fun t _ => by rw [dig_noughts, dig_noughts]; exact h t]
def addP (p s : List Int) : List Int := trimL (tab (max p.length s.length) fun i => dig p i + dig s i)
theorem addP_dig (p s : List Int) (t : Nat) : dig (addP p s) t = dig p t + dig s t := by
 unfold addP
 rw [trimL_dig]
 by_cases h : t < max p.length s.length
 ·
  rw [tab_dig _ h]
 ·
  rw [dig_past (by rw [tab_len]; omega), dig_past (by omega), dig_past (by omega)]; rfl
theorem addP_addTo (p s : List Int) (t : Nat) : dig (addP p s) t = dig (addTo p s) t := by rw [addP_dig, addTo_dig]
theorem addP_lead (p s : List Int) : Lead (addP p s) := trimL_lead _
theorem addP_ev (p s : List Int) (x : Int) : ev (addP p s) x = ev p x + ev s x := by rw [ev_of_digs (addP_addTo p s), addTo_ev]
theorem mulP_ev (p s : List Int) (x : Int) : ev (mulP p s) x = ev p x * ev s x := by
 unfold mulP
 split
 ·
  rename_i h
  rcases h with h | h
  ·
   rw [List.eq_nil_of_length_eq_zero h]; simp [ev]
  ·
   rw [List.eq_nil_of_length_eq_zero h]; simp [ev]
 ·
  exact mulL_ev p s x
theorem mulP_lead {p s : List Int} (hp : Lead p) (hs : Lead s) : Lead (mulP p s) := by
 unfold mulP
 split
 ·
  intro h; simp at h
 ·
  rename_i h; exact mul_lead hp hs (by omega) (by omega)
theorem mulP_digs (p s : List Int) (t : Nat) : dig (mulP p s) t = dig (mulL p s) t := dig_of_ev (fun x => by rw [mulP_ev, mulL_ev]) t
theorem poly_dist {p s u : List Int} (hp : Lead p) : mulP p (addP s u) = addP (mulP p s) (mulP p u) :=
 lead_ext (mulP_lead hp (addP_lead _ _)) (addP_lead _ _) fun x => by rw [mulP_ev, addP_ev, addP_ev, mulP_ev, mulP_ev]; grind
theorem poly_comm {p s : List Int} (hp : Lead p) (hs : Lead s) : mulP p s = mulP s p :=
 lead_ext (mulP_lead hp hs) (mulP_lead hs hp) fun x => by rw [mulP_ev, mulP_ev, Int.mul_comm]
theorem poly_assoc {p s u : List Int} (hp : Lead p) (hs : Lead s) (hu : Lead u) : mulP (mulP p s) u = mulP p (mulP s u) :=
 lead_ext (mulP_lead (mulP_lead hp hs) hu) (mulP_lead hp (mulP_lead hs hu)) fun x => by rw [mulP_ev, mulP_ev, mulP_ev, mulP_ev, Int.mul_assoc]
theorem evQ_zero : ∀ (p : List Int) (x : Rat), (∀ t, dig p t = 0) → evQ p x = 0
 | [], _, _ => rfl
 | c :: p, x, h => by
  have h0 : c = 0 := by have := h 0; simpa [dig] using this
  show (c : Rat) + x * evQ p x = 0
  rw [h0, evQ_zero p x (fun t => by have := h (t + 1); rwa [dig_cons] at this)]
  rw [Rat.mul_zero, Rat.intCast_zero, Rat.add_zero]
theorem evQ_digs : ∀ (p q : List Int) (x : Rat), (∀ t, dig p t = dig q t) → evQ p x = evQ q x
 | [], q, x, h => (evQ_zero q x (fun t => by rw [← h t]; simp [dig])).symm
 | c :: p, [], x, h => evQ_zero (c :: p) x (fun t => by rw [h t]; simp [dig])
 | c :: p, d :: q, x, h => by
  have h0 : c = d := by have := h 0; simpa [dig] using this
  show (c : Rat) + x * evQ p x = (d : Rat) + x * evQ q x
  rw [h0, evQ_digs p q x (fun t => by have := h (t + 1); rwa [dig_cons, dig_cons] at this)]
theorem evQ_addTo : ∀ (p l : List Int) (x : Rat), evQ (addTo p l) x = evQ p x + evQ l x
 | [], l, x => by simp [addTo, evQ, Rat.zero_add]
 | a :: p, [], x => by simp [addTo, evQ, Rat.add_zero]
 | a :: p, b :: l, x => by
  show ((a + b : Int) : Rat) + x * evQ (addTo p l) x = ((a : Rat) + x * evQ p x) + ((b : Rat) + x * evQ l x)
  rw [evQ_addTo p l x, Rat.intCast_add]; grind
theorem evQ_map (a : Int) : ∀ (s : List Int) (x : Rat), evQ (s.map (a * ·)) x = (a : Rat) * evQ s x
 | [], x => by simp [evQ, Rat.mul_zero]
 | c :: s, x => by
  show ((a * c : Int) : Rat) + x * evQ (s.map (a * ·)) x = (a : Rat) * ((c : Rat) + x * evQ s x)
  rw [evQ_map a s x, Rat.intCast_mul]; grind
theorem evQ_addP (p s : List Int) (x : Rat) : evQ (addP p s) x = evQ p x + evQ s x := by rw [evQ_digs _ _ x (addP_addTo p s), evQ_addTo]
def evD : List Int → Int → Int
 | [], _ => 0
 | _ :: l, x => ev l x + x * evD l x
theorem der_evD (p : List Int) (x : Int) : ev (tab (p.length - 1) (derF p)) x = evD p x := by
 have e : ∀ (n : Nat) (f : Nat → Int), ev (tab n f) x = evS f x n := fun n f => by
  rw [evS_ev, tab_len]; exact evS_congr fun t ht => tab_dig _ ht
 rw [e]
 induction p with
 | nil => rfl
 | cons c l ih =>
  show evS (derF (c :: l)) x l.length = ev l x + x * evD l x
  rw [← ih, evS_ev l x]
  have h1 : evS (derF (c :: l)) x l.length = evS (dig l) x l.length + evS (fun t => dig l t * (t : Int)) x l.length := by
   generalize l.length = n
   induction n with
   | zero => rfl
   | succ n ih2 => simp only [evS]; rw [ih2]; unfold derF; rw [dig_cons]; grind
  rw [h1]
  congr 1
  cases hn : l.length with
  | zero => simp [evS]
  | succ n =>
   rw [evS_shift]
   simp only [Nat.add_sub_cancel]
   have h2 : evS (fun t => dig l (t + 1) * ((t + 1 : Nat) : Int)) x n = evS (derF l) x n := evS_congr fun t _ => by unfold derF; simp
   rw [h2]; simp
theorem evQ_mulL : ∀ (p s : List Int) (x : Rat), evQ (mulL p s) x = evQ p x * evQ s x
 | [], s, x => by
  rw [evQ_zero (mulL [] s) x (fun t => rep_dig _ _)]
  show (0 : Rat) = 0 * evQ s x
  rw [Rat.zero_mul]
 | a :: p, s, x => by
  show evQ (addTo (s.map (a * ·)) (0 :: mulL p s)) x = ((a : Rat) + x * evQ p x) * evQ s x
  rw [evQ_addTo, evQ_map]
  show (a : Rat) * evQ s x + (((0 : Int) : Rat) + x * evQ (mulL p s) x) = _
  rw [evQ_mulL p s x, Rat.intCast_zero]; grind
theorem evQ_mulP (p s : List Int) (x : Rat) : evQ (mulP p s) x = evQ p x * evQ s x := by rw [evQ_digs _ _ x (mulP_digs p s), evQ_mulL]
theorem evD_zero : ∀ (p : List Int) (x : Int), (∀ t, dig p t = 0) → evD p x = 0
 | [], _, _ => rfl
 | c :: p, x, h => by
  have h1 : ∀ t, dig p t = 0 := fun t => by have := h (t + 1); rwa [dig_cons] at this
  show ev p x + x * evD p x = 0
  rw [evD_zero p x h1, ev_of_digs (q := []) (fun t => by rw [h1 t]; simp [dig]) x]
  simp [ev]
theorem evD_digs : ∀ (p q : List Int) (x : Int), (∀ t, dig p t = dig q t) → evD p x = evD q x
 | [], q, x, h => (evD_zero q x (fun t => by rw [← h t]; simp [dig])).symm
 | c :: p, [], x, h => evD_zero (c :: p) x (fun t => by rw [h t]; simp [dig])
 | c :: p, d :: q, x, h => by
  have h1 : ∀ t, dig p t = dig q t := fun t => by have := h (t + 1); rwa [dig_cons, dig_cons] at this
  show ev p x + x * evD p x = ev q x + x * evD q x
  rw [evD_digs p q x h1, ev_of_digs h1 x]
theorem evD_addTo : ∀ (p l : List Int) (x : Int), evD (addTo p l) x = evD p x + evD l x
 | [], l, x => by simp [addTo, evD]
 | a :: p, [], x => by simp [addTo, evD]
 | a :: p, b :: l, x => by
  show ev (addTo p l) x + x * evD (addTo p l) x = (ev p x + x * evD p x) + (ev l x + x * evD l x)
  rw [evD_addTo p l x, addTo_ev]; grind
theorem evD_map (a : Int) : ∀ (s : List Int) (x : Int), evD (s.map (a * ·)) x = a * evD s x
 | [], x => by simp [evD]
 | c :: s, x => by
  show ev (s.map (a * ·)) x + x * evD (s.map (a * ·)) x = a * (ev s x + x * evD s x)
  rw [evD_map a s x, map_ev]; grind
theorem evD_mulL : ∀ (p s : List Int) (x : Int), evD (mulL p s) x = evD p x * ev s x + ev p x * evD s x
 | [], s, x => by rw [evD_zero (mulL [] s) x (fun t => rep_dig _ _)]; simp [evD, ev]
 | a :: p, s, x => by
  show evD (addTo (s.map (a * ·)) (0 :: mulL p s)) x = (ev p x + x * evD p x) * ev s x + (a + x * ev p x) * evD s x
  rw [evD_addTo, evD_map]
  show a * evD s x + (ev (mulL p s) x + x * evD (mulL p s) x) = _
  rw [evD_mulL p s x, mulL_ev]; grind
def derP (p : List Int) : List Int := tab (p.length - 1) (derF p)
theorem derP_ev (p : List Int) (x : Int) : ev (derP p) x = evD p x := der_evD p x
theorem derP_lead {p : List Int} (h : Lead p) : Lead (derP p) := by
 intro h0
 unfold derP at h0 ⊢
 rw [tab_len] at h0 ⊢
 rw [tab_dig _ (by omega)]
 unfold derF
 have h1 := h (by omega)
 rw [show p.length - 1 - 1 + 1 = p.length - 1 by omega]
 intro e
 rcases Int.mul_eq_zero.1 e with e | e
 ·
  exact h1 e
 ·
  omega
theorem poly_leibniz {p s : List Int} (hp : Lead p) (hs : Lead s) : derP (mulP p s) = addP (mulP (derP p) s) (mulP p (derP s)) :=
 lead_ext (derP_lead (mulP_lead hp hs)) (addP_lead _ _) fun x => by
  rw [derP_ev, addP_ev, mulP_ev, mulP_ev, derP_ev, derP_ev, evD_digs _ _ x (mulP_digs p s), evD_mulL]
end Go.Proofs.YtgcahkhpbcklfaaGreatDoor
