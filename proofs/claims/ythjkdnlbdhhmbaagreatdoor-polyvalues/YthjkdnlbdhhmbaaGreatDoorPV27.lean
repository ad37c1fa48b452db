/-
  A pack of walks and facts: SOa.
-/
import Derived.Test.YthjkdnlbdhhmbaaGreatDoorPV26
set_option maxRecDepth 100000
set_option maxHeartbeats 40000000
set_option linter.unusedVariables false
set_option linter.unusedSimpArgs false
namespace Go.Proofs.YthjkdnlbdhhmbaaGreatDoor
open Go.RowKit
theorem lowest_rat (na : Bool) (ao do' : Option Addr) (la ca ld cd : Nat) (v : Int) (d : Nat) (w : World) (hx : IntAt w na ao la ca v) (hy : RowAt w .u64 do' ld cd (mag d)) (h0 : d ≠ 0) (hl : la ≤ 1000000) (hl' : ld ≤ 1000000) (hT0 : TabAt 0 Lib.deBruijn64tab w) (r : Rat) (hr : r = Rat.normalize v d h0) :
  Calls Tryz.prog 88 #[.agg #[.bool na, .slice ao la ca], .slice do' ld cd] w fun e w' => NewRat w w' e r := by
 obtain ⟨W, hT⟩ := IR2.mk' w na ao la ca
 have hsz : w.heap.size + 2 ≤ W.heap.size := by rw [hT.size]; exact Nat.le_refl _
 have HX : Hid (IntAt W na ao la ca v ∧ RowAt W .u64 do' ld cd (mag d) ∧ TabAt 0 Lib.deBruijn64tab W) := ⟨hx.later hT.below, hy.later hT.below, tab_later hT0 hT.below⟩
 obtain ⟨g, hg⟩ : ∃ g, Nat.gcd v.natAbs d = g := ⟨_, rfl⟩
 have hg0 : 0 < g := by rw [← hg]; exact Nat.gcd_pos_of_pos_right _ (by omega)
 have HG : Hid (Nat.gcd v.natAbs d = g ∧ (g : Int) ∣ v ∧ (g : Int) ∣ (d : Int)) := ⟨hg, hg ▸ gcd_dvd_abs v d, hg ▸ Int.ofNat_dvd.2 (Nat.gcd_dvd_right _ _)⟩
 have HE : Hid (r.num = v / (g : Int) ∧ r.den = d / g ∧ (mag (v / (g : Int)).natAbs).length ≤ 1000000 ∧ (mag (d / g)).length ≤ 1000000 ∧ (mag g).length ≤ 1000000) := by
  have h1 := rmake_parts (n := v) h0
  rw [hg, ← hr] at h1
  have h2 := idiv_len (hg ▸ gcd_dvd_abs v d)
  have h3 := hx.row.hlen
  have h4 := hy.hlen
  have h5 := div_len d g
  have h6 := dvd_len (hg ▸ Nat.gcd_dvd_right v.natAbs d) (show 0 < d by omega)
  refine ⟨h1.1, h1.2, ?_, ?_, ?_⟩ <;> omega
 have hp0 : 0 < d := by omega
 clear hx hy hr hg hT0
 have hmag := run_mag
 go_enter Tryz.func88, Tryz.ntmps88
 obtain ⟨p0, p1⟩ := hT.a
 go_wp2_with (first
  | (go_at_call 83; rw [← hT.eq]; refine (common_any ao do' la ca ld cd v.natAbs d _ HX.out.1.row HX.out.2.1 hp0 (by omega) (by omega) HX.out.2.2).mono ?_; rw [HG.out.1]; rintro e w1 ⟨go, lg, cg, rfl, hr, hb1⟩; have hlg : lg ≤ 1000000 := (by rw [hr.hlen]; exact HE.out.2.2.2.2); have H1 : Hid (RowAt w1 .u64 go lg cg (mag g)) := hr; clear hr p0 p1; obtain ⟨p0, p1⟩ := hT.a.later hb1 (by omega))
  | (go_at_call 106; have _t := H3; refine (over_any false do' go ld cd lg cg (d : Int) g _ (row_int (HX.out.2.1.later H3.out.2.2)) (H1.out.later H3.out.2.1) (by omega) (by omega) hg0 HG.out.2.2).mono ?_; rintro e w4 ⟨n4, o4, l4, c4, rfl, hi, _, hb⟩; have H4 : Hid (RowAt w4 .u64 o4 l4 c4 (mag (d / g)) ∧ (n3 = sgB r.num ∧ Own W.heap.size w4 .u64 60 o3 l3 c3 (mag r.num.natAbs)) ∧ Below W.heap.size W w4) := ⟨(by have h := hi.row; rw [← Int.natCast_ediv, Int.natAbs_natCast] at h; exact h), ⟨H3.out.1.1, H3.out.1.2.later hb⟩, bnext H3.out.2.2 hb⟩; clear hi hb)
  | (go_at_call 106; refine (over_any na ao go la ca lg cg v g _ (HX.out.1.later hb1) H1.out (by omega) (by omega) hg0 HG.out.2.1).mono ?_; rintro e w2 ⟨n2, o2, l2, c2, rfl, hi, _, hb⟩; have hl2 : l2 ≤ 1000000 := (by rw [hi.row.hlen]; exact HE.out.2.2.1); have H2 : Hid (IntAt w2 n2 o2 l2 c2 (v / (g : Int)) ∧ Below w1.heap.size w1 w2) := ⟨hi, hb⟩; clear hi hb p0 p1)
  | (go_at_call 105; refine (rclone_any n2 o2 l2 c2 (v / (g : Int)) _ H2.out.1 (by omega)).mono ?_; rw [← HE.out.1]; rintro e w3 ⟨n3, o3, l3, c3, rfl, hs, ho, hb⟩; have H3 : Hid ((n3 = sgB r.num ∧ Own W.heap.size w3 .u64 60 o3 l3 c3 (mag r.num.natAbs)) ∧ Below w1.heap.size w1 w3 ∧ Below W.heap.size W w3) := ⟨⟨hs, ho.mono (bnext hb1 H2.out.2).size⟩, bnext H2.out.2 hb, bnext hb1 (bnext H2.out.2 hb)⟩; clear hs ho hb)
  | (go_at_call 107; refine (cloneNat_any o4 l4 c4 (d / g) _ H4.out.1 (by rw [H4.out.1.hlen]; have := HE.out.2.2.2.1; omega)).mono ?_; rintro e w5 ⟨o5, l5, c5, rfl, ho, hb⟩; have H5 : Hid ((n3 = sgB r.num ∧ Own W.heap.size w5 .u64 60 o3 l3 c3 (mag r.num.natAbs)) ∧ Own W.heap.size w5 .u64 60 o5 l5 c5 (mag r.den) ∧ Parted o3 o5 ∧ Below W.heap.size W w5) := ⟨⟨H4.out.2.1.1, H4.out.2.1.2.later hb⟩, (by rw [HE.out.2.1]; exact ho.mono H4.out.2.2.size), Parted.made H4.out.2.1.2 ho (Nat.le_refl _), bnext H4.out.2.2 hb⟩; clear ho hb; obtain ⟨k5, k2, k3, k4⟩ := hT.r.later H5.out.2.2.2 (by omega)))
 exact bodyPost_ret (v := .agg #[.bool n3, .slice o3 l3 c3, .slice o5 l5 c5]) (by simp [results, Tryz.results88, go_sem, k2, k3, k4]) rfl
  ⟨_, _, _, _, _, _, _, rfl, H5.out.1.1, (H5.out.1.2.store3 (by omega) _ _ _).mono (by omega), (H5.out.2.1.store3 (by omega) _ _ _).mono (by omega), H5.out.2.2.1, below_store3 (bnext hT.below H5.out.2.2.2) (by omega) _ _ _⟩
theorem make_good (na : Bool) (ao do' : Option Addr) (la ca ld cd : Nat) (x f : List Int) (v : Int) (d : Nat) (w : World) (hx : RowAt w .u64 ao la ca x) (hy : RowAt w .u64 do' ld cd f) (hl : la ≤ 1000000) (hl' : ld ≤ 1000000) (hm : mayB na x = true) (hm2 : mayB false f = true) (hxv : x = mag v.natAbs ∧ na = sgB v) (hfd : f = mag d) (h0 : d ≠ 0) (hT0 : TabAt 0 Lib.deBruijn64tab w) (r : Rat) (hr : r = Rat.normalize v d h0) :
  Calls Tryz.prog 57 #[.agg #[.bool na, .slice ao la ca], .slice do' ld cd] w fun e w' => NewRatErr w w' e r := by
 have HT : Hid (TabAt 0 Lib.deBruijn64tab w) := hT0
 clear hT0
 obtain ⟨W, hT⟩ := IR2.mk' w na ao la ca
 have hsz : w.heap.size + 2 ≤ W.heap.size := by rw [hT.size]; exact Nat.le_refl _
 have HX : Hid (RowAt W .u64 ao la ca x ∧ RowAt W .u64 do' ld cd f) := ⟨hx.later hT.below, hy.later hT.below⟩
 obtain ⟨p0, p1⟩ := hT.a
 clear hx hy
 have HTW : Hid (TabAt 0 Lib.deBruijn64tab W) := tab_later HT.out hT.below
 have HM : Hid ((if mayB na x then 0 else 10 : Int) = 0) := by show _ = _; rw [hm]; rfl
 have HM2 : Hid ((if mayB false f then 0 else 10 : Int) = 0) := by show _ = _; rw [hm2]; rfl
 have HV : Hid (IntAt W na ao la ca v ∧ RowAt W .u64 do' ld cd (mag d) ∧ r = Rat.normalize v d h0) := ⟨⟨hxv.2, hxv.1 ▸ HX.out.1⟩, hfd ▸ HX.out.2, hr⟩
 have hz' : ((ld : Int) == 0) = false := by
  have h1 : 0 < ld := by rw [HV.out.2.1.hlen]; exact mag_len_pos.2 (by omega)
  simp; omega
 clear hm hm2 hxv hfd hr
 go_enter Tryz.func57, Tryz.ntmps57
 go_wp2_with (first
  | (go_at_call 88; refine (lowest_rat na ao do' la ca ld cd v d _ (HV.out.1.later hb2) (HV.out.2.1.later hb2) h0 (by omega) (by omega) (tab_later HTW.out hb2) r HV.out.2.2).mono ?_; rintro e w3 ⟨n4, o4, l4, c4, o5, l5, c5, rfl, hs, ho, hp, hpt, hb3⟩; have HA : Hid (n4 = sgB r.num ∧ Own W.heap.size w3 .u64 60 o4 l4 c4 (mag r.num.natAbs) ∧ Own W.heap.size w3 .u64 60 o5 l5 c5 (mag r.den) ∧ Parted o4 o5 ∧ Below W.heap.size W w3) := ⟨hs, ho.mono hb2.size, hp.mono hb2.size, hpt, bnext hb2 hb3⟩; clear hs ho hp hpt hb3 p0 p1 g5 g2 g3 g4; obtain ⟨g5, g2, g3, g4⟩ := hT.r.later HA.out.2.2.2.2 (by omega))
  | (go_at_call 52; have _t := hb1; refine (check_at false do' ld cd f _ (HX.out.2.later hb1) (by omega) 0 HM2.out).mono ?_; rintro e w2 ⟨rfl, hb2'⟩; have hb2 := bnext hb1 hb2'; clear hb2' p0 p1 g5 g2 g3 g4; obtain ⟨p0, p1⟩ := hT.a.later hb2 (by omega); obtain ⟨g5, g2, g3, g4⟩ := hT.r.later hb2 (by omega))
  | (go_at_call 52; rw [← hT.eq]; refine (check_at na ao la ca x _ HX.out.1 (by omega) 0 HM.out).mono ?_; rintro e w1 ⟨rfl, hb1⟩; obtain ⟨p0, p1⟩ := hT.a.later hb1 (by omega); obtain ⟨g5, g2, g3, g4⟩ := hT.r.later hb1 (by omega)))
 exact bodyPost_ret (v := .tuple #[.agg #[.bool n4, .slice o4 l4 c4, .slice o5 l5 c5], .int .i64 0]) (by simp [results, Tryz.results57, go_sem, g2, g3, g4]) rfl
  ⟨_, _, _, _, _, _, _, rfl, HA.out.1, (HA.out.2.1.store3 (by omega) _ _ _).mono (by omega), (HA.out.2.2.1.store3 (by omega) _ _ _).mono (by omega), HA.out.2.2.2.1, below_store3 (bnext hT.below HA.out.2.2.2.2) (by omega) _ _ _⟩
end Go.Proofs.YthjkdnlbdhhmbaaGreatDoor
