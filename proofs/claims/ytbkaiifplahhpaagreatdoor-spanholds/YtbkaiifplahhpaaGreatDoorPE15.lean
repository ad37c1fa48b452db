/-
  A pack of walks and facts: RH, RF.
-/
import Derived.Test.YtbkaiifplahhpaaGreatDoorPE14
import Derived.Deep.DeepCutAuto
import Derived.Deep.RegionHeld3
set_option maxRecDepth 100000
set_option maxHeartbeats 40000000
set_option linter.unusedVariables false
set_option linter.unusedSimpArgs false
namespace Go.Proofs.YtbkaiifplahhpaaGreatDoor
open Go.RowKit
def OneV (U wx : World) (r : Nat) (v : Int) : Prop := ∃ n o l c, Boxed wx r n o l c ∧ (r < wx.heap.size ∧ U.heap.size ≤ r) ∧ n = sgB v ∧ Own U.heap.size wx .u64 68 o l c (mag v.natAbs) ∧ Below U.heap.size U wx
theorem ov_a {U y : World} {n : Bool} {o : Option Addr} {l c B : Nat} {v : Int} (hO : Hid (n = sgB v ∧ Own B y .u64 68 o l c (mag v.natAbs) ∧ U.heap.size ≤ B)) (hb : Below U.heap.size U y) : OneV U (y.alloc (.cells #[.bool n, .slice o l c] 26)) y.heap.size v :=
 ⟨n, o, l, c, ⟨by simp [go_sem], by simp [go_sem]⟩, ⟨by simp, hb.size⟩, hO.out.1, own_alloc (hO.out.2.1.mono hO.out.2.2), below_alloc hb (Nat.le_refl _)⟩
theorem ov_b {U y : World} {n : Bool} {o : Option Addr} {l c B r : Nat} {v : Int} (hO : Hid (n = sgB v ∧ Own B y .u64 68 o l c (mag v.natAbs) ∧ U.heap.size ≤ B)) (hb : Below U.heap.size U y) (hF : Fresh y r) (hrB : r < B) (hU : U.heap.size ≤ r) : OneV U ((y.setCell ⟨r, 0, none⟩ (.bool n)).setCell ⟨r, 1, none⟩ (.slice o l c)) r v := by
 obtain ⟨_, f3, f4⟩ := hF
 have hl : r < y.heap.size := cell_lt f3
 exact ⟨n, o, l, c, ⟨by simp [go_sem, f3, f4, hl], by simp [go_sem, f3, f4, hl]⟩, ⟨by simp; omega, hU⟩, hO.out.1, (own_set (own_set hO.out.2.1 hrB) hrB).mono hO.out.2.2, below_set (below_set hb hU) hU⟩
theorem run_mag (w : World) (n : Bool) (o : Option Addr) (l c : Nat) : Sem.run Tryz.prog (Instr.field 26 (.agg #[.bool n, .slice o l c]) 1) w = .ok (.slice o l c) w := by
 have h := run_underlying Tryz.underlying26 w
 unfold Instr.field
 simp [go_sem, h, asAgg]
theorem over_num {na : Bool} {ao go : Option Addr} {la ca lg cg d : Nat} {v q : Int} {U X : World} (hx : IntAt U na ao la ca v) (hy : RowAt U .u64 go lg cg (mag d)) (hl : la ≤ 1073741824) (hl' : lg ≤ 1073741824) (h0 : 0 < d) (hd : (d : Int) ∣ v) (hq : v / (d : Int) = q) (hb : Below U.heap.size U X) :
  Calls Tryz.prog 122 #[.agg #[.bool na, .slice ao la ca], .slice go lg cg] X fun e w' => ∃ n1 o1 l1 c1, e = .returned (.agg #[.bool n1, .slice o1 l1 c1]) ∧ IntAt w' n1 o1 l1 c1 q ∧ Below X.heap.size X w' :=
 (over_any na ao go la ca lg cg v d X (hx.later hb) (hy.later hb) hl hl' h0 hd).mono fun e w' ⟨n1, o1, l1, c1, h1, h2, _, h3⟩ => ⟨n1, o1, l1, c1, h1, hq ▸ h2, h3⟩
theorem product_rat (na nb : Bool) (ao po bo qo : Option Addr) (la ca lp cp lb cb lq cq : Nat) (a b : Rat) (w : World) (hx : RatAt w na ao la ca po lp cp a) (hy : RatAt w nb bo lb cb qo lq cq b) (ha : Sz a 1000) (hb : Sz b 1000) (hT0 : TabAt 0 Lib.deBruijn64tab w) :
  Calls Tryz.prog 91 #[.agg #[.bool na, .slice ao la ca, .slice po lp cp], .agg #[.bool nb, .slice bo lb cb, .slice qo lq cq]] w fun e w' => NewRat w w' e (a * b) := by
 obtain ⟨W, hT⟩ := RTwo3.mk' w na nb ao po bo qo la ca lp cp lb cb lq cq
 have hsz := hT.size
 have HX : Hid (RatAt W na ao la ca po lp cp a ∧ RatAt W nb bo lb cb qo lq cq b ∧ TabAt 0 Lib.deBruijn64tab W) := ⟨hx.later hT.below, hy.later hT.below, tab_later hT0 hT.below⟩
 have hla : la ≤ 1000 := (hx.len ha).1
 have hlp : lp ≤ 1000 := (hx.len ha).2
 have hlb : lb ≤ 1000 := (hy.len hb).1
 have hlq : lq ≤ 1000 := (hy.len hb).2
 obtain ⟨G, hG⟩ : ∃ G, a.num.natAbs.gcd b.den = G := ⟨_, rfl⟩
 obtain ⟨H, hH⟩ : ∃ H, b.num.natAbs.gcd a.den = H := ⟨_, rfl⟩
 have hG0 : 0 < G := by rw [← hG]; exact Nat.gcd_pos_of_pos_right _ b.den_pos
 have hH0 : 0 < H := by rw [← hH]; exact Nat.gcd_pos_of_pos_right _ a.den_pos
 have HD : Hid ((G : Int) ∣ a.num ∧ (H : Int) ∣ b.num ∧ (H : Int) ∣ (a.den : Int) ∧ (G : Int) ∣ (b.den : Int)) := ⟨hG ▸ gcd_dvd_abs a.num b.den, hH ▸ gcd_dvd_abs b.num a.den, Int.natCast_dvd_natCast.2 (hH ▸ Nat.gcd_dvd_right _ _), Int.natCast_dvd_natCast.2 (hG ▸ Nat.gcd_dvd_right _ _)⟩
 have HGl : Hid ((mag G).length ≤ 1000 ∧ (mag H).length ≤ 1000) := ⟨Nat.le_trans (dvd_len (hG ▸ Nat.gcd_dvd_right _ _) b.den_pos) hb.2, Nat.le_trans (dvd_len (hH ▸ Nat.gcd_dvd_right _ _) a.den_pos) ha.2⟩
 obtain ⟨NA, hNA⟩ : ∃ v : Int, a.num / (G : Int) = v := ⟨_, rfl⟩
 obtain ⟨NB, hNB⟩ : ∃ v : Int, b.num / (H : Int) = v := ⟨_, rfl⟩
 obtain ⟨DA, hDA⟩ : ∃ v : Int, (a.den : Int) / (H : Int) = v := ⟨_, rfl⟩
 obtain ⟨DB, hDB⟩ : ∃ v : Int, (b.den : Int) / (G : Int) = v := ⟨_, rfl⟩
 have HL : Hid ((mag NA.natAbs).length ≤ 1000 ∧ (mag NB.natAbs).length ≤ 1000 ∧ (mag DA.natAbs).length ≤ 1000 ∧ (mag DB.natAbs).length ≤ 1000) := ⟨by rw [← hNA]; exact Nat.le_trans (idiv_len HD.out.1) ha.1, by rw [← hNB]; exact Nat.le_trans (idiv_len HD.out.2.1) hb.1, by rw [← hDA]; exact Nat.le_trans (idiv_len HD.out.2.2.1) ha.2, by rw [← hDB]; exact Nat.le_trans (idiv_len HD.out.2.2.2) hb.2⟩
 obtain ⟨db, hdb⟩ : ∃ d : Nat, DB = (d : Int) := ⟨b.den / G, by rw [← hDB, Int.natCast_ediv]⟩
 have HEnd : Hid ((a * b).num = NA * NB ∧ ((a * b).den : Int) = DA * (db : Int)) := by
  have hp := rmul_parts a b
  rw [hG, hH] at hp
  refine ⟨by rw [hp.1, hNA, hNB], ?_⟩
  rw [hp.2, Int.natCast_mul, Int.natCast_ediv, Int.natCast_ediv, hDA, hDB, hdb]
 have HE : Hid (a.num / (G : Int) = NA ∧ b.num / (H : Int) = NB ∧ (a.den : Int) / (H : Int) = DA ∧ (b.den : Int) / (G : Int) = DB ∧ DB = (db : Int)) := ⟨hNA, hNB, hDA, hDB, hdb⟩
 have KW : Hid (∀ w' : World, Below W.heap.size W w' → (Below W.heap.size W w' ∧ w'.cell? ⟨w.heap.size, 0, none⟩ = some (.bool na) ∧ w'.cell? ⟨w.heap.size, 1, none⟩ = some (.slice ao la ca) ∧ w'.cell? ⟨w.heap.size, 2, none⟩ = some (.slice po lp cp) ∧ w'.cell? ⟨w.heap.size + 1, 0, none⟩ = some (.bool nb) ∧ w'.cell? ⟨w.heap.size + 1, 1, none⟩ = some (.slice bo lb cb) ∧ w'.cell? ⟨w.heap.size + 1, 2, none⟩ = some (.slice qo lq cq))) := fun w' h => ⟨h, (h.cell (p := ⟨w.heap.size, 0, none⟩) (by show w.heap.size < _; omega)).trans hT.a.1, (h.cell (p := ⟨w.heap.size, 1, none⟩) (by show w.heap.size < _; omega)).trans hT.a.2.1, (h.cell (p := ⟨w.heap.size, 2, none⟩) (by show w.heap.size < _; omega)).trans hT.a.2.2, (h.cell (p := ⟨w.heap.size + 1, 0, none⟩) (by show w.heap.size + 1 < _; omega)).trans hT.b.1, (h.cell (p := ⟨w.heap.size + 1, 1, none⟩) (by show w.heap.size + 1 < _; omega)).trans hT.b.2.1, (h.cell (p := ⟨w.heap.size + 1, 2, none⟩) (by show w.heap.size + 1 < _; omega)).trans hT.b.2.2⟩
 have HC1 : Hid (∀ X, Below W.heap.size W X → Calls Tryz.prog 110 #[.slice ao la ca, .slice qo lq cq] X fun e w' => SomeRow X w' e G) := fun X h => hG ▸ common_any ao qo la ca lq cq _ _ X (HX.out.1.num.row.later h) (HX.out.2.1.den.later h) b.den_pos (by omega) (by omega) (tab_later HX.out.2.2 h)
 have HC2 : Hid (∀ X, Below W.heap.size W X → Calls Tryz.prog 110 #[.slice bo lb cb, .slice po lp cp] X fun e w' => SomeRow X w' e H) := fun X h => hH ▸ common_any bo po lb cb lp cp _ _ X (HX.out.2.1.num.row.later h) (HX.out.1.den.later h) a.den_pos (by omega) (by omega) (tab_later HX.out.2.2 h)
 have HF : Hid (Fresh3 W (w.heap.size + 1 + 1) ∧ Below w.heap.size w W) := ⟨hT.r, hT.below⟩
 clear hx hy ha hb hT0 hG hH hNA hNB hDA hDB hdb
 go_enter Tryz.func91, Tryz.ntmps91
 go_upto_region 1 with fail
 rw [← hT.eq]
 clear hT
 go_cut [5, 6] (fun s5 s6 wx => ∃ go lg cg ho lh ch, s5 = .slice go lg cg ∧ s6 = .slice ho lh ch ∧ RowAt wx .u64 go lg cg (mag G) ∧ RowAt wx .u64 ho lh ch (mag H) ∧ Below W.heap.size W wx)
 case first => as_aux_lemma =>
  have hzU : W.heap.size ≤ W.drew.heap.size := Nat.le_refl _
  have S0 : Step8 0 := ⟨trivial⟩
  go_region_held3 (fun w' => (Below W.heap.size W w' ∧ w'.cell? ⟨w.heap.size, 0, none⟩ = some (.bool na) ∧ w'.cell? ⟨w.heap.size, 1, none⟩ = some (.slice ao la ca) ∧ w'.cell? ⟨w.heap.size, 2, none⟩ = some (.slice po lp cp) ∧ w'.cell? ⟨w.heap.size + 1, 0, none⟩ = some (.bool nb) ∧ w'.cell? ⟨w.heap.size + 1, 1, none⟩ = some (.slice bo lb cb) ∧ w'.cell? ⟨w.heap.size + 1, 2, none⟩ = some (.slice qo lq cq)))
   (with_reducible (first | exact KW.out _ (Below.refl _ _).drew | exact KW.out _ (by assumption) | (refine KW.out _ ?_; (repeat (first | refine below_alloc ?_ (Nat.le_refl _) | refine Below.drew ?_ | refine below_set ?_ (by omega))); (first | exact hbF2 | exact hbF1 | exact Below.refl _ _))))
   (first
    | (have _t := S0; go_at_call 110; refine with_held (S := fun w9 => Below W.heap.size W w9) (by show Below _ _ _; with_reducible ((repeat (first | refine below_alloc ?_ (Nat.le_refl _) | refine Below.drew ?_ | refine below_set ?_ (by omega))); (first | exact hbF2 | exact hbF1 | exact Below.refl _ _))) (fun hS => ?_); refine (HC1.out _ hS).mono ?_; rintro e f1 ⟨go, lg, cg, rfl, hr, hb⟩; have H1 : Hid (RowAt f1 .u64 go lg cg (mag G)) := hr; clear hr; have hbF1 : Below W.heap.size W f1 := bnext hS hb; have hzF1 := hbF1.size; clear hS hb S0; have S1 : Step8 1 := ⟨trivial⟩)
    | (have _t := S1; go_at_call 110; refine with_held (S := fun w9 => Below W.heap.size W w9) (by show Below _ _ _; with_reducible ((repeat (first | refine below_alloc ?_ (Nat.le_refl _) | refine Below.drew ?_ | refine below_set ?_ (by omega))); (first | exact hbF2 | exact hbF1 | exact Below.refl _ _))) (fun hS => ?_); refine with_held (S := fun w9 => Below f1.heap.size f1 w9) (by show Below _ _ _; with_reducible ((repeat (refine below_alloc ?_ (Nat.le_refl _))); exact Below.refl _ _)) (fun hS2 => ?_); refine (HC2.out _ hS).mono ?_; rintro e f2 ⟨ho, lh, ch, rfl, hr, hb⟩; have H2 : Hid (RowAt f2 .u64 go lg cg (mag G) ∧ RowAt f2 .u64 ho lh ch (mag H)) := ⟨H1.out.later (bnext hS2 hb), hr⟩; clear hr; have hbF2 : Below W.heap.size W f2 := bnext hS hb; have hzF2 := hbF2.size; clear hS hb S1; clear hS2; skip))
  all_goals go_wp2
  all_goals go_meet
  all_goals exact ⟨_, _, _, _, _, _, rfl, rfl, H2.out.1, H2.out.2, hbF2⟩
 case rest => as_aux_lemma =>
  obtain ⟨go, lg, cg, ho, lh, ch, rfl, rfl, hg, hh, hbU⟩ := hcut
  obtain ⟨U, hU⟩ : ∃ Z0, Z0 = wc := ⟨_, rfl⟩
  subst hU
  have hsU := hbU.size
  have hlg : lg ≤ 1000 := by rw [hg.hlen]; exact HGl.out.1
  have hlh : lh ≤ 1000 := by rw [hh.hlen]; exact HGl.out.2
  have KU : Hid (∀ w' : World, Below U.heap.size U w' → (Below U.heap.size U w' ∧ w'.cell? ⟨w.heap.size, 0, none⟩ = some (.bool na) ∧ w'.cell? ⟨w.heap.size, 1, none⟩ = some (.slice ao la ca) ∧ w'.cell? ⟨w.heap.size, 2, none⟩ = some (.slice po lp cp) ∧ w'.cell? ⟨w.heap.size + 1, 0, none⟩ = some (.bool nb) ∧ w'.cell? ⟨w.heap.size + 1, 1, none⟩ = some (.slice bo lb cb) ∧ w'.cell? ⟨w.heap.size + 1, 2, none⟩ = some (.slice qo lq cq))) := fun w' h => ⟨h, (KW.out w' (bnext hbU h)).2⟩
  have HU : Hid (RowAt U .u64 go lg cg (mag G) ∧ RowAt U .u64 ho lh ch (mag H) ∧ RatAt U na ao la ca po lp cp a ∧ RatAt U nb bo lb cb qo lq cq b ∧ Below W.heap.size W U) := ⟨hg, hh, HX.out.1.later hbU, HX.out.2.1.later hbU, hbU⟩
  clear hg hh hbU KW HC1 HC2 HX
  go_upto_region 2 with fail
  go_cut [7] (fun s7 wx => ∃ r7, s7 = .pointer (some ⟨r7, 0, none⟩) ∧ OneV U wx r7 (NA * NB))
  case first => as_aux_lemma =>
   have hzU : U.heap.size ≤ U.drew.heap.size := Nat.le_refl _
   have S0 : Step8 0 := ⟨trivial⟩
   go_region_held3 (fun w' => (Below U.heap.size U w' ∧ w'.cell? ⟨w.heap.size, 0, none⟩ = some (.bool na) ∧ w'.cell? ⟨w.heap.size, 1, none⟩ = some (.slice ao la ca) ∧ w'.cell? ⟨w.heap.size, 2, none⟩ = some (.slice po lp cp) ∧ w'.cell? ⟨w.heap.size + 1, 0, none⟩ = some (.bool nb) ∧ w'.cell? ⟨w.heap.size + 1, 1, none⟩ = some (.slice bo lb cb) ∧ w'.cell? ⟨w.heap.size + 1, 2, none⟩ = some (.slice qo lq cq)))
    (with_reducible (first | exact KU.out _ (Below.refl _ _).drew | exact KU.out _ (by assumption) | (refine KU.out _ ?_; (repeat (first | refine below_alloc ?_ (Nat.le_refl _) | refine Below.drew ?_ | refine below_set ?_ (by omega))); (first | exact hbF3 | exact hbF2 | exact hbF1 | exact Below.refl _ _))))
    (first
     | (have _t := S0; go_at_call 122; refine with_held (S := fun w9 => Below U.heap.size U w9) (by show Below _ _ _; with_reducible ((repeat (first | refine below_alloc ?_ (Nat.le_refl _) | refine Below.drew ?_ | refine below_set ?_ (by omega))); (first | exact hbF3 | exact hbF2 | exact hbF1 | exact Below.refl _ _))) (fun hS => ?_); (first | (with_reducible refine with_held (S := fun w9 => Fresh w9 U.heap.size) (Fresh.drew' (Fresh.new U)) (fun FA => ?_)) | skip); refine (over_num HU.out.2.2.1.num HU.out.1 (by omega) (by omega) hG0 HD.out.1 HE.out.1 hS).mono ?_; rintro e f1 ⟨n1, o1, l1, c1, rfl, hi, hb⟩; have H1 : Hid (IntAt f1 n1 o1 l1 c1 NA) := hi; clear hi; have hbF1 : Below U.heap.size U f1 := bnext hS hb; have hzF1 := hbF1.size; (try clear hltA); (try (have hltA := cell_lt FA.2.1; dsimp only at hltA; replace FA := Fresh.next FA hb)); clear hS hb S0; have S1 : Step8 1 := ⟨trivial⟩)
     | (have _t := S1; go_at_call 122; refine with_held (S := fun w9 => Below U.heap.size U w9) (by show Below _ _ _; with_reducible ((repeat (first | refine below_alloc ?_ (Nat.le_refl _) | refine Below.drew ?_ | refine below_set ?_ (by omega))); (first | exact hbF3 | exact hbF2 | exact hbF1 | exact Below.refl _ _))) (fun hS => ?_); refine with_held (S := fun w9 => Below f1.heap.size f1 w9) (by show Below _ _ _; with_reducible ((repeat (refine below_alloc ?_ (Nat.le_refl _))); exact Below.refl _ _)) (fun hS2 => ?_); (first | (with_reducible refine with_held (S := fun w9 => Fresh w9 f1.heap.size) (Fresh.new f1) (fun FA => ?_)) | skip); refine (over_num HU.out.2.2.2.1.num HU.out.2.1 (by omega) (by omega) hH0 HD.out.2.1 HE.out.2.1 hS).mono ?_; rintro e f2 ⟨n2, o2, l2, c2, rfl, hi, hb⟩; have H2 : Hid (IntAt f2 n1 o1 l1 c1 NA ∧ IntAt f2 n2 o2 l2 c2 NB) := ⟨H1.out.later (bnext hS2 hb), hi⟩; have hl1 : l1 ≤ 1000 := (by rw [H2.out.1.row.hlen]; exact HL.out.1); have hl2 : l2 ≤ 1000 := (by rw [H2.out.2.row.hlen]; exact HL.out.2.1); clear hi; have hbF2 : Below U.heap.size U f2 := bnext hS hb; have hzF2 := hbF2.size; (try clear hltA); (try (have hltA := cell_lt FA.2.1; dsimp only at hltA; replace FA := Fresh.next FA hb)); clear hS hb S1; clear hS2; have S2 : Step8 2 := ⟨trivial⟩)
     | (have _t := S2; go_at_call 121; refine with_held (S := fun w9 => Below U.heap.size U w9) (by show Below _ _ _; with_reducible ((repeat (first | refine below_alloc ?_ (Nat.le_refl _) | refine Below.drew ?_ | refine below_set ?_ (by omega))); (first | exact hbF3 | exact hbF2 | exact hbF1 | exact Below.refl _ _))) (fun hS => ?_); refine with_held (S := fun w9 => Below f2.heap.size f2 w9) (by show Below _ _ _; with_reducible ((repeat (refine below_alloc ?_ (Nat.le_refl _))); exact Below.refl _ _)) (fun hS2 => ?_); (first | (with_reducible refine with_held (S := fun w9 => Fresh w9 f2.heap.size) (Fresh.new f2) (fun FA => ?_)) | skip); refine (rtimes2_any n1 n2 o1 o2 l1 c1 l2 c2 NA NB _ (H2.out.1.later hS2) (H2.out.2.later hS2) (by omega) (by omega)).mono ?_; rintro e f3 ⟨n3, o3, l3, c3, rfl, hs, ho3, hb⟩; have HO : Hid (n3 = sgB (NA * NB) ∧ Own _ f3 .u64 68 o3 l3 c3 (mag (NA * NB).natAbs) ∧ U.heap.size ≤ _) := ⟨hs, ho3, hS.size⟩; clear hs ho3; have hbF3 : Below U.heap.size U f3 := bnext hS hb; have hzF3 := hbF3.size; (try clear hltA); (try (have hltA := cell_lt FA.2.1; dsimp only at hltA; replace FA := Fresh.next FA hb)); (try (obtain ⟨a5, a3, a4⟩ := FA)); clear hS hb S2; clear hS2; skip))
   all_goals go_wp2
   all_goals go_meet
   all_goals refine ⟨_, rfl, ?_⟩
   all_goals (first
    | (with_reducible exact ov_a HO hbF3)
    | ((with_reducible refine ov_b HO hbF3 ?_ ?_ ?_) <;> (first | (with_reducible exact fresh_mk a5 a3 a4) | (with_reducible exact hltA) | omega)))
  case rest => as_aux_lemma =>
   obtain ⟨r7, rfl, n7, o7, l7, c7, hbx7, ⟨hr7, hr7U⟩, hs7, ho7, hbV⟩ := hcut
   obtain ⟨Y, hY⟩ : ∃ Z0, Z0 = wc := ⟨_, rfl⟩
   subst hY
   have hsY := hbV.size
   have KY : Hid (∀ w' : World, Below Y.heap.size Y w' → (Below Y.heap.size Y w' ∧ w'.cell? ⟨w.heap.size, 0, none⟩ = some (.bool na) ∧ w'.cell? ⟨w.heap.size, 1, none⟩ = some (.slice ao la ca) ∧ w'.cell? ⟨w.heap.size, 2, none⟩ = some (.slice po lp cp) ∧ w'.cell? ⟨w.heap.size + 1, 0, none⟩ = some (.bool nb) ∧ w'.cell? ⟨w.heap.size + 1, 1, none⟩ = some (.slice bo lb cb) ∧ w'.cell? ⟨w.heap.size + 1, 2, none⟩ = some (.slice qo lq cq))) := fun w' h => ⟨h, (KU.out w' (bnext hbV h)).2⟩
   have HY : Hid (RowAt Y .u64 go lg cg (mag G) ∧ RowAt Y .u64 ho lh ch (mag H) ∧ RatAt Y na ao la ca po lp cp a ∧ RatAt Y nb bo lb cb qo lq cq b ∧ Below W.heap.size W Y) := ⟨HU.out.1.later hbV, HU.out.2.1.later hbV, HU.out.2.2.1.later hbV, HU.out.2.2.2.1.later hbV, bnext HU.out.2.2.2.2 hbV⟩
   have H7 : Hid (Boxed Y r7 n7 o7 l7 c7 ∧ n7 = sgB (NA * NB) ∧ Own U.heap.size Y .u64 68 o7 l7 c7 (mag (NA * NB).natAbs)) := ⟨hbx7, hs7, ho7⟩
   clear hbx7 hs7 ho7 hbV KU HU
   have hfld := run_mag
   go_upto_region 3 with fail
   go_cut [8] (fun s8 wx => ∃ r8, s8 = .pointer (some ⟨r8, 0, none⟩) ∧ OneV Y wx r8 (DA * (db : Int)))
   case first => as_aux_lemma =>
    have hzU : Y.heap.size ≤ Y.drew.heap.size := Nat.le_refl _
    have S0 : Step8 0 := ⟨trivial⟩
    go_region_held3 (fun w' => (Below Y.heap.size Y w' ∧ w'.cell? ⟨w.heap.size, 0, none⟩ = some (.bool na) ∧ w'.cell? ⟨w.heap.size, 1, none⟩ = some (.slice ao la ca) ∧ w'.cell? ⟨w.heap.size, 2, none⟩ = some (.slice po lp cp) ∧ w'.cell? ⟨w.heap.size + 1, 0, none⟩ = some (.bool nb) ∧ w'.cell? ⟨w.heap.size + 1, 1, none⟩ = some (.slice bo lb cb) ∧ w'.cell? ⟨w.heap.size + 1, 2, none⟩ = some (.slice qo lq cq)))
     (with_reducible (first | exact KY.out _ (Below.refl _ _).drew | exact KY.out _ (by assumption) | (refine KY.out _ ?_; (repeat (first | refine below_alloc ?_ (Nat.le_refl _) | refine Below.drew ?_ | refine below_set ?_ (by omega))); (first | exact hbF3 | exact hbF2 | exact hbF1 | exact Below.refl _ _))))
     (first
      | (have _t := S0; go_at_call 122; refine with_held (S := fun w9 => Below Y.heap.size Y w9) (by show Below _ _ _; with_reducible ((repeat (first | refine below_alloc ?_ (Nat.le_refl _) | refine Below.drew ?_ | refine below_set ?_ (by omega))); (first | exact hbF3 | exact hbF2 | exact hbF1 | exact Below.refl _ _))) (fun hS => ?_); (first | (with_reducible refine with_held (S := fun w9 => Fresh w9 Y.heap.size) (Fresh.drew' (Fresh.new Y)) (fun FA => ?_)) | skip); refine (over_num (row_int HY.out.2.2.1.den) HY.out.2.1 (by omega) (by omega) hH0 HD.out.2.2.1 HE.out.2.2.1 hS).mono ?_; rintro e f1 ⟨n1, o1, l1, c1, rfl, hi, hb⟩; have H1 : Hid (IntAt f1 n1 o1 l1 c1 DA) := hi; clear hi; have hbF1 : Below Y.heap.size Y f1 := bnext hS hb; have hzF1 := hbF1.size; (try clear hltA); (try (have hltA := cell_lt FA.2.1; dsimp only at hltA; replace FA := Fresh.next FA hb)); clear hS hb S0; have S1 : Step8 1 := ⟨trivial⟩)
      | (have _t := S1; go_at_call 122; refine with_held (S := fun w9 => Below Y.heap.size Y w9) (by show Below _ _ _; with_reducible ((repeat (first | refine below_alloc ?_ (Nat.le_refl _) | refine Below.drew ?_ | refine below_set ?_ (by omega))); (first | exact hbF3 | exact hbF2 | exact hbF1 | exact Below.refl _ _))) (fun hS => ?_); refine with_held (S := fun w9 => Below f1.heap.size f1 w9) (by show Below _ _ _; with_reducible ((repeat (refine below_alloc ?_ (Nat.le_refl _))); exact Below.refl _ _)) (fun hS2 => ?_); (first | (with_reducible refine with_held (S := fun w9 => Fresh w9 f1.heap.size) (Fresh.new f1) (fun FA => ?_)) | skip); refine (over_num (row_int HY.out.2.2.2.1.den) HY.out.1 (by omega) (by omega) hG0 HD.out.2.2.2 HE.out.2.2.2.1 hS).mono ?_; rintro e f2 ⟨n2, o2, l2, c2, rfl, hi, hb⟩; have H2 : Hid (IntAt f2 n1 o1 l1 c1 DA ∧ RowAt f2 .u64 o2 l2 c2 (mag db)) := ⟨H1.out.later (bnext hS2 hb), (by have := hi.row; rw [HE.out.2.2.2.2, Int.natAbs_natCast] at this; exact this)⟩; have hl1 : l1 ≤ 1000 := (by rw [H2.out.1.row.hlen]; exact HL.out.2.2.1); have hl2 : l2 ≤ 1000 := (by rw [hi.row.hlen]; exact HL.out.2.2.2); clear hi; have hbF2 : Below Y.heap.size Y f2 := bnext hS hb; have hzF2 := hbF2.size; (try clear hltA); (try (have hltA := cell_lt FA.2.1; dsimp only at hltA; replace FA := Fresh.next FA hb)); clear hS hb S1; clear hS2; have S2 : Step8 2 := ⟨trivial⟩)
      | (have _t := S2; go_at_call 114; refine with_held (S := fun w9 => Below Y.heap.size Y w9) (by show Below _ _ _; with_reducible ((repeat (first | refine below_alloc ?_ (Nat.le_refl _) | refine Below.drew ?_ | refine below_set ?_ (by omega))); (first | exact hbF3 | exact hbF2 | exact hbF1 | exact Below.refl _ _))) (fun hS => ?_); refine with_held (S := fun w9 => Below f2.heap.size f2 w9) (by show Below _ _ _; with_reducible ((repeat (refine below_alloc ?_ (Nat.le_refl _))); exact Below.refl _ _)) (fun hS2 => ?_); (first | (with_reducible refine with_held (S := fun w9 => Fresh w9 f2.heap.size) (Fresh.new f2) (fun FA => ?_)) | skip); refine (timesNat_any n1 o1 o2 l1 c1 l2 c2 DA db _ (H2.out.1.later hS2) (H2.out.2.later hS2) (by omega) (by omega)).mono ?_; rintro e f3 ⟨n3, o3, l3, c3, rfl, hs, ho3, hb⟩; have HO : Hid (n3 = sgB (DA * (db : Int)) ∧ Own _ f3 .u64 68 o3 l3 c3 (mag (DA * (db : Int)).natAbs) ∧ Y.heap.size ≤ _) := ⟨hs, ho3, hS.size⟩; clear hs ho3; have hbF3 : Below Y.heap.size Y f3 := bnext hS hb; have hzF3 := hbF3.size; (try clear hltA); (try (have hltA := cell_lt FA.2.1; dsimp only at hltA; replace FA := Fresh.next FA hb)); (try (obtain ⟨a5, a3, a4⟩ := FA)); clear hS hb S2; clear hS2; skip))
    all_goals go_wp2
    all_goals go_meet
    all_goals refine ⟨_, rfl, ?_⟩
    all_goals (first
     | (with_reducible exact ov_a HO hbF3)
     | ((with_reducible refine ov_b HO hbF3 ?_ ?_ ?_) <;> (first | (with_reducible exact fresh_mk a5 a3 a4) | (with_reducible exact hltA) | omega)))
   case rest => as_aux_lemma =>
    obtain ⟨r8, rfl, n8, o8, l8, c8, hbx8, ⟨hr8, hr8Y⟩, hs8, ho8, hbV⟩ := hcut
    obtain ⟨Z, hZ⟩ : ∃ Z0, Z0 = wc := ⟨_, rfl⟩
    subst hZ
    have hsZ := hbV.size
    obtain ⟨p0, p1⟩ := H7.out.1.later hbV hr7
    obtain ⟨q0, q1⟩ := hbx8
    obtain ⟨g5, g2, g3, g4⟩ := HF.out.1.later (bnext HY.out.2.2.2.2 hbV) (by omega)
    have H8 : Hid (n8 = sgB (DA * (db : Int)) ∧ Own Y.heap.size Z .u64 68 o8 l8 c8 (mag (DA * (db : Int)).natAbs) ∧ Below Y.heap.size Y Z) := ⟨hs8, ho8, hbV⟩
    have hn78 : r7 ≠ r8 := by omega
    clear hs8 ho8 hbV
    go_wp2
    have hden : mag (DA * (db : Int)).natAbs = mag (a * b).den := by rw [← HEnd.out.2, Int.natAbs_natCast]
    have hO7 : Own U.heap.size Z .u64 68 o7 l7 c7 (mag (a * b).num.natAbs) := by rw [HEnd.out.1]; exact H7.out.2.2.later H8.out.2.2
    have hO8 : Own Y.heap.size Z .u64 68 o8 l8 c8 (mag (a * b).den) := by rw [← hden]; exact H8.out.2.1
    have hsW := HY.out.2.2.2.2.size
    exact bodyPost_ret (v := .agg #[.bool n7, .slice o7 l7 c7, .slice o8 l8 c8]) (by simp [results, Tryz.results91, go_sem, g2, g3, g4]) rfl
     ⟨_, _, _, _, _, _, _, rfl, by rw [HEnd.out.1]; exact H7.out.2.1, (hO7.store3 (by omega) _ _ _).mono (by omega), (hO8.store3 (by omega) _ _ _).mono (by omega), Parted.made H7.out.2.2 hO8 (Nat.le_refl _), below_store3 (bnext HF.out.2 (bnext HY.out.2.2.2.2 H8.out.2.2)) (by omega) _ _ _⟩
theorem mul_rat (na nb : Bool) (ao po bo qo : Option Addr) (la ca lp cp lb cb lq cq : Nat) (a b : Rat) (w : World) (hx : RatAt w na ao la ca po lp cp a) (hy : RatAt w nb bo lb cb qo lq cq b) (ha : Sz a 1000) (hb : Sz b 1000) (hT0 : TabAt 0 Lib.deBruijn64tab w) :
  Calls Tryz.prog 86 #[.agg #[.bool na, .slice ao la ca, .slice po lp cp], .agg #[.bool nb, .slice bo lb cb, .slice qo lq cq]] w fun e w' => NewRatErr w w' e (a * b) := by
 obtain ⟨W, hT⟩ := RTwo3.mk' w na nb ao po bo qo la ca lp cp lb cb lq cq
 have hsz := hT.size
 have HX : Hid (RatAt W na ao la ca po lp cp a ∧ RatAt W nb bo lb cb qo lq cq b ∧ TabAt 0 Lib.deBruijn64tab W) := ⟨hx.later hT.below, hy.later hT.below, tab_later hT0 hT.below⟩
 have hla : la ≤ 1000 := (hx.len ha).1
 have hlp : lp ≤ 1000 := (hx.len ha).2
 have hlb : lb ≤ 1000 := (hy.len hb).1
 have hlq : lq ≤ 1000 := (hy.len hb).2
 clear hx hy hT0
 go_enter Tryz.func86, Tryz.ntmps86
 go_wp2_with (first
  | (go_at_call 81; rw [← hT.eq]; refine (checkBoth_good na nb ao po bo qo la ca lp cp lb cb lq cq a b _ HX.out.1 HX.out.2.1 (by omega) (by omega) (by omega) (by omega) HX.out.2.2).mono ?_; rintro e w1 ⟨rfl, hb1⟩; obtain ⟨p0, p1, p2⟩ := hT.a.later hb1 (by omega); obtain ⟨q0, q1, q2⟩ := hT.b.later hb1 (by omega); obtain ⟨g5, g2, g3, g4⟩ := hT.r.later hb1 (by omega))
  | (go_at_call 91; refine (product_rat na nb ao po bo qo la ca lp cp lb cb lq cq a b _ (HX.out.1.later hb1) (HX.out.2.1.later hb1) ha hb (tab_later HX.out.2.2 hb1)).mono ?_; rintro e w2 ⟨n2, o2, l2, c2, o3, l3, c3, rfl, hs2, ho2, ho3, hp2, hb2⟩; have HS : Hid (n2 = sgB (a * b).num) := hs2; clear hs2 g5 g2 g3 g4 p0 p1 p2 q0 q1 q2; obtain ⟨g5, g2, g3, g4⟩ := hT.r.later (bnext hb1 hb2) (by omega)))
 have hs1 := hb1.size
 exact bodyPost_ret (v := .tuple #[.agg #[.bool n2, .slice o2 l2 c2, .slice o3 l3 c3], .int .i64 0]) (by simp [results, Tryz.results86, go_sem, g2, g3, g4]) rfl
  ⟨_, _, _, _, _, _, _, rfl, HS.out, (ho2.store3 (by omega) _ _ _).mono (by omega), (ho3.store3 (by omega) _ _ _).mono (by omega), hp2, below_store3 (bnext hT.below (bnext hb1 hb2)) (by omega) _ _ _⟩
end Go.Proofs.YtbkaiifplahhpaaGreatDoor
namespace Go.Proofs.YtbkaiifplahhpaaGreatDoor
open Go.RowKit
theorem over_own {na : Bool} {ao go : Option Addr} {la ca lg cg d B : Nat} {v q : Int} {U X : World} (hx : IntAt U na ao la ca v) (hO : Own B U .u64 68 ao la ca (mag v.natAbs)) (hB : B ≤ U.heap.size) (hy : RowAt U .u64 go lg cg (mag d)) (hl : la ≤ 1073741824) (hl' : lg ≤ 1073741824) (h0 : 0 < d) (hd : (d : Int) ∣ v) (hq : v / (d : Int) = q) (hb : Below U.heap.size U X) :
  Calls Tryz.prog 122 #[.agg #[.bool na, .slice ao la ca], .slice go lg cg] X fun e w' => ∃ n1 o1 l1 c1, e = .returned (.agg #[.bool n1, .slice o1 l1 c1]) ∧ (n1 = sgB q ∧ Own B w' .u64 68 o1 l1 c1 (mag q.natAbs)) ∧ Below X.heap.size X w' :=
 (over_any na ao go la ca lg cg v d X (hx.later hb) (hy.later hb) hl hl' h0 hd).mono fun e w' ⟨n1, o1, l1, c1, h1, h2, h4, h3⟩ => ⟨n1, o1, l1, c1, h1, ⟨by rw [← hq]; exact h2.sg, by
  rw [← hq]
  rcases h4 with ⟨rfl, rfl, rfl, rfl⟩ | h4
  ·
   have e1 : (mag (v / (d : Int)).natAbs) = mag v.natAbs := by
    have k1 := h2.row
    have k2 := (hx.later (bnext hb h3)).row
    refine dig_ext (by rw [← k1.hlen, ← k2.hlen]) fun t ht => ?_
    have ht2 : t < l1 := by rw [k1.hlen]; exact ht
    obtain ⟨b1, f1, e1, _, c1⟩ := k1.get (by omega)
    obtain ⟨b2, f2, e2, _, c2⟩ := k2.get (by omega)
    rw [e1] at e2
    cases e2
    have := (c1 t ht2).symm.trans (c2 t ht2)
    simpa using this
   rw [e1]; exact (hO.later hb).later h3
  ·
   exact h4.mono (Nat.le_trans hB hb.size)⟩, h3⟩
theorem sum_rat (na nb : Bool) (ao po bo qo : Option Addr) (la ca lp cp lb cb lq cq : Nat) (a b : Rat) (w : World) (hx : RatAt w na ao la ca po lp cp a) (hy : RatAt w nb bo lb cb qo lq cq b) (ha : Sz a 1000) (hb : Sz b 1000) (hT0 : TabAt 0 Lib.deBruijn64tab w) :
  Calls Tryz.prog 92 #[.agg #[.bool na, .slice ao la ca, .slice po lp cp], .agg #[.bool nb, .slice bo lb cb, .slice qo lq cq]] w fun e w' => NewRat w w' e (a + b) := by
 obtain ⟨W, hT⟩ := RTwo3.mk' w na nb ao po bo qo la ca lp cp lb cb lq cq
 have hsz := hT.size
 have HX : Hid (RatAt W na ao la ca po lp cp a ∧ RatAt W nb bo lb cb qo lq cq b ∧ TabAt 0 Lib.deBruijn64tab W) := ⟨hx.later hT.below, hy.later hT.below, tab_later hT0 hT.below⟩
 have hla : la ≤ 1000 := (hx.len ha).1
 have hlp : lp ≤ 1000 := (hx.len ha).2
 have hlb : lb ≤ 1000 := (hy.len hb).1
 have hlq : lq ≤ 1000 := (hy.len hb).2
 obtain ⟨G, hG⟩ : ∃ G, a.den.gcd b.den = G := ⟨_, rfl⟩
 have hG0 : 0 < G := by rw [← hG]; exact Nat.gcd_pos_of_pos_left _ a.den_pos
 have HGa : Hid ((G : Int) ∣ (a.den : Int)) := Int.natCast_dvd_natCast.2 (hG ▸ Nat.gcd_dvd_left _ _)
 have HGb : Hid ((G : Int) ∣ (b.den : Int)) := Int.natCast_dvd_natCast.2 (hG ▸ Nat.gcd_dvd_right _ _)
 have hGl : Hid ((mag G).length ≤ 1000) := Nat.le_trans (dvd_len (Int.natCast_dvd_natCast.1 HGa.out) a.den_pos) ha.2
 obtain ⟨RA, hRA⟩ : ∃ RA : Int, (a.den : Int) / (G : Int) = RA := ⟨_, rfl⟩
 obtain ⟨RB, hRB⟩ : ∃ RB : Int, (b.den : Int) / (G : Int) = RB := ⟨_, rfl⟩
 obtain ⟨n, hn⟩ : ∃ n : Int, a.num * RB + b.num * RA = n := ⟨_, rfl⟩
 have HL : Hid ((mag RA.natAbs).length ≤ 1000 ∧ (mag RB.natAbs).length ≤ 1000) := ⟨by rw [← hRA]; exact Nat.le_trans (idiv_len HGa.out) ha.2, by rw [← hRB]; exact Nat.le_trans (idiv_len HGb.out) hb.2⟩
 obtain ⟨H, hH⟩ : ∃ H, n.natAbs.gcd G = H := ⟨_, rfl⟩
 have hH0 : 0 < H := by rw [← hH]; exact Nat.gcd_pos_of_pos_right _ hG0
 have HHn : Hid ((H : Int) ∣ n) := hH ▸ gcd_dvd_abs n G
 have HHb : Hid ((H : Int) ∣ (b.den : Int)) := Int.natCast_dvd_natCast.2 (Nat.dvd_trans (hH ▸ Nat.gcd_dvd_right _ _) (Int.natCast_dvd_natCast.1 HGb.out))
 have HHl : Hid ((mag H).length ≤ 1000) := Nat.le_trans (dvd_len (hH ▸ Nat.gcd_dvd_right _ _) hG0) hGl.out
 obtain ⟨NH, hNH⟩ : ∃ v : Int, n / (H : Int) = v := ⟨_, rfl⟩
 obtain ⟨DB, hDB⟩ : ∃ v : Int, (b.den : Int) / (H : Int) = v := ⟨_, rfl⟩
 obtain ⟨db, hdb⟩ : ∃ d : Nat, DB = (d : Int) := ⟨b.den / H, by rw [← hDB, Int.natCast_ediv]⟩
 have HDl : Hid ((mag DB.natAbs).length ≤ 1000) := by show _ ≤ _; rw [← hDB]; exact Nat.le_trans (idiv_len HHb.out) hb.2
 have HEnd : Hid ((a + b).num = NH ∧ ((a + b).den : Int) = RA * (db : Int)) := by
  have hp := radd_parts a b n (by rw [← hn, hG, Int.natCast_ediv, Int.natCast_ediv, hRA, hRB])
  rw [hG, hH, hNH] at hp
  refine ⟨hp.1, ?_⟩
  rw [hp.2, Int.natCast_mul, Int.natCast_ediv, Int.natCast_ediv, hRA, hDB, hdb]
 have HLab : Hid ((mag a.num.natAbs).length ≤ 1000 ∧ (mag b.num.natAbs).length ≤ 1000) := ⟨ha.1, hb.1⟩
 have HLn : Hid ((mag (a.num * RB).natAbs).length ≤ 3000 ∧ (mag (b.num * RA).natAbs).length ≤ 3000 ∧ (mag n.natAbs).length ≤ 7000) := by
  have h1 := add_len (a.num * RB) (b.num * RA)
  have h2 := mul_len a.num RB
  have h3 := mul_len b.num RA
  have h4 := HL.out
  have h5 := ha.1
  have h6 := hb.1
  rw [hn] at h1
  refine ⟨?_, ?_, ?_⟩ <;> omega
 have KW : Hid (∀ w' : World, Below W.heap.size W w' → w'.cell? ⟨w.heap.size, 0, none⟩ = some (.bool na) ∧ w'.cell? ⟨w.heap.size, 1, none⟩ = some (.slice ao la ca) ∧ w'.cell? ⟨w.heap.size, 2, none⟩ = some (.slice po lp cp) ∧ w'.cell? ⟨w.heap.size + 1, 0, none⟩ = some (.bool nb) ∧ w'.cell? ⟨w.heap.size + 1, 1, none⟩ = some (.slice bo lb cb) ∧ w'.cell? ⟨w.heap.size + 1, 2, none⟩ = some (.slice qo lq cq)) := fun w' h => ⟨(h.cell (p := ⟨w.heap.size, 0, none⟩) (by show w.heap.size < _; omega)).trans hT.a.1, (h.cell (p := ⟨w.heap.size, 1, none⟩) (by show w.heap.size < _; omega)).trans hT.a.2.1, (h.cell (p := ⟨w.heap.size, 2, none⟩) (by show w.heap.size < _; omega)).trans hT.a.2.2, (h.cell (p := ⟨w.heap.size + 1, 0, none⟩) (by show w.heap.size + 1 < _; omega)).trans hT.b.1, (h.cell (p := ⟨w.heap.size + 1, 1, none⟩) (by show w.heap.size + 1 < _; omega)).trans hT.b.2.1, (h.cell (p := ⟨w.heap.size + 1, 2, none⟩) (by show w.heap.size + 1 < _; omega)).trans hT.b.2.2⟩
 have HC1 : Hid (Calls Tryz.prog 110 #[.slice po lp cp, .slice qo lq cq] W fun e w' => SomeRow W w' e G) := hG ▸ common_any po qo lp cp lq cq a.den b.den W HX.out.1.den HX.out.2.1.den b.den_pos (by omega) (by omega) HX.out.2.2
 have HE : Hid ((a.den : Int) / (G : Int) = RA ∧ (b.den : Int) / (G : Int) = RB ∧ a.num * RB + b.num * RA = n ∧ n.natAbs.gcd G = H ∧ n / (H : Int) = NH ∧ (b.den : Int) / (H : Int) = DB ∧ DB = (db : Int)) := ⟨hRA, hRB, hn, hH, hNH, hDB, hdb⟩
 have HF : Hid (Fresh3 W (w.heap.size + 1 + 1) ∧ Below w.heap.size w W) := ⟨hT.r, hT.below⟩
 have hfld := run_mag
 clear hx hy ha hb hT0 hG hRA hRB hn hH hNH hDB hdb
 go_enter Tryz.func92, Tryz.ntmps92
 go_upto_region 2 with (go_at_call 110; rw [← hT.eq]; refine HC1.out.mono ?_; rintro e U ⟨go, lg, cg, rfl, hg, hbU⟩)
 have HU : Hid (RatAt U na ao la ca po lp cp a ∧ RatAt U nb bo lb cb qo lq cq b ∧ TabAt 0 Lib.deBruijn64tab U ∧ RowAt U .u64 go lg cg (mag G) ∧ Below W.heap.size W U) := ⟨HX.out.1.later hbU, HX.out.2.1.later hbU, tab_later HX.out.2.2 hbU, hg, hbU⟩
 have hlg : lg ≤ 1000 := by rw [hg.hlen]; exact hGl.out
 have hsU := hbU.size
 have KU : Hid (∀ w' : World, Below U.heap.size U w' → (Below U.heap.size U w' ∧ w'.cell? ⟨w.heap.size, 0, none⟩ = some (.bool na) ∧ w'.cell? ⟨w.heap.size, 1, none⟩ = some (.slice ao la ca) ∧ w'.cell? ⟨w.heap.size, 2, none⟩ = some (.slice po lp cp) ∧ w'.cell? ⟨w.heap.size + 1, 0, none⟩ = some (.bool nb) ∧ w'.cell? ⟨w.heap.size + 1, 1, none⟩ = some (.slice bo lb cb) ∧ w'.cell? ⟨w.heap.size + 1, 2, none⟩ = some (.slice qo lq cq))) := fun w' h => ⟨h, KW.out w' (bnext hbU h)⟩
 clear hg hbU HC1 HX hT KW
 go_cut [6, 7] (fun s6 s7 wx => ∃ r6 r7, s6 = .pointer (some ⟨r6, 0, none⟩) ∧ s7 = .pointer (some ⟨r7, 0, none⟩) ∧ TwoV U wx r6 r7 RA RB)
 case first => as_aux_lemma =>
  have hzU : U.heap.size ≤ U.drew.heap.size := Nat.le_refl _
  have S0 : Step8 0 := ⟨trivial⟩
  go_region_held3 (fun w' => (Below U.heap.size U w' ∧ w'.cell? ⟨w.heap.size, 0, none⟩ = some (.bool na) ∧ w'.cell? ⟨w.heap.size, 1, none⟩ = some (.slice ao la ca) ∧ w'.cell? ⟨w.heap.size, 2, none⟩ = some (.slice po lp cp) ∧ w'.cell? ⟨w.heap.size + 1, 0, none⟩ = some (.bool nb) ∧ w'.cell? ⟨w.heap.size + 1, 1, none⟩ = some (.slice bo lb cb) ∧ w'.cell? ⟨w.heap.size + 1, 2, none⟩ = some (.slice qo lq cq)))
   (with_reducible (first | exact KU.out _ (Below.refl _ _).drew | exact KU.out _ (by assumption) | (refine KU.out _ ?_; (repeat (first | refine below_alloc ?_ (Nat.le_refl _) | refine Below.drew ?_ | refine below_set ?_ (by omega))); (first | exact hbF2 | exact hbF1 | exact Below.refl _ _))))
   (first
    | (have _t := S0; go_at_call 122; refine with_held (S := fun w9 => Below U.heap.size U w9) (by show Below _ _ _; with_reducible ((repeat (first | refine below_alloc ?_ (Nat.le_refl _) | refine Below.drew ?_ | refine below_set ?_ (by omega))); (first | exact hbF2 | exact hbF1 | exact Below.refl _ _))) (fun hS => ?_); (first | (with_reducible refine with_held (S := fun w9 => Fresh w9 U.heap.size ∧ Fresh w9 (U.heap.size + 1)) ⟨(Fresh.drew' (Fresh.alloc' (Fresh.new U))), (Fresh.drew' (Fresh.new1 U))⟩ (fun FAB => ?_); have FA := FAB.1; have FB := FAB.2; clear FAB; have hAB : U.heap.size ≠ U.heap.size + 1 := (by omega); have hBA := Ne.symm hAB) | (with_reducible refine with_held (S := fun w9 => Fresh w9 U.heap.size) (Fresh.drew' (Fresh.new U)) (fun FA => ?_)) | skip); refine (over_num (row_int HU.out.1.den) HU.out.2.2.2.1 (by omega) (by omega) hG0 HGa.out HE.out.1 hS).mono ?_; rintro e f1 ⟨n1, o1, l1, c1, rfl, hi, hb⟩; have H1 : Hid (IntAt f1 n1 o1 l1 c1 RA) := hi; clear hi; have hbF1 : Below U.heap.size U f1 := bnext hS hb; have hzF1 := hbF1.size; (try replace FA := Fresh.next FA hb); (try replace FB := Fresh.next FB hb); clear hS hb S0; have S1 : Step8 1 := ⟨trivial⟩)
    | (have _t := S1; go_at_call 122; refine with_held (S := fun w9 => Below U.heap.size U w9) (by show Below _ _ _; with_reducible ((repeat (first | refine below_alloc ?_ (Nat.le_refl _) | refine Below.drew ?_ | refine below_set ?_ (by omega))); (first | exact hbF2 | exact hbF1 | exact Below.refl _ _))) (fun hS => ?_); refine with_held (S := fun w9 => Below f1.heap.size f1 w9) (by show Below _ _ _; with_reducible ((repeat (refine below_alloc ?_ (Nat.le_refl _))); exact Below.refl _ _)) (fun hS2 => ?_); (first | (with_reducible refine with_held (S := fun w9 => Fresh w9 f1.heap.size ∧ Fresh w9 (f1.heap.size + 1)) ⟨(Fresh.alloc' (Fresh.new f1)), (Fresh.new1 f1)⟩ (fun FAB => ?_); have FA := FAB.1; have FB := FAB.2; clear FAB; have hAB : f1.heap.size ≠ f1.heap.size + 1 := (by omega); have hBA := Ne.symm hAB) | (have hAB := Nat.ne_of_lt (cell_lt FA.2.1); dsimp only at hAB; have hBA := Ne.symm hAB; with_reducible refine with_held (S := fun w9 => Fresh w9 f1.heap.size ∧ Fresh w9 _) ⟨Fresh.new f1, Fresh.alloc' FA⟩ (fun FAB => ?_); have FB := FAB.1; replace FA := FAB.2; clear FAB) | (with_reducible refine with_held (S := fun w9 => Fresh w9 f1.heap.size) (Fresh.new f1) (fun FA => ?_)) | skip); refine (over_num (row_int HU.out.2.1.den) HU.out.2.2.2.1 (by omega) (by omega) hG0 HGb.out HE.out.2.1 hS).mono ?_; rintro e f2 ⟨n2, o2, l2, c2, rfl, hi, hb⟩; have H2 : Hid (IntAt f2 n1 o1 l1 c1 RA ∧ IntAt f2 n2 o2 l2 c2 RB) := ⟨H1.out.later (bnext hS2 hb), hi⟩; clear hi; have hbF2 : Below U.heap.size U f2 := bnext hS hb; have hzF2 := hbF2.size; (try replace FA := Fresh.next FA hb); (try replace FB := Fresh.next FB hb); (try (have hltA := cell_lt FA.2.1; dsimp only at hltA; have hneA := Nat.ne_of_lt hltA; have hneA2 := Ne.symm hneA; obtain ⟨a5, a3, a4⟩ := FA)); (try (have hltB := cell_lt FB.2.1; dsimp only at hltB; have hneB := Nat.ne_of_lt hltB; have hneB2 := Ne.symm hneB; obtain ⟨b5, b3, b4⟩ := FB)); clear hS hb S1; clear hS2; skip))
  all_goals go_wp2
  all_goals go_meet
  all_goals refine ⟨_, _, rfl, rfl, ?_⟩
  all_goals (first
   | (with_reducible exact tv_a H2 hbF2)
   | (with_reducible exact tv_b H2 hbF2)
   | ((with_reducible refine tv_c H2 hbF2 ?_ ?_) <;> (first | (with_reducible exact fresh_mk a5 a3 a4) | (with_reducible exact fresh_mk b5 b3 b4) | omega))
   | ((with_reducible refine tv_d H2 hbF2 ?_ ?_) <;> (first | (with_reducible exact fresh_mk a5 a3 a4) | (with_reducible exact fresh_mk b5 b3 b4) | omega))
   | ((with_reducible refine tv_e H2 hbF2 ?_ ?_ ?_ ?_ ?_) <;> (first | (with_reducible exact fresh_mk a5 a3 a4) | (with_reducible exact fresh_mk b5 b3 b4) | omega)))
 case rest => as_aux_lemma =>
  obtain ⟨r6, r7, rfl, rfl, n1, o1, l1, c1, n2, o2, l2, c2, x1, x2, ⟨⟨hr6, hr7⟩, hr6U, hr7U⟩, hi1, hi2, hbV⟩ := hcut
  obtain ⟨Y, hY⟩ : ∃ Z0, Z0 = wc := ⟨_, rfl⟩
  subst hY
  have hsY := hbV.size
  have hr6W : w.heap.size + 1 + 1 < r6 := by omega
  have hl1 : l1 ≤ 1000 := by rw [hi1.row.hlen]; exact HL.out.1
  have hl2 : l2 ≤ 1000 := by rw [hi2.row.hlen]; exact HL.out.2
  have HY : Hid (RatAt Y na ao la ca po lp cp a ∧ RatAt Y nb bo lb cb qo lq cq b ∧ TabAt 0 Lib.deBruijn64tab Y ∧ RowAt Y .u64 go lg cg (mag G) ∧ Below W.heap.size W Y ∧ IntAt Y n1 o1 l1 c1 RA ∧ IntAt Y n2 o2 l2 c2 RB) := ⟨HU.out.1.later hbV, HU.out.2.1.later hbV, tab_later HU.out.2.2.1 hbV, HU.out.2.2.2.1.later hbV, bnext HU.out.2.2.2.2 hbV, hi1, hi2⟩
  have KY : Hid (∀ w' : World, Below Y.heap.size Y w' → (Below Y.heap.size Y w' ∧ w'.cell? ⟨w.heap.size, 0, none⟩ = some (.bool na) ∧ w'.cell? ⟨w.heap.size, 1, none⟩ = some (.slice ao la ca) ∧ w'.cell? ⟨w.heap.size, 2, none⟩ = some (.slice po lp cp) ∧ w'.cell? ⟨w.heap.size + 1, 0, none⟩ = some (.bool nb) ∧ w'.cell? ⟨w.heap.size + 1, 1, none⟩ = some (.slice bo lb cb) ∧ w'.cell? ⟨w.heap.size + 1, 2, none⟩ = some (.slice qo lq cq) ∧ w'.cell? ⟨r6, 0, none⟩ = some (.bool n1) ∧ w'.cell? ⟨r6, 1, none⟩ = some (.slice o1 l1 c1) ∧ w'.cell? ⟨r7, 0, none⟩ = some (.bool n2) ∧ w'.cell? ⟨r7, 1, none⟩ = some (.slice o2 l2 c2))) := fun w' h => by
   obtain ⟨h0, h1, h2, h3, h4, h5, h6⟩ := KU.out w' (bnext hbV h)
   obtain ⟨y1, y2⟩ := x1.later h hr6
   obtain ⟨y3, y4⟩ := x2.later h hr7
   exact ⟨h, h1, h2, h3, h4, h5, h6, y1, y2, y3, y4⟩
  clear hi1 hi2 hbV x1 x2 KU HU
  go_upto_region 3 with fail
  go_cut [8] (fun s8 wx => ∃ r8, s8 = .pointer (some ⟨r8, 0, none⟩) ∧ OneV Y wx r8 n)
  case first => as_aux_lemma =>
   have hzU : Y.heap.size ≤ Y.drew.heap.size := Nat.le_refl _
   have S0 : Step8 0 := ⟨trivial⟩
   go_region_held3 (fun w' => (Below Y.heap.size Y w' ∧ w'.cell? ⟨w.heap.size, 0, none⟩ = some (.bool na) ∧ w'.cell? ⟨w.heap.size, 1, none⟩ = some (.slice ao la ca) ∧ w'.cell? ⟨w.heap.size, 2, none⟩ = some (.slice po lp cp) ∧ w'.cell? ⟨w.heap.size + 1, 0, none⟩ = some (.bool nb) ∧ w'.cell? ⟨w.heap.size + 1, 1, none⟩ = some (.slice bo lb cb) ∧ w'.cell? ⟨w.heap.size + 1, 2, none⟩ = some (.slice qo lq cq) ∧ w'.cell? ⟨r6, 0, none⟩ = some (.bool n1) ∧ w'.cell? ⟨r6, 1, none⟩ = some (.slice o1 l1 c1) ∧ w'.cell? ⟨r7, 0, none⟩ = some (.bool n2) ∧ w'.cell? ⟨r7, 1, none⟩ = some (.slice o2 l2 c2)))
    (with_reducible (first | exact KY.out _ (Below.refl _ _).drew | exact KY.out _ (by assumption) | (refine KY.out _ ?_; (repeat (first | refine below_alloc ?_ (Nat.le_refl _) | refine Below.drew ?_ | refine below_set ?_ (by omega))); (first | exact hbF3 | exact hbF2 | exact hbF1 | exact Below.refl _ _))))
    (first
     | (have _t := S0; go_at_call 121; refine with_held (S := fun w9 => Below Y.heap.size Y w9) (by show Below _ _ _; with_reducible ((repeat (first | refine below_alloc ?_ (Nat.le_refl _) | refine Below.drew ?_ | refine below_set ?_ (by omega))); (first | exact hbF3 | exact hbF2 | exact hbF1 | exact Below.refl _ _))) (fun hS => ?_); (first | (with_reducible refine with_held (S := fun w9 => Fresh w9 Y.heap.size) (Fresh.drew' (Fresh.new Y)) (fun FA => ?_)) | skip); refine (rtimes2_any na n2 ao o2 la ca l2 c2 a.num RB _ (HY.out.1.num.later hS) (HY.out.2.2.2.2.2.2.later hS) (by omega) (by omega)).mono ?_; rintro e f1 ⟨n3, o3, l3, c3, rfl, hs, ho3, hb⟩; have H1 : Hid (IntAt f1 n3 o3 l3 c3 (a.num * RB)) := ho3.int hs; have hl3 : l3 ≤ 3000 := (by rw [ho3.row.hlen]; exact HLn.out.1); clear hs ho3; have hbF1 : Below Y.heap.size Y f1 := bnext hS hb; have hzF1 := hbF1.size; (try clear hltA); (try (have hltA := cell_lt FA.2.1; dsimp only at hltA; replace FA := Fresh.next FA hb)); clear hS hb S0; have S1 : Step8 1 := ⟨trivial⟩)
     | (have _t := S1; go_at_call 121; refine with_held (S := fun w9 => Below Y.heap.size Y w9) (by show Below _ _ _; with_reducible ((repeat (first | refine below_alloc ?_ (Nat.le_refl _) | refine Below.drew ?_ | refine below_set ?_ (by omega))); (first | exact hbF3 | exact hbF2 | exact hbF1 | exact Below.refl _ _))) (fun hS => ?_); refine with_held (S := fun w9 => Below f1.heap.size f1 w9) (by show Below _ _ _; with_reducible ((repeat (refine below_alloc ?_ (Nat.le_refl _))); exact Below.refl _ _)) (fun hS2 => ?_); (first | (with_reducible refine with_held (S := fun w9 => Fresh w9 f1.heap.size) (Fresh.new f1) (fun FA => ?_)) | skip); refine (rtimes2_any nb n1 bo o1 lb cb l1 c1 b.num RA _ (HY.out.2.1.num.later hS) (HY.out.2.2.2.2.2.1.later hS) (by omega) (by omega)).mono ?_; rintro e f2 ⟨n4, o4, l4, c4, rfl, hs, ho4, hb⟩; have H2 : Hid (IntAt f2 n3 o3 l3 c3 (a.num * RB) ∧ IntAt f2 n4 o4 l4 c4 (b.num * RA)) := ⟨H1.out.later (bnext hS2 hb), ho4.int hs⟩; have hl4 : l4 ≤ 3000 := (by rw [ho4.row.hlen]; exact HLn.out.2.1); clear hs ho4; have hbF2 : Below Y.heap.size Y f2 := bnext hS hb; have hzF2 := hbF2.size; (try clear hltA); (try (have hltA := cell_lt FA.2.1; dsimp only at hltA; replace FA := Fresh.next FA hb)); clear hS hb S1; clear hS2; have S2 : Step8 2 := ⟨trivial⟩)
     | (have _t := S2; go_at_call 123; refine with_held (S := fun w9 => Below Y.heap.size Y w9) (by show Below _ _ _; with_reducible ((repeat (first | refine below_alloc ?_ (Nat.le_refl _) | refine Below.drew ?_ | refine below_set ?_ (by omega))); (first | exact hbF3 | exact hbF2 | exact hbF1 | exact Below.refl _ _))) (fun hS => ?_); refine with_held (S := fun w9 => Below f2.heap.size f2 w9) (by show Below _ _ _; with_reducible ((repeat (refine below_alloc ?_ (Nat.le_refl _))); exact Below.refl _ _)) (fun hS2 => ?_); (first | (with_reducible refine with_held (S := fun w9 => Fresh w9 f2.heap.size) (Fresh.new f2) (fun FA => ?_)) | skip); refine (rplus2_any n3 n4 o3 o4 l3 c3 l4 c4 _ _ _ (H2.out.1.later hS2) (H2.out.2.later hS2) (by omega) (by omega)).mono ?_; rintro e f3 ⟨n5, o5, l5, c5, rfl, hs, ho5, hb⟩; rw [HE.out.2.2.1] at hs ho5; have HO : Hid (n5 = sgB n ∧ Own _ f3 .u64 68 o5 l5 c5 (mag n.natAbs) ∧ Y.heap.size ≤ _) := ⟨hs, ho5, hS.size⟩; clear hs ho5; have hbF3 : Below Y.heap.size Y f3 := bnext hS hb; have hzF3 := hbF3.size; (try clear hltA); (try (have hltA := cell_lt FA.2.1; dsimp only at hltA; replace FA := Fresh.next FA hb)); (try (obtain ⟨a5, a3, a4⟩ := FA)); clear hS hb S2; clear hS2; skip))
   all_goals go_wp2
   all_goals go_meet
   all_goals refine ⟨_, rfl, ?_⟩
   all_goals (first
    | (with_reducible exact ov_a HO hbF3)
    | ((with_reducible refine ov_b HO hbF3 ?_ ?_ ?_) <;> (first | (with_reducible exact fresh_mk a5 a3 a4) | (with_reducible exact hltA) | omega)))
  case rest => as_aux_lemma =>
   obtain ⟨r8, rfl, n8, o8, l8, c8, hbx8, ⟨hr8, hr8Y⟩, hs8, ho8, hbV⟩ := hcut
   obtain ⟨Z, hZ⟩ : ∃ Z0, Z0 = wc := ⟨_, rfl⟩
   subst hZ
   have hsZ := hbV.size
   have hl8 : l8 ≤ 7000 := by rw [ho8.row.hlen]; exact HLn.out.2.2
   obtain ⟨z0, z1⟩ := hbx8
   have hcon : Calls Tryz.prog 110 #[.slice o8 l8 c8, .slice go lg cg] Z fun e w' => SomeRow Z w' e H := by
    have := common_any o8 go l8 c8 lg cg n.natAbs G Z ho8.row (HY.out.2.2.2.1.later hbV) hG0 (by omega) (by omega) (tab_later HY.out.2.2.1 hbV)
    rw [HE.out.2.2.2.1] at this; exact this
   have HZ : Hid (IntAt Z n8 o8 l8 c8 n ∧ Own Y.heap.size Z .u64 68 o8 l8 c8 (mag n.natAbs) ∧ Below Y.heap.size Y Z ∧ RatAt Z nb bo lb cb qo lq cq b ∧ IntAt Z n1 o1 l1 c1 RA) := ⟨ho8.int hs8, ho8, hbV, HY.out.2.1.later hbV, HY.out.2.2.2.2.2.1.later hbV⟩
   have HB8 : Hid (Z.cell? ⟨r8, 0, none⟩ = some (.bool n8) ∧ Z.cell? ⟨r8, 1, none⟩ = some (.slice o8 l8 c8)) := ⟨z0, z1⟩
   clear hs8 ho8 hbV
   go_upto_region 5 with (go_at_call 110; refine hcon.mono ?_; rintro e Q ⟨ho, lh, ch, rfl, hh, hbQ⟩)
   have hsQ := hbQ.size
   have hlh : lh ≤ 1000 := by rw [hh.hlen]; exact HHl.out
   have HQ : Hid (IntAt Q n8 o8 l8 c8 n ∧ Own Y.heap.size Q .u64 68 o8 l8 c8 (mag n.natAbs) ∧ Below Y.heap.size Y Q ∧ RatAt Q nb bo lb cb qo lq cq b ∧ IntAt Q n1 o1 l1 c1 RA ∧ RowAt Q .u64 ho lh ch (mag H) ∧ Fresh3 Q (w.heap.size + 1 + 1) ∧ Below w.heap.size w Q) := ⟨HZ.out.1.later hbQ, HZ.out.2.1.later hbQ, bnext HZ.out.2.2.1 hbQ, HZ.out.2.2.2.1.later hbQ, HZ.out.2.2.2.2.later hbQ, hh, HF.out.1.later (bnext HY.out.2.2.2.2.1 (bnext HZ.out.2.2.1 hbQ)) (by omega), bnext HF.out.2 (bnext HY.out.2.2.2.2.1 (bnext HZ.out.2.2.1 hbQ))⟩
   have KQ : Hid (∀ w' : World, Below Q.heap.size Q w' → (w'.cell? ⟨w.heap.size, 0, none⟩ = some (.bool na) ∧ w'.cell? ⟨w.heap.size, 1, none⟩ = some (.slice ao la ca) ∧ w'.cell? ⟨w.heap.size, 2, none⟩ = some (.slice po lp cp) ∧ w'.cell? ⟨w.heap.size + 1, 0, none⟩ = some (.bool nb) ∧ w'.cell? ⟨w.heap.size + 1, 1, none⟩ = some (.slice bo lb cb) ∧ w'.cell? ⟨w.heap.size + 1, 2, none⟩ = some (.slice qo lq cq) ∧ w'.cell? ⟨r6, 0, none⟩ = some (.bool n1) ∧ w'.cell? ⟨r6, 1, none⟩ = some (.slice o1 l1 c1) ∧ w'.cell? ⟨r8, 0, none⟩ = some (.bool n8) ∧ w'.cell? ⟨r8, 1, none⟩ = some (.slice o8 l8 c8))) := fun w' h => by
    obtain ⟨h0, h1, h2, h3, h4, h5, h6, y1, y2, y3, y4⟩ := KY.out w' (bnext (bnext HZ.out.2.2.1 hbQ) h)
    exact ⟨h1, h2, h3, h4, h5, h6, y1, y2, ((bnext hbQ h).cell (p := ⟨r8, 0, none⟩) hr8).trans HB8.out.1, ((bnext hbQ h).cell (p := ⟨r8, 1, none⟩) hr8).trans HB8.out.2⟩
   have KS : Hid (∀ X : World, Below Q.heap.size Q X → ∀ x y z, (fun w' : World => w'.cell? ⟨w.heap.size, 0, none⟩ = some (.bool na) ∧ w'.cell? ⟨w.heap.size, 1, none⟩ = some (.slice ao la ca) ∧ w'.cell? ⟨w.heap.size, 2, none⟩ = some (.slice po lp cp) ∧ w'.cell? ⟨w.heap.size + 1, 0, none⟩ = some (.bool nb) ∧ w'.cell? ⟨w.heap.size + 1, 1, none⟩ = some (.slice bo lb cb) ∧ w'.cell? ⟨w.heap.size + 1, 2, none⟩ = some (.slice qo lq cq) ∧ w'.cell? ⟨r6, 0, none⟩ = some (.bool n1) ∧ w'.cell? ⟨r6, 1, none⟩ = some (.slice o1 l1 c1) ∧ w'.cell? ⟨r8, 0, none⟩ = some (.bool n8) ∧ w'.cell? ⟨r8, 1, none⟩ = some (.slice o8 l8 c8)) (((X.setCell ⟨w.heap.size + 1 + 1, 0, none⟩ x).setCell ⟨w.heap.size + 1 + 1, 1, none⟩ y).setCell ⟨w.heap.size + 1 + 1, 2, none⟩ z)) := fun X h x y z => by
    have hr6Y : w.heap.size + 1 + 1 < r6 := hr6W
    have hr8W : w.heap.size + 1 + 1 < r8 := by omega
    obtain ⟨h1, h2, h3, h4, h5, h6, y1, y2, y3, y4⟩ := KQ.out X h
    have off : ∀ (b j : Nat), b ≠ w.heap.size + 1 + 1 → (((X.setCell ⟨w.heap.size + 1 + 1, 0, none⟩ x).setCell ⟨w.heap.size + 1 + 1, 1, none⟩ y).setCell ⟨w.heap.size + 1 + 1, 2, none⟩ z).cell? ⟨b, j, none⟩ = X.cell? ⟨b, j, none⟩ := fun b j hn => by rw [cell_off hn, cell_off hn, cell_off hn]
    dsimp only
    rw [off _ _ (by omega), off _ _ (by omega), off _ _ (by omega), off _ _ (by omega), off _ _ (by omega), off _ _ (by omega), off _ _ (by omega), off _ _ (by omega), off _ _ (by omega), off _ _ (by omega)]
    exact ⟨h1, h2, h3, h4, h5, h6, y1, y2, y3, y4⟩
   obtain ⟨g5, g2, g3, g4⟩ := HQ.out.2.2.2.2.2.2.1
   have hrQ : w.heap.size + 1 + 1 < Q.heap.size := by have := HY.out.2.2.2.2.1.size; omega
   clear hh hbQ KY HZ HY HB8 z0 z1 hcon
   have hzU : Q.heap.size ≤ Q.drew.heap.size := Nat.le_refl _
   have S0 : Step8 0 := ⟨trivial⟩
   go_region_held3 (fun w' => (w'.cell? ⟨w.heap.size, 0, none⟩ = some (.bool na) ∧ w'.cell? ⟨w.heap.size, 1, none⟩ = some (.slice ao la ca) ∧ w'.cell? ⟨w.heap.size, 2, none⟩ = some (.slice po lp cp) ∧ w'.cell? ⟨w.heap.size + 1, 0, none⟩ = some (.bool nb) ∧ w'.cell? ⟨w.heap.size + 1, 1, none⟩ = some (.slice bo lb cb) ∧ w'.cell? ⟨w.heap.size + 1, 2, none⟩ = some (.slice qo lq cq) ∧ w'.cell? ⟨r6, 0, none⟩ = some (.bool n1) ∧ w'.cell? ⟨r6, 1, none⟩ = some (.slice o1 l1 c1) ∧ w'.cell? ⟨r8, 0, none⟩ = some (.bool n8) ∧ w'.cell? ⟨r8, 1, none⟩ = some (.slice o8 l8 c8)))
    (with_reducible (first | exact KS.out _ hbF3 _ _ _ | exact KQ.out _ (Below.refl _ _).drew | exact KQ.out _ (by assumption) | (refine KQ.out _ ?_; (repeat (first | refine below_alloc ?_ (Nat.le_refl _) | refine Below.drew ?_ | refine below_set ?_ (by omega))); (first | exact hbF3 | exact hbF2 | exact hbF1 | exact Below.refl _ _))))
    (first
     | (have _t := S0; go_at_call 122; refine with_held (S := fun w9 => Below Q.heap.size Q w9) (by show Below _ _ _; with_reducible ((repeat (first | refine below_alloc ?_ (Nat.le_refl _) | refine Below.drew ?_ | refine below_set ?_ (by omega))); (first | exact hbF3 | exact hbF2 | exact hbF1 | exact Below.refl _ _))) (fun hS => ?_); refine (over_own HQ.out.1 HQ.out.2.1 (by omega) HQ.out.2.2.2.2.2.1 (by omega) (by omega) hH0 HHn.out HE.out.2.2.2.2.1 hS).mono ?_; rintro e f1 ⟨n3, o3, l3, c3, rfl, hi, hb⟩; have H1 : Hid (n3 = sgB NH ∧ Own Y.heap.size f1 .u64 68 o3 l3 c3 (mag NH.natAbs)) := hi; clear hi; have hbF1 : Below Q.heap.size Q f1 := bnext hS hb; have hzF1 := hbF1.size; clear hS hb S0; have S1 : Step8 1 := ⟨trivial⟩)
     | (have _t := S1; go_at_call 122; refine with_held (S := fun w9 => Below Q.heap.size Q w9) (by show Below _ _ _; with_reducible ((repeat (first | refine below_alloc ?_ (Nat.le_refl _) | refine Below.drew ?_ | refine below_set ?_ (by omega))); (first | exact hbF3 | exact hbF2 | exact hbF1 | exact Below.refl _ _))) (fun hS => ?_); refine with_held (S := fun w9 => Below f1.heap.size f1 w9) (by show Below _ _ _; with_reducible ((repeat (refine below_alloc ?_ (Nat.le_refl _))); exact Below.refl _ _)) (fun hS2 => ?_); refine (over_num (row_int HQ.out.2.2.2.1.den) HQ.out.2.2.2.2.2.1 (by omega) (by omega) hH0 HHb.out HE.out.2.2.2.2.2.1 hS).mono ?_; rintro e f2 ⟨n4, o4, l4, c4, rfl, hi, hb⟩; have H2 : Hid ((n3 = sgB NH ∧ Own Y.heap.size f2 .u64 68 o3 l3 c3 (mag NH.natAbs)) ∧ RowAt f2 .u64 o4 l4 c4 (mag db)) := ⟨⟨H1.out.1, H1.out.2.later (bnext hS2 hb)⟩, (by have := hi.row; rw [HE.out.2.2.2.2.2.2, Int.natAbs_natCast] at this; exact this)⟩; have hl4 : l4 ≤ 1000 := (by rw [hi.row.hlen]; exact HDl.out); clear hi; have hbF2 : Below Q.heap.size Q f2 := bnext hS hb; have hzF2 := hbF2.size; clear hS hb S1; clear hS2; have S2 : Step8 2 := ⟨trivial⟩)
     | (have _t := S2; go_at_call 114; refine with_held (S := fun w9 => Below Q.heap.size Q w9) (by show Below _ _ _; with_reducible ((repeat (first | refine below_alloc ?_ (Nat.le_refl _) | refine Below.drew ?_ | refine below_set ?_ (by omega))); (first | exact hbF3 | exact hbF2 | exact hbF1 | exact Below.refl _ _))) (fun hS => ?_); refine with_held (S := fun w9 => Below f2.heap.size f2 w9) (by show Below _ _ _; with_reducible ((repeat (refine below_alloc ?_ (Nat.le_refl _))); exact Below.refl _ _)) (fun hS2 => ?_); refine (timesNat_any n1 o1 o4 l1 c1 l4 c4 RA db _ (HQ.out.2.2.2.2.1.later hS) (H2.out.2.later hS2) (by omega) (by omega)).mono ?_; rintro e f3 ⟨n5, o5, l5, c5, rfl, hs, ho5, hb⟩; have H3 : Hid ((n3 = sgB NH ∧ Own Y.heap.size f3 .u64 68 o3 l3 c3 (mag NH.natAbs)) ∧ Own Q.heap.size f3 .u64 68 o5 l5 c5 (mag (RA * (db : Int)).natAbs) ∧ Parted o3 o5 ∧ Below Q.heap.size Q f3) := ⟨⟨H2.out.1.1, H2.out.1.2.later (bnext hS2 hb)⟩, ho5.mono hS.size, Parted.made H2.out.1.2 ho5 hS2.size, bnext hS hb⟩; clear hs ho5; obtain ⟨k5, k2, k3, k4⟩ := HQ.out.2.2.2.2.2.2.1.later (bnext hS hb) hrQ; have hbF3 : Below Q.heap.size Q f3 := bnext hS hb; have hzF3 := hbF3.size; clear hS hb S2; clear hS2; skip))
   all_goals go_wp2
   have hO3 : Own Y.heap.size f3 .u64 68 o3 l3 c3 (mag (a + b).num.natAbs) := by rw [HEnd.out.1]; exact H3.out.1.2
   have hO5 : Own Q.heap.size f3 .u64 68 o5 l5 c5 (mag (a + b).den) := by rw [show (a + b).den = (RA * (db : Int)).natAbs by rw [← HEnd.out.2, Int.natAbs_natCast]]; exact H3.out.2.1
   have hsY2 := HQ.out.2.2.1.size
   exact bodyPost_ret (v := .agg #[.bool n3, .slice o3 l3 c3, .slice o5 l5 c5]) (by simp [results, Tryz.results92, go_sem, k2, k3, k4]) rfl
    ⟨_, _, _, _, _, _, _, rfl, by rw [HEnd.out.1]; exact H3.out.1.1, (hO3.store3 (by omega) _ _ _).mono (by omega), (hO5.store3 (by omega) _ _ _).mono (by omega), H3.out.2.2.1, below_store3 (bnext HQ.out.2.2.2.2.2.2.2 H3.out.2.2.2) (by omega) _ _ _⟩
theorem add_rat (na nb : Bool) (ao po bo qo : Option Addr) (la ca lp cp lb cb lq cq : Nat) (a b : Rat) (w : World) (hx : RatAt w na ao la ca po lp cp a) (hy : RatAt w nb bo lb cb qo lq cq b) (ha : Sz a 1000) (hb : Sz b 1000) (hT0 : TabAt 0 Lib.deBruijn64tab w) :
  Calls Tryz.prog 83 #[.agg #[.bool na, .slice ao la ca, .slice po lp cp], .agg #[.bool nb, .slice bo lb cb, .slice qo lq cq]] w fun e w' => NewRatErr w w' e (a + b) := by
 obtain ⟨W, hT⟩ := RTwo3.mk' w na nb ao po bo qo la ca lp cp lb cb lq cq
 have hsz := hT.size
 have HX : Hid (RatAt W na ao la ca po lp cp a ∧ RatAt W nb bo lb cb qo lq cq b ∧ TabAt 0 Lib.deBruijn64tab W) := ⟨hx.later hT.below, hy.later hT.below, tab_later hT0 hT.below⟩
 have hla : la ≤ 1000 := (hx.len ha).1
 have hlp : lp ≤ 1000 := (hx.len ha).2
 have hlb : lb ≤ 1000 := (hy.len hb).1
 have hlq : lq ≤ 1000 := (hy.len hb).2
 clear hx hy hT0
 go_enter Tryz.func83, Tryz.ntmps83
 go_wp2_with (first
  | (go_at_call 81; rw [← hT.eq]; refine (checkBoth_good na nb ao po bo qo la ca lp cp lb cb lq cq a b _ HX.out.1 HX.out.2.1 (by omega) (by omega) (by omega) (by omega) HX.out.2.2).mono ?_; rintro e w1 ⟨rfl, hb1⟩; obtain ⟨p0, p1, p2⟩ := hT.a.later hb1 (by omega); obtain ⟨q0, q1, q2⟩ := hT.b.later hb1 (by omega); obtain ⟨g5, g2, g3, g4⟩ := hT.r.later hb1 (by omega))
  | (go_at_call 92; refine (sum_rat na nb ao po bo qo la ca lp cp lb cb lq cq a b _ (HX.out.1.later hb1) (HX.out.2.1.later hb1) ha hb (tab_later HX.out.2.2 hb1)).mono ?_; rintro e w2 ⟨n2, o2, l2, c2, o3, l3, c3, rfl, hs2, ho2, ho3, hp2, hb2⟩; have HS : Hid (n2 = sgB (a + b).num) := hs2; clear hs2 g5 g2 g3 g4 p0 p1 p2 q0 q1 q2; obtain ⟨g5, g2, g3, g4⟩ := hT.r.later (bnext hb1 hb2) (by omega)))
 have hs1 := hb1.size
 exact bodyPost_ret (v := .tuple #[.agg #[.bool n2, .slice o2 l2 c2, .slice o3 l3 c3], .int .i64 0]) (by simp [results, Tryz.results83, go_sem, g2, g3, g4]) rfl
  ⟨_, _, _, _, _, _, _, rfl, HS.out, (ho2.store3 (by omega) _ _ _).mono (by omega), (ho3.store3 (by omega) _ _ _).mono (by omega), hp2, below_store3 (bnext hT.below (bnext hb1 hb2)) (by omega) _ _ _⟩
end Go.Proofs.YtbkaiifplahhpaaGreatDoor
