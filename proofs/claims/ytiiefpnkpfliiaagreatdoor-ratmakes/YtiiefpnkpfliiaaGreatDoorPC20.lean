/-
  A pack of walks and facts: HL, SO, SH.
-/
import Derived.Test.YtiiefpnkpfliiaaGreatDoorPC06
import Derived.Test.YtiiefpnkpfliiaaGreatDoorPC09
import Derived.Test.YtiiefpnkpfliiaaGreatDoorPC10
import Derived.Test.YtiiefpnkpfliiaaGreatDoorPC14
import Derived.Test.YtiiefpnkpfliiaaGreatDoorPC18
import Derived.Test.YtiiefpnkpfliiaaGreatDoorPC19
set_option maxRecDepth 100000
set_option maxHeartbeats 40000000
set_option linter.unusedVariables false
set_option linter.unusedSimpArgs false
namespace Go.Proofs.YtiiefpnkpfliiaaGreatDoor
open Go.RowKit Go.Shelf
theorem power_any (ao : Option Addr) (la ca n : Nat) (a : Nat) (w : World) (hx : RowAt w .u64 ao la ca (mag a)) (hn : n < 4294967296) (hl40 : la < 4000) (h40 : (mag (a ^ (n / 2))).length < 4000) :
  Calls Tryz.prog 139 #[.slice ao la ca, .int .i64 (n : Int)] w fun e w' => NewNat w w' e (a ^ n) := by
 obtain ⟨i0, hi, hz0, hz1, hz2⟩ := info_parts info64
 by_cases h0 : n = 0
 ·
  subst h0
  have hbk : Hid (Blk (w.alloc (.cells #[.int .u64 1] 59)) w.heap.size .u64 59 [1]) := Blk.new w .u64 59 [1]
  have HM : Hid (mag (a ^ 0) = [1]) := by show _ = _; rw [Nat.pow_zero]; exact mag_one (by decide) (by decide)
  go_enter Tryz.func139, Tryz.ntmps139
  go_wp2
  go_ret
  exact ⟨_, _, _, rfl, by rw [HM.out]; exact Own.whole hbk.out (Nat.le_refl _) rfl, (Below.refl _ _).alloc (Nat.le_refl _) _⟩
 ·
  have h0' : ((n : Int) == 0) = false := by simp; omega
  have hlen := fun w => len_any (n : Int) w (by omega) (by omega)
  simp only [Int.toNat_natCast] at hlen
  obtain ⟨b1, b2, b3⟩ := bitLen_bounds (y := n) (by omega) (by omega)
  have b4 : Lib.bitLen n ≤ 64 := Lib.bitLen_le n 64 (by omega) (by omega)
  obtain ⟨l, hl⟩ : ∃ l, Lib.bitLen n = l := ⟨_, rfl⟩
  simp only [hl] at hlen b1 b2 b3 b4
  have HX : Hid (RowAt w .u64 ao la ca (mag a)) := hx
  clear hx hl
  have HP : Hid (2 ^ (l - 1) ≤ n ∧ n < 2 ^ l ∧ 1 ≤ l) := ⟨b2, b3, by omega⟩
  clear b2 b3
  go_enter Tryz.func139, Tryz.ntmps139
  go_wp2_with (first
   | (go_at_call 100; refine (clone_any ao la ca (mag a) w HX.out (by omega)).mono ?_; rintro e w2 ⟨ao2, l2, c2, rfl, ho2, hb2⟩)
   | (go_at_call 153; refine (hlen w2).mono ?_; rintro e w3 ⟨rfl, hw3⟩; replace hw3 := hw3.symm; subst hw3))
  go_loopw [5, 6] (fun z i wr => ∃ b : Nat, i = .int .i64 ((b : Int) - 1) ∧ b < 64 ∧ 1 ≤ n / 2 ^ b ∧ PowAt w wr z a n b) (fun _ i _ => (intOf i + 1).toNat)
  case atStart =>
   exact ⟨l - 1, by go_num, by omega, (Nat.le_div_iff_mul_le (Nat.pow_pos (by decide))).2 (by have := HP.out.1; omega), ao2, l2, c2, rfl, by rw [show n / 2 ^ (l - 1) = 1 from pow_top HP.out.1 HP.out.2.1 HP.out.2.2, Nat.pow_one]; exact ho2, hb2⟩
  case round =>
   obtain ⟨b, rfl, hb64, hk, ao1, l1, c1, rfl, ho1, hbe1⟩ := hrel
   have HO : Hid (Own w.heap.size wr .u64 59 ao1 l1 c1 (mag (a ^ (n / 2 ^ b))) ∧ Below w.heap.size w wr) := ⟨ho1, hbe1⟩
   clear ho1 hbe1
   rcases b with _ | b
   ·
    go_wp2
    go_ret
    refine ⟨ao1, l1, c1, rfl, ?_, HO.out.2⟩
    have := HO.out.1
    rw [Nat.pow_zero, Nat.div_one] at this; exact this
   ·
    have hcast : (n : Int) / 2 ^ b = ((n / 2 ^ b : Nat) : Int) := by rw [Int.natCast_ediv, Int.natCast_pow]; rfl
    have hand : bits BinOp.and IntKind.i64 ((n : Int) / 2 ^ b) 1 = ((n / 2 ^ b % 2 : Nat) : Int) := by
     rw [hcast]; exact Go.Proofs.and_one _ (Nat.lt_of_le_of_lt (Nat.div_le_self _ _) (by omega))
    have hk' : Hid (1 ≤ n / 2 ^ b) := by
     show _ ≤ _
     rw [Nat.pow_succ, ← Nat.div_div_eq_div_mul] at hk; omega
    have hph := pow_half a n b
    have hl1 : l1 < 4000 := by
     have h1 : n / 2 ^ (b + 1) ≤ n / 2 := by
      rw [Nat.pow_succ, Nat.mul_comm, ← Nat.div_div_eq_div_mul]; exact Nat.div_le_self _ _
     rw [HO.out.1.row.hlen]; exact Nat.lt_of_le_of_lt (pow_len hk h1) h40
    have HL : Hid ((mag (a ^ (n / 2 ^ (b + 1)) * a ^ (n / 2 ^ (b + 1)))).length < 8000) := by
     show _ < _
     have h1 := mag_len_mul (a ^ (n / 2 ^ (b + 1))) (a ^ (n / 2 ^ (b + 1)))
     have h2 := HO.out.1.row.hlen
     omega
    clear hcast
    by_cases hbit : n / 2 ^ b % 2 = 1
    ·
     rw [hbit] at hand hph
     rw [Nat.pow_one] at hph
     have HPH : Hid (a ^ (n / 2 ^ b) = a ^ (n / 2 ^ (b + 1)) * a ^ (n / 2 ^ (b + 1)) * a) := hph
     clear hph hk hbit
     go_wp2_with (first
      | (go_at_call 149; have _t := ho4; refine (times_any ao4 ao l4 c4 la ca _ _ w4 ho4.row ((HX.out.later HO.out.2).later hb4) (by omega) (by omega)).mono ?_; rintro e w5 ⟨ao5, l5, c5, rfl, ho5, hb5⟩)
      | (go_at_call 149; refine (times_any ao1 ao1 l1 c1 l1 c1 _ _ wr HO.out.1.row HO.out.1.row (by omega) (by omega)).mono ?_; rintro e w4 ⟨ao4, l4, c4, rfl, ho4, hb4⟩; have hl4 : l4 < 8000 := (by rw [ho4.row.hlen]; exact HL.out)))
     go_roundw
     case rel => exact ⟨b, rfl, by omega, hk'.out, ao5, l5, c5, rfl, by rw [HPH.out]; exact (ho5.mono (Nat.le_trans HO.out.2.size hb4.size)), (HO.out.2.trans (below_less hb4 HO.out.2.size)).trans (below_less hb5 (Nat.le_trans HO.out.2.size hb4.size))⟩
     case measure => simp [intOf]
    ·
     have hbit0 : n / 2 ^ b % 2 = 0 := by omega
     rw [hbit0] at hand hph
     rw [Nat.pow_zero, Nat.mul_one] at hph
     have HPH : Hid (a ^ (n / 2 ^ b) = a ^ (n / 2 ^ (b + 1)) * a ^ (n / 2 ^ (b + 1))) := hph
     clear hph hk hbit hbit0
     go_wp2_with (first
      | (go_at_call 149; refine (times_any ao1 ao1 l1 c1 l1 c1 _ _ wr HO.out.1.row HO.out.1.row (by omega) (by omega)).mono ?_; rintro e w4 ⟨ao4, l4, c4, rfl, ho4, hb4⟩))
     go_roundw
     case rel => exact ⟨b, rfl, by omega, hk'.out, ao4, l4, c4, rfl, by rw [HPH.out]; exact (ho4.mono HO.out.2.size), HO.out.2.trans (below_less hb4 HO.out.2.size)⟩
     case measure => simp [intOf]
theorem bpow_any (neg : Bool) (ao : Option Addr) (len cap n : Nat) (v : Int) (w : World) (hx : IntAt w neg ao len cap v) (hl : len < 4000) (hn : n ≤ 64) (h40 : (mag (v.natAbs ^ (n / 2))).length < 4000) (h80 : (mag (v.natAbs ^ n)).length < 8000) :
  Calls Tryz.prog 120 #[.agg #[.bool neg, .slice ao len cap], .int .i64 (n : Int)] w fun e w' => NewIntErr w w' e (v ^ n) := by
 obtain ⟨W, hT⟩ := One2.mk' w neg ao len cap
 have hsz := hT.size
 have hR := hx.later hT.below
 have hM : Hid ((if mayB neg (mag v.natAbs) then 0 else 10 : Int) = 0) := hx.may
 have HE : Hid (v ^ n = sgn (neg && decide (n % 2 = 1)) (v.natAbs ^ n)) := sgn_pow hx.sg n
 have HL : Hid ((mag (v.natAbs ^ (n / 2))).length < 4000 ∧ (mag (v.natAbs ^ n)).length < 8000) := ⟨h40, h80⟩
 have hmod : (n : Int).tmod 2 = ((n % 2 : Nat) : Int) := by rw [Int.tmod_eq_emod_of_nonneg (by omega)]; omega
 have hodd : (((n % 2 : Nat) : Int) == 1) = decide (n % 2 = 1) := by
  rcases Nat.mod_two_eq_zero_or_one n with e | e <;> rw [e] <;> rfl
 obtain ⟨k, hk⟩ : ∃ k, n % 2 = k := ⟨_, rfl⟩
 rw [hk] at hmod hodd HE
 obtain ⟨c, hc⟩ : ∃ c, decide (k = 1) = c := ⟨_, rfl⟩
 rw [hc] at hodd HE
 clear hx h40 h80 hk hc
 cases neg
 ·
  simp only [Bool.false_and] at HE
  go_enter Tryz.func120, Tryz.ntmps120
  go_wp2_with (first
   | (go_at_call 51; rw [← hT.eq]; refine (check_at false ao len cap _ _ hR.row (by omega) 0 hM.out).mono ?_; rintro e w1 ⟨rfl, hb1⟩; obtain ⟨p0, p1⟩ := hT.a.later hb1 (by omega); have hs1 := hb1.size)
   | (go_at_call 139; refine (power_any ao len cap n v.natAbs _ (hR.row.later hb1) (by omega) hl HL.out.1).mono ?_; rintro e w2 ⟨ao2, l2, c2, rfl, ho2, hb2⟩; have hlen2 : l2 < 8000 := (by rw [ho2.row.hlen]; exact HL.out.2))
   | (go_at_call 99; refine (signed_any false ao2 l2 c2 _ (by omega)).mono ?_; rintro e w3 ⟨rfl, hb3⟩; obtain ⟨g5, g3, g4⟩ := hT.r.later (bnext hb1 (bnext hb2 hb3)) (by omega)))
  exact bodyPost_ret (v := .tuple #[.agg #[.bool (false && decide (0 < l2)), .slice ao2 l2 c2], .int .i64 0]) (by simp [results, Tryz.results120, go_sem, g3, g4]) rfl
   (NewInt.ret ((ho2.later hb3).store (by omega) _ _) (by omega) HE.out (below_store (bnext hT.below (bnext hb1 (bnext hb2 hb3))) (by omega) _ _)).err
 ·
  simp only [Bool.true_and] at HE
  go_enter Tryz.func120, Tryz.ntmps120
  go_wp2_with (first
   | (go_at_call 51; rw [← hT.eq]; refine (check_at true ao len cap _ _ hR.row (by omega) 0 hM.out).mono ?_; rintro e w1 ⟨rfl, hb1⟩; obtain ⟨p0, p1⟩ := hT.a.later hb1 (by omega); have hs1 := hb1.size)
   | (go_at_call 139; refine (power_any ao len cap n v.natAbs _ (hR.row.later hb1) (by omega) hl HL.out.1).mono ?_; rintro e w2 ⟨ao2, l2, c2, rfl, ho2, hb2⟩; have hlen2 : l2 < 8000 := (by rw [ho2.row.hlen]; exact HL.out.2))
   | (go_at_call 99; refine (signed_any c ao2 l2 c2 _ (by omega)).mono ?_; rintro e w3 ⟨rfl, hb3⟩; obtain ⟨g5, g3, g4⟩ := hT.r.later (bnext hb1 (bnext hb2 hb3)) (by omega)))
  exact bodyPost_ret (v := .tuple #[.agg #[.bool (c && decide (0 < l2)), .slice ao2 l2 c2], .int .i64 0]) (by simp [results, Tryz.results120, go_sem, g3, g4]) rfl
   (NewInt.ret ((ho2.later hb3).store (by omega) _ _) (by omega) HE.out (below_store (bnext hT.below (bnext hb1 (bnext hb2 hb3))) (by omega) _ _)).err
def XVar (Z : World) (r : Nat) (v : Int) : Prop := ∃ n o l c, Boxed Z r n o l c ∧ IntAt Z n o l c v ∧ ∀ j, Z.frozen? ⟨r, j, none⟩ = false
theorem XVar.later {Z Z' : World} {r : Nat} {v : Int} (h : XVar Z r v) (hb : Below Z.heap.size Z Z') : XVar Z' r v := by
 obtain ⟨n, o, l, c, h1, h2, h4⟩ := h
 have hr : r < Z.heap.size := cell_lt h1.1
 exact ⟨n, o, l, c, h1.later hb hr, h2.later hb, fun j => (hb.frozen (p := ⟨r, j, none⟩) hr).trans (h4 j)⟩
structure RPow (w Z : World) (g : Nat) (neg : Bool) (ao : Option Addr) (len cap : Nat) (v x : Int) : Prop where
 ba : Boxed Z w.heap.size neg ao len cap
 ia : IntAt Z neg ao len cap v
 fr : Fresh Z (w.heap.size + 1)
 vx : XVar Z g x
 gw : w.heap.size + 2 ≤ g
 gz : g < Z.heap.size
 bw : Below w.heap.size w Z
theorem RPow.later {w Z Z' : World} {g : Nat} {neg : Bool} {ao : Option Addr} {len cap : Nat} {v x : Int} (h : RPow w Z g neg ao len cap v x) (hb : Below Z.heap.size Z Z') : RPow w Z' g neg ao len cap v x := by
 have h1 := h.gw
 have h2 := h.gz
 exact ⟨h.ba.later hb (by omega), h.ia.later hb, h.fr.later hb (by omega), h.vx.later hb, h1, Nat.lt_of_lt_of_le h2 hb.size, bnext h.bw hb⟩
theorem RPow.put {w Z Z' : World} {g : Nat} {neg n : Bool} {ao o : Option Addr} {len cap l c : Nat} {v x y : Int} (h : RPow w Z g neg ao len cap v x) (hb : Below Z.heap.size Z Z') (hi : IntAt Z' n o l c y) : RPow w ((Z'.setCell ⟨g, 0, none⟩ (.bool n)).setCell ⟨g, 1, none⟩ (.slice o l c)) g neg ao len cap v y := by
 have k := h.later hb
 have h1 := k.gw
 have h2 := k.gz
 obtain ⟨n', o', l', c', hx, _, hf⟩ := k.vx
 exact ⟨boxed_far k.ba (by omega) _ _, ⟨k.ia.sg, k.ia.row.boxed hx _ _⟩, fresh_far k.fr (by omega) _ _, ⟨_, _, _, _, boxed_new hx, ⟨hi.sg, hi.row.boxed hx _ _⟩, fun j => by rw [frozen_far, frozen_far]; exact hf j⟩, h1, by simpa [World.setCell] using h2, below_store k.bw (by omega) _ _⟩
theorem RPow.first {w W w1 : World} {neg n : Bool} {ao o : Option Addr} {len cap l c : Nat} {v x : Int} (hT : One2 w W neg ao len cap) (hx : IntAt W neg ao len cap v) (hb : Below W.heap.size W w1) (hi : IntAt w1 n o l c x) : RPow w (w1.alloc (.cells #[.bool n, .slice o l c] 26)) w1.heap.size neg ao len cap v x := by
 have hA : Below w1.heap.size w1 (w1.alloc (.cells #[.bool n, .slice o l c] 26)) := (Below.refl _ _).alloc (Nat.le_refl _) _
 have hs := hT.size
 have hz := hb.size
 have hWA := bnext hb hA
 exact ⟨hT.a.later hWA (by omega), hx.later hWA, hT.r.later hWA (by omega), ⟨n, o, l, c, ⟨by simp [go_sem], by simp [go_sem]⟩, hi.later hA, fun j => by simp [go_sem]⟩, by omega, by simp, bnext hT.below hWA⟩
theorem RPow.last {w Z : World} {g : Nat} {neg n : Bool} {ao o : Option Addr} {len cap l c : Nat} {v x : Int} (h : RPow w Z g neg ao len cap v x) (hb : Boxed Z g n o l c) (hi : IntAt Z n o l c x) (u1 u2 : Value) : RefInt w ((Z.setCell ⟨w.heap.size + 1, 0, none⟩ u1).setCell ⟨w.heap.size + 1, 1, none⟩ u2) (.returned (.agg #[.bool n, .slice o l c])) x :=
 ⟨_, _, _, _, rfl, ⟨hi.sg, hi.row.kept h.fr _ _⟩, below_store h.bw (by omega) _ _⟩
theorem len_pow (v : Int) (k : Nat) : (mag (v ^ k).natAbs).length ≤ (mag v.natAbs).length * k + 1 := by
 rw [Int.natAbs_pow]; exact mag_len_pow _ _
theorem rpow_any (neg : Bool) (ao : Option Addr) (len cap n : Nat) (v : Int) (w : World) (hx : IntAt w neg ao len cap v) (hl : len ≤ 1000) (hn : n ≤ 64) :
  Calls Tryz.prog 86 #[.agg #[.bool neg, .slice ao len cap], .int .i64 (n : Int)] w fun e w' => RefInt w w' e (v ^ n) := by
 obtain ⟨W, hT⟩ := One2.mk' w neg ao len cap
 have hsz := hT.size
 have hR := hx.later hT.below
 have HLV : Hid ((mag v.natAbs).length ≤ 1000) := by show _ ≤ _; rw [← hx.row.hlen]; exact hl
 clear hx
 go_enter Tryz.func86, Tryz.ntmps86
 go_wp2_with (go_at_call 46; rw [← hT.eq]; refine (rfrom_any 1 _ (by decide) (by decide)).mono ?_; rintro e w1 ⟨n1, o1, l1, c1, rfl, hs1, ho1, hb1⟩; have HF : Hid (RPow w (w1.alloc (.cells #[.bool n1, .slice o1 l1 c1] 26)) w1.heap.size neg ao len cap v 1) := RPow.first hT hR hb1 ⟨hs1, ho1.row⟩; clear hs1 ho1 hb1)
 obtain ⟨g, hg⟩ : ∃ g, w1.heap.size = g := ⟨_, rfl⟩
 rw [hg] at HF
 rw [hg]
 clear hg hR hT
 go_loopw [6] (fun i wr => ∃ k : Nat, k ≤ n ∧ i = .int .i64 k ∧ RPow w wr g neg ao len cap v (v ^ k)) (fun i _ => n - (intOf i).toNat)
 case atStart => exact ⟨0, Nat.zero_le _, rfl, by rw [Int.pow_zero]; exact HF.out⟩
 case round =>
  obtain ⟨k, hk, rfl, hst⟩ := hrel
  have HS : Hid (RPow w wr g neg ao len cap v (v ^ k)) := hst
  obtain ⟨a0, a1⟩ := hst.ba
  obtain ⟨n5, o5, l5, c5, ⟨x0, x1⟩, hi5, hf5⟩ := hst.vx
  have HI : Hid (IntAt wr n5 o5 l5 c5 (v ^ k) ∧ Boxed wr g n5 o5 l5 c5) := ⟨hi5, x0, x1⟩
  have hgz := hst.gz
  obtain ⟨g5, g3, g4⟩ := hst.fr
  have hl5 : l5 ≤ 100000 := by
   rw [hi5.row.hlen]
   refine Nat.le_trans (len_pow v k) ?_
   have h1 : (mag v.natAbs).length * k ≤ 1000 * 64 := Nat.mul_le_mul HLV.out (by omega)
   omega
  clear hst hi5
  by_cases hlt : k < n
  ·
   go_wp2_with (go_at_call 71; refine (rtimes_any n5 neg o5 ao l5 c5 len cap (v ^ k) v _ HI.out.1 HS.out.ia (by omega) (by omega)).mono ?_; rintro e w2 ⟨n6, o6, l6, c6, rfl, hs6, ho6, hb6⟩; have HA : Hid (IntAt w2 n6 o6 l6 c6 (v ^ (k + 1)) ∧ Below wr.heap.size wr w2) := ⟨(by rw [Int.pow_succ]; exact ⟨hs6, ho6.row⟩), hb6⟩; clear x0 x1; obtain ⟨x0, x1⟩ := HI.out.2.later hb6 hgz; have hfz : ∀ j, w2.frozen? ⟨g, j, none⟩ = false := (fun j => (hb6.frozen (p := ⟨g, j, none⟩) hgz).trans (hf5 j)); clear hs6 ho6)
   go_roundw
   case rel => exact ⟨k + 1, by omega, by go_num, HS.out.put HA.out.2 HA.out.1⟩
   case measure => simp [intOf]; omega
  ·
   obtain rfl : k = n := by omega
   go_wp2
   exact bodyPost_ret (v := .agg #[.bool n5, .slice o5 l5 c5]) (by simp [results, Tryz.results86, go_sem, g3, g4]) rfl
    (HS.out.last HI.out.2 HI.out.1 _ _)
end Go.Proofs.YtiiefpnkpfliiaaGreatDoor
namespace Go.Proofs.YtiiefpnkpfliiaaGreatDoor
open Go.RowKit
theorem lowest_rat (na : Bool) (ao do' : Option Addr) (la ca ld cd : Nat) (v : Int) (d : Nat) (w : World) (hx : IntAt w na ao la ca v) (hy : RowAt w .u64 do' ld cd (mag d)) (h0 : d ≠ 0) (hl : la ≤ 1000000) (hl' : ld ≤ 1000000) (hT0 : TabAt 0 Lib.deBruijn64tab w) (r : Rat) (hr : r = Rat.normalize v d h0) :
  Calls Tryz.prog 80 #[.agg #[.bool na, .slice ao la ca], .slice do' ld cd] w fun e w' => NewRat w w' e r := by
 obtain ⟨W, hT⟩ := IR2.mk' w na ao la ca
 have hsz : w.heap.size + 2 ≤ W.heap.size := by rw [hT.size]; exact Nat.le_refl _
 have HX : Hid (IntAt W na ao la ca v ∧ RowAt W .u64 do' ld cd (mag d) ∧ TabAt 0 Lib.deBruijn64tab W) := ⟨hx.later hT.below, hy.later hT.below, tab_later hT0 hT.below⟩
 obtain ⟨g, hg⟩ : ∃ g, Nat.gcd v.natAbs d = g := ⟨_, rfl⟩
 have hg0 : 0 < g := by rw [← hg]; exact Nat.gcd_pos_of_pos_right _ (by omega)
 have HG : Hid (Nat.gcd v.natAbs d = g ∧ (g : Int) ∣ v ∧ (g : Int) ∣ (d : Int)) := ⟨hg, hg ▸ gcd_dvd_abs v d, hg ▸ Int.ofNat_dvd.2 (Nat.gcd_dvd_right _ _)⟩
 have HE : Hid (r.num = v / (g : Int) ∧ r.den = d / g ∧ (mag (v / (g : Int)).natAbs).length ≤ 1000000 ∧ (mag (d / g)).length ≤ 1000000 ∧ (mag g).length ≤ 1000000) := by
  have h1 := rmake_parts (n := v) h0
  rw [hg, ← hr] at h1
  have h2 := idiv_len (hg ▸ gcd_dvd_abs v d)
  have h3 := hx.row.hlen
  have h4 := hy.hlen
  have h5 := div_len d g
  have h6 := dvd_len (hg ▸ Nat.gcd_dvd_right v.natAbs d) (show 0 < d by omega)
  refine ⟨h1.1, h1.2, ?_, ?_, ?_⟩ <;> omega
 have hp0 : 0 < d := by omega
 clear hx hy hr hg hT0
 have hmag := run_mag
 go_enter Tryz.func80, Tryz.ntmps80
 obtain ⟨p0, p1⟩ := hT.a
 go_wp2_with (first
  | (go_at_call 95; rw [← hT.eq]; refine (common_any ao do' la ca ld cd v.natAbs d _ HX.out.1.row HX.out.2.1 hp0 (by omega) (by omega) HX.out.2.2).mono ?_; rw [HG.out.1]; rintro e w1 ⟨go, lg, cg, rfl, hr, hb1⟩; have hlg : lg ≤ 1000000 := (by rw [hr.hlen]; exact HE.out.2.2.2.2); have H1 : Hid (RowAt w1 .u64 go lg cg (mag g)) := hr; clear hr p0 p1; obtain ⟨p0, p1⟩ := hT.a.later hb1 (by omega))
  | (go_at_call 110; have _t := H3; refine (over_any false do' go ld cd lg cg (d : Int) g _ (row_int (HX.out.2.1.later H3.out.2.2)) (H1.out.later H3.out.2.1) (by omega) (by omega) hg0 HG.out.2.2).mono ?_; rintro e w4 ⟨n4, o4, l4, c4, rfl, hi, _, hb⟩; have H4 : Hid (RowAt w4 .u64 o4 l4 c4 (mag (d / g)) ∧ (n3 = sgB r.num ∧ Own W.heap.size w4 .u64 59 o3 l3 c3 (mag r.num.natAbs)) ∧ Below W.heap.size W w4) := ⟨(by have h := hi.row; rw [← Int.natCast_ediv, Int.natAbs_natCast] at h; exact h), ⟨H3.out.1.1, H3.out.1.2.later hb⟩, bnext H3.out.2.2 hb⟩; clear hi hb)
  | (go_at_call 110; refine (over_any na ao go la ca lg cg v g _ (HX.out.1.later hb1) H1.out (by omega) (by omega) hg0 HG.out.2.1).mono ?_; rintro e w2 ⟨n2, o2, l2, c2, rfl, hi, _, hb⟩; have hl2 : l2 ≤ 1000000 := (by rw [hi.row.hlen]; exact HE.out.2.2.1); have H2 : Hid (IntAt w2 n2 o2 l2 c2 (v / (g : Int)) ∧ Below w1.heap.size w1 w2) := ⟨hi, hb⟩; clear hi hb p0 p1)
  | (go_at_call 50; refine (rclone_any n2 o2 l2 c2 (v / (g : Int)) _ H2.out.1 (by omega)).mono ?_; rw [← HE.out.1]; rintro e w3 ⟨n3, o3, l3, c3, rfl, hs, ho, hb⟩; have H3 : Hid ((n3 = sgB r.num ∧ Own W.heap.size w3 .u64 59 o3 l3 c3 (mag r.num.natAbs)) ∧ Below w1.heap.size w1 w3 ∧ Below W.heap.size W w3) := ⟨⟨hs, ho.mono (bnext hb1 H2.out.2).size⟩, bnext H2.out.2 hb, bnext hb1 (bnext H2.out.2 hb)⟩; clear hs ho hb)
  | (go_at_call 58; refine (cloneNat_any o4 l4 c4 (d / g) _ H4.out.1 (by rw [H4.out.1.hlen]; have := HE.out.2.2.2.1; omega)).mono ?_; rintro e w5 ⟨o5, l5, c5, rfl, ho, hb⟩; have H5 : Hid ((n3 = sgB r.num ∧ Own W.heap.size w5 .u64 59 o3 l3 c3 (mag r.num.natAbs)) ∧ Own W.heap.size w5 .u64 59 o5 l5 c5 (mag r.den) ∧ Parted o3 o5 ∧ Below W.heap.size W w5) := ⟨⟨H4.out.2.1.1, H4.out.2.1.2.later hb⟩, (by rw [HE.out.2.1]; exact ho.mono H4.out.2.2.size), Parted.made H4.out.2.1.2 ho (Nat.le_refl _), bnext H4.out.2.2 hb⟩; clear ho hb; obtain ⟨k5, k2, k3, k4⟩ := hT.r.later H5.out.2.2.2 (by omega)))
 exact bodyPost_ret (v := .agg #[.bool n3, .slice o3 l3 c3, .slice o5 l5 c5]) (by simp [results, Tryz.results80, go_sem, k2, k3, k4]) rfl
  ⟨_, _, _, _, _, _, _, rfl, H5.out.1.1, (H5.out.1.2.store3 (by omega) _ _ _).mono (by omega), (H5.out.2.1.store3 (by omega) _ _ _).mono (by omega), H5.out.2.2.1, below_store3 (bnext hT.below H5.out.2.2.2) (by omega) _ _ _⟩
theorem make_bad1 (na : Bool) (ao do' : Option Addr) (la ca ld cd : Nat) (x f : List Int) (w : World) (hx : RowAt w .u64 ao la ca x) (hy : RowAt w .u64 do' ld cd f) (hl : la ≤ 1000000) (hl' : ld ≤ 1000000) (hm : mayB na x = false) :
  Calls Tryz.prog 33 #[.agg #[.bool na, .slice ao la ca], .slice do' ld cd] w fun e w' => e = .returned (.tuple #[.agg #[.bool false, .slice none 0 0, .slice none 0 0], .int .i64 20]) ∧ Below w.heap.size w w' := by
 obtain ⟨W, hT⟩ := IR2.mk' w na ao la ca
 have hsz : w.heap.size + 2 ≤ W.heap.size := by rw [hT.size]; exact Nat.le_refl _
 have HX : Hid (RowAt W .u64 ao la ca x ∧ RowAt W .u64 do' ld cd f) := ⟨hx.later hT.below, hy.later hT.below⟩
 obtain ⟨p0, p1⟩ := hT.a
 clear hx hy
 have HM : Hid ((if mayB na x then 0 else 10 : Int) = 10) := by show _ = _; rw [hm]; rfl
 clear hm
 go_enter Tryz.func33, Tryz.ntmps33
 go_wp2_with (go_at_call 51; rw [← hT.eq]; refine (check_at na ao la ca x _ HX.out.1 (by omega) 10 HM.out).mono ?_; rintro e w1 ⟨rfl, hb1⟩; obtain ⟨p0, p1⟩ := hT.a.later hb1 (by omega); obtain ⟨g5, g2, g3, g4⟩ := hT.r.later hb1 (by omega))
 exact bodyPost_ret (v := .tuple #[.agg #[.bool false, .slice none 0 0, .slice none 0 0], .int .i64 20]) (by simp [results, Tryz.results33, go_sem, g2, g3, g4]) rfl
  ⟨rfl, below_store3 (bnext hT.below hb1) (by omega) _ _ _⟩
theorem make_bad2 (na : Bool) (ao do' : Option Addr) (la ca ld cd : Nat) (x f : List Int) (w : World) (hx : RowAt w .u64 ao la ca x) (hy : RowAt w .u64 do' ld cd f) (hl : la ≤ 1000000) (hl' : ld ≤ 1000000) (hm : mayB na x = true) (hm2 : mayB false f = false) :
  Calls Tryz.prog 33 #[.agg #[.bool na, .slice ao la ca], .slice do' ld cd] w fun e w' => e = .returned (.tuple #[.agg #[.bool false, .slice none 0 0, .slice none 0 0], .int .i64 20]) ∧ Below w.heap.size w w' := by
 obtain ⟨W, hT⟩ := IR2.mk' w na ao la ca
 have hsz : w.heap.size + 2 ≤ W.heap.size := by rw [hT.size]; exact Nat.le_refl _
 have HX : Hid (RowAt W .u64 ao la ca x ∧ RowAt W .u64 do' ld cd f) := ⟨hx.later hT.below, hy.later hT.below⟩
 obtain ⟨p0, p1⟩ := hT.a
 clear hx hy
 have HM : Hid ((if mayB na x then 0 else 10 : Int) = 0) := by show _ = _; rw [hm]; rfl
 have HM2 : Hid ((if mayB false f then 0 else 10 : Int) = 10) := by show _ = _; rw [hm2]; rfl
 clear hm hm2
 go_enter Tryz.func33, Tryz.ntmps33
 go_wp2_with (first
  | (go_at_call 51; have _t := hb1; refine (check_at false do' ld cd f _ (HX.out.2.later hb1) (by omega) 10 HM2.out).mono ?_; rintro e w2 ⟨rfl, hb2'⟩; have hb2 := bnext hb1 hb2'; clear hb2' p0 p1 g5 g2 g3 g4; obtain ⟨p0, p1⟩ := hT.a.later hb2 (by omega); obtain ⟨g5, g2, g3, g4⟩ := hT.r.later hb2 (by omega))
  | (go_at_call 51; rw [← hT.eq]; refine (check_at na ao la ca x _ HX.out.1 (by omega) 0 HM.out).mono ?_; rintro e w1 ⟨rfl, hb1⟩; obtain ⟨p0, p1⟩ := hT.a.later hb1 (by omega); obtain ⟨g5, g2, g3, g4⟩ := hT.r.later hb1 (by omega)))
 exact bodyPost_ret (v := .tuple #[.agg #[.bool false, .slice none 0 0, .slice none 0 0], .int .i64 20]) (by simp [results, Tryz.results33, go_sem, g2, g3, g4]) rfl
  ⟨rfl, below_store3 (bnext hT.below hb2) (by omega) _ _ _⟩
theorem make_zero (na : Bool) (ao do' : Option Addr) (la ca ld cd : Nat) (x f : List Int) (w : World) (hx : RowAt w .u64 ao la ca x) (hy : RowAt w .u64 do' ld cd f) (hl : la ≤ 1000000) (hl' : ld ≤ 1000000) (hm : mayB na x = true) (hm2 : mayB false f = true) (hz : ld = 0) :
  Calls Tryz.prog 33 #[.agg #[.bool na, .slice ao la ca], .slice do' ld cd] w fun e w' => e = .returned (.tuple #[.agg #[.bool false, .slice none 0 0, .slice none 0 0], .int .i64 21]) ∧ Below w.heap.size w w' := by
 obtain ⟨W, hT⟩ := IR2.mk' w na ao la ca
 have hsz : w.heap.size + 2 ≤ W.heap.size := by rw [hT.size]; exact Nat.le_refl _
 have HX : Hid (RowAt W .u64 ao la ca x ∧ RowAt W .u64 do' ld cd f) := ⟨hx.later hT.below, hy.later hT.below⟩
 obtain ⟨p0, p1⟩ := hT.a
 clear hx hy
 have HM : Hid ((if mayB na x then 0 else 10 : Int) = 0) := by show _ = _; rw [hm]; rfl
 have HM2 : Hid ((if mayB false f then 0 else 10 : Int) = 0) := by show _ = _; rw [hm2]; rfl
 have hz' : ((ld : Int) == 0) = true := by rw [hz]; rfl
 clear hm hm2 hz
 go_enter Tryz.func33, Tryz.ntmps33
 go_wp2_with (first
  | (go_at_call 51; have _t := hb1; refine (check_at false do' ld cd f _ (HX.out.2.later hb1) (by omega) 0 HM2.out).mono ?_; rintro e w2 ⟨rfl, hb2'⟩; have hb2 := bnext hb1 hb2'; clear hb2' p0 p1 g5 g2 g3 g4; obtain ⟨p0, p1⟩ := hT.a.later hb2 (by omega); obtain ⟨g5, g2, g3, g4⟩ := hT.r.later hb2 (by omega))
  | (go_at_call 51; rw [← hT.eq]; refine (check_at na ao la ca x _ HX.out.1 (by omega) 0 HM.out).mono ?_; rintro e w1 ⟨rfl, hb1⟩; obtain ⟨p0, p1⟩ := hT.a.later hb1 (by omega); obtain ⟨g5, g2, g3, g4⟩ := hT.r.later hb1 (by omega)))
 exact bodyPost_ret (v := .tuple #[.agg #[.bool false, .slice none 0 0, .slice none 0 0], .int .i64 21]) (by simp [results, Tryz.results33, go_sem, g2, g3, g4]) rfl
  ⟨rfl, below_store3 (bnext hT.below hb2) (by omega) _ _ _⟩
theorem make_good (na : Bool) (ao do' : Option Addr) (la ca ld cd : Nat) (x f : List Int) (v : Int) (d : Nat) (w : World) (hx : RowAt w .u64 ao la ca x) (hy : RowAt w .u64 do' ld cd f) (hl : la ≤ 1000000) (hl' : ld ≤ 1000000) (hm : mayB na x = true) (hm2 : mayB false f = true) (hxv : x = mag v.natAbs ∧ na = sgB v) (hfd : f = mag d) (h0 : d ≠ 0) (hT0 : TabAt 0 Lib.deBruijn64tab w) (r : Rat) (hr : r = Rat.normalize v d h0) :
  Calls Tryz.prog 33 #[.agg #[.bool na, .slice ao la ca], .slice do' ld cd] w fun e w' => NewRatErr w w' e r := by
 have HT : Hid (TabAt 0 Lib.deBruijn64tab w) := hT0
 clear hT0
 obtain ⟨W, hT⟩ := IR2.mk' w na ao la ca
 have hsz : w.heap.size + 2 ≤ W.heap.size := by rw [hT.size]; exact Nat.le_refl _
 have HX : Hid (RowAt W .u64 ao la ca x ∧ RowAt W .u64 do' ld cd f) := ⟨hx.later hT.below, hy.later hT.below⟩
 obtain ⟨p0, p1⟩ := hT.a
 clear hx hy
 have HTW : Hid (TabAt 0 Lib.deBruijn64tab W) := tab_later HT.out hT.below
 have HM : Hid ((if mayB na x then 0 else 10 : Int) = 0) := by show _ = _; rw [hm]; rfl
 have HM2 : Hid ((if mayB false f then 0 else 10 : Int) = 0) := by show _ = _; rw [hm2]; rfl
 have HV : Hid (IntAt W na ao la ca v ∧ RowAt W .u64 do' ld cd (mag d) ∧ r = Rat.normalize v d h0) := ⟨⟨hxv.2, hxv.1 ▸ HX.out.1⟩, hfd ▸ HX.out.2, hr⟩
 have hz' : ((ld : Int) == 0) = false := by
  have h1 : 0 < ld := by rw [HV.out.2.1.hlen]; exact mag_len_pos.2 (by omega)
  simp; omega
 clear hm hm2 hxv hfd hr
 go_enter Tryz.func33, Tryz.ntmps33
 go_wp2_with (first
  | (go_at_call 80; refine (lowest_rat na ao do' la ca ld cd v d _ (HV.out.1.later hb2) (HV.out.2.1.later hb2) h0 (by omega) (by omega) (tab_later HTW.out hb2) r HV.out.2.2).mono ?_; rintro e w3 ⟨n4, o4, l4, c4, o5, l5, c5, rfl, hs, ho, hp, hpt, hb3⟩; have HA : Hid (n4 = sgB r.num ∧ Own W.heap.size w3 .u64 59 o4 l4 c4 (mag r.num.natAbs) ∧ Own W.heap.size w3 .u64 59 o5 l5 c5 (mag r.den) ∧ Parted o4 o5 ∧ Below W.heap.size W w3) := ⟨hs, ho.mono hb2.size, hp.mono hb2.size, hpt, bnext hb2 hb3⟩; clear hs ho hp hpt hb3 p0 p1 g5 g2 g3 g4; obtain ⟨g5, g2, g3, g4⟩ := hT.r.later HA.out.2.2.2.2 (by omega))
  | (go_at_call 51; have _t := hb1; refine (check_at false do' ld cd f _ (HX.out.2.later hb1) (by omega) 0 HM2.out).mono ?_; rintro e w2 ⟨rfl, hb2'⟩; have hb2 := bnext hb1 hb2'; clear hb2' p0 p1 g5 g2 g3 g4; obtain ⟨p0, p1⟩ := hT.a.later hb2 (by omega); obtain ⟨g5, g2, g3, g4⟩ := hT.r.later hb2 (by omega))
  | (go_at_call 51; rw [← hT.eq]; refine (check_at na ao la ca x _ HX.out.1 (by omega) 0 HM.out).mono ?_; rintro e w1 ⟨rfl, hb1⟩; obtain ⟨p0, p1⟩ := hT.a.later hb1 (by omega); obtain ⟨g5, g2, g3, g4⟩ := hT.r.later hb1 (by omega)))
 exact bodyPost_ret (v := .tuple #[.agg #[.bool n4, .slice o4 l4 c4, .slice o5 l5 c5], .int .i64 0]) (by simp [results, Tryz.results33, go_sem, g2, g3, g4]) rfl
  ⟨_, _, _, _, _, _, _, rfl, HA.out.1, (HA.out.2.1.store3 (by omega) _ _ _).mono (by omega), (HA.out.2.2.1.store3 (by omega) _ _ _).mono (by omega), HA.out.2.2.2.1, below_store3 (bnext hT.below HA.out.2.2.2.2) (by omega) _ _ _⟩
theorem pow_bad (na : Bool) (ao po : Option Addr) (la ca lp cp : Nat) (n : Int) (x d : List Int) (w : World) (hx : RowAt w .u64 ao la ca x) (wx : Wd 18446744073709551616 x) (hd : RowAt w .u64 po lp cp d) (wd : Wd 18446744073709551616 d) (hl : la ≤ 16777216) (hl' : lp ≤ 16777216) (hT0 : TabAt 0 Lib.deBruijn64tab w) (hm : mayR na x d = false) :
  Calls Tryz.prog 38 #[.agg #[.bool na, .slice ao la ca, .slice po lp cp], .int .i64 n] w fun e w' => e = .returned (.tuple #[.agg #[.bool false, .slice none 0 0, .slice none 0 0], .int .i64 20]) ∧ Below w.heap.size w w' := by
 obtain ⟨W, hT⟩ := ROne2.mk' w na ao po la ca lp cp
 have hsz := hT.size
 have hcon := rcheck_bad na ao po la ca lp cp x d W (hx.later hT.below) wx (hd.later hT.below) wd hl hl' (tab_later hT0 hT.below) hm
 clear hx hd wx wd hT0 hm
 go_enter Tryz.func38, Tryz.ntmps38
 go_wp2_with (go_at_call 10; rw [← hT.eq]; refine hcon.mono ?_; rintro e w1 ⟨rfl, hb1⟩; obtain ⟨g5, g2, g3, g4⟩ := hT.r.later hb1 (by omega))
 exact bodyPost_ret (v := .tuple #[.agg #[.bool false, .slice none 0 0, .slice none 0 0], .int .i64 20]) (by simp [results, Tryz.results38, go_sem, g2, g3, g4]) rfl
  ⟨rfl, below_store3 (bnext hT.below hb1) (by omega) _ _ _⟩
theorem pow_far1 (na : Bool) (ao po : Option Addr) (la ca lp cp : Nat) (n : Int) (a : Rat) (w : World) (hx : RatAt w na ao la ca po lp cp a) (hl : la ≤ 1073741824) (hl' : lp ≤ 1073741824) (hT0 : TabAt 0 Lib.deBruijn64tab w) (hn : n < -64) :
  Calls Tryz.prog 38 #[.agg #[.bool na, .slice ao la ca, .slice po lp cp], .int .i64 n] w fun e w' => e = .returned (.tuple #[.agg #[.bool false, .slice none 0 0, .slice none 0 0], .int .i64 22]) ∧ Below w.heap.size w w' := by
 obtain ⟨W, hT⟩ := ROne2.mk' w na ao po la ca lp cp
 have hsz := hT.size
 have HX : Hid (RatAt W na ao la ca po lp cp a ∧ TabAt 0 Lib.deBruijn64tab W) := ⟨hx.later hT.below, tab_later hT0 hT.below⟩
 clear hx hT0
 skip
 go_enter Tryz.func38, Tryz.ntmps38
 go_wp2_with (go_at_call 10; rw [← hT.eq]; refine (rcheck_good na ao po la ca lp cp a _ HX.out.1 (by omega) (by omega) HX.out.2).mono ?_; rintro e w1 ⟨rfl, hb1⟩; obtain ⟨p0, p1, p2⟩ := hT.a.later hb1 (by omega); obtain ⟨g5, g2, g3, g4⟩ := hT.r.later hb1 (by omega))
 exact bodyPost_ret (v := .tuple #[.agg #[.bool false, .slice none 0 0, .slice none 0 0], .int .i64 22]) (by simp [results, Tryz.results38, go_sem, g2, g3, g4]) rfl
  ⟨rfl, below_store3 (bnext hT.below hb1) (by omega) _ _ _⟩
theorem pow_far2 (na : Bool) (ao po : Option Addr) (la ca lp cp : Nat) (n : Int) (a : Rat) (w : World) (hx : RatAt w na ao la ca po lp cp a) (hl : la ≤ 1073741824) (hl' : lp ≤ 1073741824) (hT0 : TabAt 0 Lib.deBruijn64tab w) (hn : 64 < n) :
  Calls Tryz.prog 38 #[.agg #[.bool na, .slice ao la ca, .slice po lp cp], .int .i64 n] w fun e w' => e = .returned (.tuple #[.agg #[.bool false, .slice none 0 0, .slice none 0 0], .int .i64 22]) ∧ Below w.heap.size w w' := by
 obtain ⟨W, hT⟩ := ROne2.mk' w na ao po la ca lp cp
 have hsz := hT.size
 have HX : Hid (RatAt W na ao la ca po lp cp a ∧ TabAt 0 Lib.deBruijn64tab W) := ⟨hx.later hT.below, tab_later hT0 hT.below⟩
 clear hx hT0
 have hn' : ¬ n < -64 := by omega
 go_enter Tryz.func38, Tryz.ntmps38
 go_wp2_with (go_at_call 10; rw [← hT.eq]; refine (rcheck_good na ao po la ca lp cp a _ HX.out.1 (by omega) (by omega) HX.out.2).mono ?_; rintro e w1 ⟨rfl, hb1⟩; obtain ⟨p0, p1, p2⟩ := hT.a.later hb1 (by omega); obtain ⟨g5, g2, g3, g4⟩ := hT.r.later hb1 (by omega))
 exact bodyPost_ret (v := .tuple #[.agg #[.bool false, .slice none 0 0, .slice none 0 0], .int .i64 22]) (by simp [results, Tryz.results38, go_sem, g2, g3, g4]) rfl
  ⟨rfl, below_store3 (bnext hT.below hb1) (by omega) _ _ _⟩
theorem pow_zero_neg (na : Bool) (ao po : Option Addr) (la ca lp cp : Nat) (n : Int) (a : Rat) (w : World) (hx : RatAt w na ao la ca po lp cp a) (hl : la ≤ 1073741824) (hl' : lp ≤ 1073741824) (hT0 : TabAt 0 Lib.deBruijn64tab w) (hn : n < 0) (hn2 : -64 ≤ n) (h0 : a.num = 0) :
  Calls Tryz.prog 38 #[.agg #[.bool na, .slice ao la ca, .slice po lp cp], .int .i64 n] w fun e w' => e = .returned (.tuple #[.agg #[.bool false, .slice none 0 0, .slice none 0 0], .int .i64 21]) ∧ Below w.heap.size w w' := by
 obtain ⟨W, hT⟩ := ROne2.mk' w na ao po la ca lp cp
 have hsz := hT.size
 have HX : Hid (RatAt W na ao la ca po lp cp a ∧ TabAt 0 Lib.deBruijn64tab W) := ⟨hx.later hT.below, tab_later hT0 hT.below⟩
 have hla : ((la : Int) == 0) = true := by have h1 := hx.num.row.hlen; rw [h0] at h1; rw [h1]; rfl
 have h1 : ¬ n < -64 := by omega
 have h2 : ¬ 64 < n := by omega
 clear hx hT0 hn2 h0
 go_enter Tryz.func38, Tryz.ntmps38
 go_wp2_with (go_at_call 10; rw [← hT.eq]; refine (rcheck_good na ao po la ca lp cp a _ HX.out.1 (by omega) (by omega) HX.out.2).mono ?_; rintro e w1 ⟨rfl, hb1⟩; obtain ⟨p0, p1, p2⟩ := hT.a.later hb1 (by omega); obtain ⟨g5, g2, g3, g4⟩ := hT.r.later hb1 (by omega))
 exact bodyPost_ret (v := .tuple #[.agg #[.bool false, .slice none 0 0, .slice none 0 0], .int .i64 21]) (by simp [results, Tryz.results38, go_sem, g2, g3, g4]) rfl
  ⟨rfl, below_store3 (bnext hT.below hb1) (by omega) _ _ _⟩
theorem pow_nonneg (na : Bool) (ao po : Option Addr) (la ca lp cp : Nat) (n : Nat) (a : Rat) (w : World) (hx : RatAt w na ao la ca po lp cp a) (hl : la ≤ 1073741824) (hl' : lp ≤ 1073741824) (hT0 : TabAt 0 Lib.deBruijn64tab w) (hn : n ≤ 64) (hp : PowFits a.num n ∧ PowFits (a.den : Int) n) :
  Calls Tryz.prog 38 #[.agg #[.bool na, .slice ao la ca, .slice po lp cp], .int .i64 (n : Int)] w fun e w' => NewRatErr w w' e (a ^ n) := by
 obtain ⟨W, hT⟩ := ROne2.mk' w na ao po la ca lp cp
 have hsz := hT.size
 have HX : Hid (RatAt W na ao la ca po lp cp a ∧ TabAt 0 Lib.deBruijn64tab W) := ⟨hx.later hT.below, tab_later hT0 hT.below⟩
 have HP : Hid (PowFits a.num n ∧ PowFits (a.den : Int) n) := hp
 have h1 : ¬ (n : Int) < -64 := by omega
 have h2 : ¬ (64 : Int) < (n : Int) := by omega
 have h3 : ¬ (n : Int) < 0 := by omega
 clear hx hT0 hp
 go_enter Tryz.func38, Tryz.ntmps38
 go_wp2_with (first
  | (go_at_call 84; refine (power_rat na ao po la ca lp cp n a _ (HX.out.1.later hb1) HP.out.1 HP.out.2).mono ?_; rintro e w3 ⟨n4, o4, l4, c4, o5, l5, c5, rfl, hs, ho, hp, hpt, hb3⟩; have HA : Hid (n4 = sgB (a ^ n).num ∧ Own W.heap.size w3 .u64 59 o4 l4 c4 (mag (a ^ n).num.natAbs) ∧ Own W.heap.size w3 .u64 59 o5 l5 c5 (mag (a ^ n).den) ∧ Parted o4 o5 ∧ Below W.heap.size W w3) := ⟨hs, ho.mono hb1.size, hp.mono hb1.size, hpt, bnext hb1 hb3⟩; clear hs ho hp hpt hb3 p0 p1 p2 g5 g2 g3 g4; obtain ⟨g5, g2, g3, g4⟩ := hT.r.later HA.out.2.2.2.2 (by omega))
  | (go_at_call 10; rw [← hT.eq]; refine (rcheck_good na ao po la ca lp cp a _ HX.out.1 (by omega) (by omega) HX.out.2).mono ?_; rintro e w1 ⟨rfl, hb1⟩; obtain ⟨p0, p1, p2⟩ := hT.a.later hb1 (by omega); obtain ⟨g5, g2, g3, g4⟩ := hT.r.later hb1 (by omega)))
 exact bodyPost_ret (v := .tuple #[.agg #[.bool n4, .slice o4 l4 c4, .slice o5 l5 c5], .int .i64 0]) (by simp [results, Tryz.results38, go_sem, g2, g3, g4]) rfl
  ⟨_, _, _, _, _, _, _, rfl, HA.out.1, (HA.out.2.1.store3 (by omega) _ _ _).mono (by omega), (HA.out.2.2.1.store3 (by omega) _ _ _).mono (by omega), HA.out.2.2.2.1, below_store3 (bnext hT.below HA.out.2.2.2.2) (by omega) _ _ _⟩
theorem powfits_any {v : Int} {n : Nat} (hl : (mag v.natAbs).length ≤ 8) (hn : n ≤ 64) : PowFits v n := fun neg ao l c X h => by
 have h1 := len_pow v (n / 2)
 have h2 := len_pow v n
 rw [Int.natAbs_pow] at h1 h2
 have h3 : (mag v.natAbs).length * (n / 2) ≤ 8 * 64 := Nat.mul_le_mul hl (by omega)
 have h4 : (mag v.natAbs).length * n ≤ 8 * 64 := Nat.mul_le_mul hl hn
 exact bpow_any neg ao l c n v X h (by rw [h.row.hlen]; omega) hn (by omega) (by omega)
theorem pow_any (na : Bool) (ao po : Option Addr) (la ca lp cp : Nat) (n : Int) (a : Rat) (w : World) (hx : RatAt w na ao la ca po lp cp a) (hl : la ≤ 1073741824) (hl' : lp ≤ 1073741824) (hT0 : TabAt 0 Lib.deBruijn64tab w) (h0 : a ≠ 0 ∨ 0 ≤ n) (hn : -64 ≤ n ∧ n ≤ 64) (hz : Sz a 8) :
  Calls Tryz.prog 38 #[.agg #[.bool na, .slice ao la ca, .slice po lp cp], .int .i64 n] w fun e w' => NewRatErr w w' e (a ^ n) := by
 by_cases hz0 : 0 ≤ n
 ·
  obtain ⟨m, rfl⟩ : ∃ m : Nat, n = (m : Int) := ⟨n.toNat, by omega⟩
  have := pow_nonneg na ao po la ca lp cp m a w hx hl hl' hT0 (by omega) ⟨powfits_any hz.1 (by omega), powfits_any (by rw [Int.natAbs_natCast]; exact hz.2) (by omega)⟩
  rwa [Rat.zpow_natCast]
 ·
  have ha : a ≠ 0 := by rcases h0 with h | h; exact h; omega
  have hi := hz.inv ha
  exact pow_rat na ao po la ca lp cp n a w hx ha hn hl hl' hT0 ⟨⟨powfits_any hz.1 (by omega), powfits_any (by rw [Int.natAbs_natCast]; exact hz.2) (by omega)⟩, ⟨powfits_any hi.1 (by omega), powfits_any (by rw [Int.natAbs_natCast]; exact hi.2) (by omega)⟩⟩
end Go.Proofs.YtiiefpnkpfliiaaGreatDoor
namespace Go.Proofs.YtiiefpnkpfliiaaGreatDoor
def Simp : Nat → Nat → Nat → Nat → Nat → Nat → Nat → Prop
 | 0, p, q, r, s, u, v => (p % q = 0 ∧ u = p / q ∧ v = 1) ∨ (p % q ≠ 0 ∧ p / q < r / s ∧ u = p / q + 1 ∧ v = 1)
 | k + 1, p, q, r, s, u, v => p % q ≠ 0 ∧ r / s = p / q ∧ ∃ u' v', Simp k s (r % s) q (p % q) u' v' ∧ u = p / q * u' + v' ∧ v = u'
theorem Simp.whole {p q r s : Nat} (h : p % q = 0) : Simp 0 p q r s (p / q) 1 := Or.inl ⟨h, rfl, rfl⟩
theorem Simp.next {p q r s : Nat} (h : p % q ≠ 0) (h2 : p / q < r / s) : Simp 0 p q r s (p / q + 1) 1 := Or.inr ⟨h, h2, rfl, rfl⟩
theorem Simp.turn {k p q r s u v : Nat} (h : p % q ≠ 0) (h2 : r / s = p / q) (h3 : Simp k s (r % s) q (p % q) u v) : Simp (k + 1) p q r s (p / q * u + v) u := ⟨h, h2, u, v, h3, rfl, rfl⟩
theorem Simp.turned' {k p q r s u v : Nat} (h : Simp k p q r s u v) (h0 : p % q ≠ 0) (h1 : ¬ p / q < r / s) : ∃ k' u' v', k' < k ∧ r / s = p / q ∧ Simp k' s (r % s) q (p % q) u' v' ∧ u = p / q * u' + v' ∧ v = u' := by
 match k, h with
 | 0, h =>
  rcases h with ⟨h, _, _⟩ | ⟨_, h, _, _⟩
  ·
   exact absurd h h0
  ·
   exact absurd h h1
 | k + 1, h =>
  obtain ⟨_, h2, u', v', h3, e1, e2⟩ := h
  exact ⟨k, u', v', Nat.lt_succ_self _, h2, h3, e1, e2⟩
theorem Simp.turned {k p q r s u v : Nat} (h : Simp k p q r s u v) (h0 : p % q ≠ 0) (h1 : ¬ p / q < r / s) : ∃ k' u' v', r / s = p / q ∧ Simp k' s (r % s) q (p % q) u' v' ∧ u = p / q * u' + v' ∧ v = u' := by
 obtain ⟨k', u', v', _, h⟩ := h.turned' h0 h1
 exact ⟨k', u', v', h⟩
theorem Simp.wholes {k p q r s u v : Nat} (h : Simp k p q r s u v) (h0 : p % q = 0) : u = p / q ∧ v = 1 := by
 match k, h with
 | 0, h =>
  rcases h with ⟨_, e1, e2⟩ | ⟨h, _, _, _⟩
  ·
   exact ⟨e1, e2⟩
  ·
   exact absurd h0 h
 | k + 1, h => exact absurd h0 h.1
theorem Simp.nexts {k p q r s u v : Nat} (h : Simp k p q r s u v) (h0 : p % q ≠ 0) (h1 : p / q < r / s) : u = p / q + 1 ∧ v = 1 := by
 match k, h with
 | 0, h =>
  rcases h with ⟨h, _, _⟩ | ⟨_, _, e1, e2⟩
  ·
   exact absurd h h0
  ·
   exact ⟨e1, e2⟩
 | k + 1, h => have := h.2.1; omega
theorem Simp.by_turns {P : Nat → Nat → Nat → Nat → Nat → Nat → Nat → Prop} (h1 : ∀ p q r s, p % q = 0 → P 0 p q r s (p / q) 1) (h2 : ∀ p q r s, p % q ≠ 0 → p / q < r / s → P 0 p q r s (p / q + 1) 1) (h3 : ∀ k p q r s u v, p % q ≠ 0 → r / s = p / q → Simp k s (r % s) q (p % q) u v → P k s (r % s) q (p % q) u v → P (k + 1) p q r s (p / q * u + v) u) : ∀ (k p q r s u v : Nat), Simp k p q r s u v → P k p q r s u v := by
 intro k
 induction k with
 | zero =>
  intro p q r s u v h
  rcases h with ⟨h, e1, e2⟩ | ⟨h, h', e1, e2⟩
  ·
   subst e1 e2; exact h1 p q r s h
  ·
   subst e1 e2; exact h2 p q r s h h'
 | succ k ih =>
  intro p q r s u v h
  obtain ⟨h, h', u', v', h4, e1, e2⟩ := h
  subst e1 e2
  exact h3 k p q r s _ _ h h' h4 (ih _ _ _ _ _ _ h4)
theorem frac_floor {p q r s : Nat} (hq : 0 < q) (hs : 0 < s) (h : p * s ≤ r * q) : p / q ≤ r / s := by
 rw [Nat.le_div_iff_mul_le hs]
 have h1 : p / q * q ≤ p := Nat.div_mul_le_self p q
 have h2 : p / q * s * q ≤ r * q := by
  rw [Nat.mul_assoc, Nat.mul_comm s q, ← Nat.mul_assoc]
  exact Nat.le_trans (Nat.mul_le_mul_right s h1) h
 exact Nat.le_of_mul_le_mul_right h2 hq
theorem frac_left {p q r s : Nat} (h : p * s ≤ r * q) (h2 : r / s = p / q) : s * (p % q) ≤ q * (r % s) := by
 have e1 := Nat.div_add_mod p q
 have e2 := Nat.div_add_mod r s
 rw [h2] at e2
 rw [← e1, ← e2, Nat.add_mul, Nat.add_mul] at h
 have e3 : q * (p / q) * s = s * (p / q) * q := by rw [Nat.mul_assoc, Nat.mul_comm q, Nat.mul_comm (p / q) s]
 rw [e3, Nat.mul_comm (p % q) s, Nat.mul_comm (r % s) q] at h
 exact Nat.le_of_add_le_add_left h
theorem left_pos {p q r s : Nat} (hs : 0 < s) (h : p * s ≤ r * q) (h2 : r / s = p / q) (h3 : p % q ≠ 0) : 0 < r % s := by
 have h4 := frac_left h h2
 have h5 : 0 < s * (p % q) := Nat.mul_pos hs (by omega)
 exact Nat.pos_of_ne_zero fun e => by rw [e, Nat.mul_zero] at h4; omega
theorem Simp.ex : ∀ (n p q r s : Nat), q + s ≤ n → 0 < q → 0 < s → p * s ≤ r * q → ∃ k u v, Simp k p q r s u v
 | 0, p, q, r, s, hn, hq, hs, h => absurd hn (by omega)
 | n + 1, p, q, r, s, hn, hq, hs, h => by
  by_cases h0 : p % q = 0
  ·
   exact ⟨0, _, _, .whole h0⟩
  by_cases h1 : p / q < r / s
  ·
   exact ⟨0, _, _, .next h0 h1⟩
  have h2 : r / s = p / q := by have := frac_floor hq hs h; omega
  have h3 := left_pos hs h h2 h0
  have h4 := Nat.mod_lt r hs
  have h5 := Nat.mod_lt p hq
  obtain ⟨k, u, v, h6⟩ := Simp.ex n s (r % s) q (p % q) (by omega) h3 (by omega) (frac_left h h2)
  exact ⟨k + 1, _, _, .turn h0 h2 h6⟩
theorem Simp.pos {k p q r s u v : Nat} (h : Simp k p q r s u v) : 0 < p → 0 < s → 0 < u ∧ 0 < v := by
 revert h
 refine Simp.by_turns (P := fun k p q r s u v => 0 < p → 0 < s → 0 < u ∧ 0 < v) ?_ ?_ ?_ k p q r s u v
 ·
  intro p q r s h0
  exact fun hp _ => ⟨Nat.pos_of_ne_zero fun e => by have e1 := Nat.div_add_mod p q; rw [e, h0] at e1; omega, Nat.one_pos⟩
 ·
  intro p q r s _ _
  exact fun hp _ => ⟨Nat.succ_pos _, Nat.one_pos⟩
 ·
  intro k p q r s u v h0 _ _ ih
  intro hp hs
  obtain ⟨h1, h2⟩ := ih hs (Nat.pos_of_ne_zero h0)
  exact ⟨Nat.lt_of_lt_of_le h2 (Nat.le_add_left _ _), h1⟩
theorem Simp.coprime {k p q r s u v : Nat} (h : Simp k p q r s u v) : Nat.gcd u v = 1 := by
 revert h
 refine Simp.by_turns (P := fun k p q r s u v => Nat.gcd u v = 1) ?_ ?_ ?_ k p q r s u v
 ·
  intro p q r s h0
  exact Nat.gcd_one_right _
 ·
  intro p q r s _ _
  exact Nat.gcd_one_right _
 ·
  intro k p q r s u v h0 _ _ ih
  rw [Nat.gcd_comm, Nat.gcd_mul_right_add_right]
  exact ih
theorem Simp.within {k p q r s u v : Nat} (h : Simp k p q r s u v) : 0 < q → 0 < s → p * s ≤ r * q → p * v ≤ u * q ∧ u * s ≤ r * v := by
 revert h
 refine Simp.by_turns (P := fun k p q r s u v => 0 < q → 0 < s → p * s ≤ r * q → p * v ≤ u * q ∧ u * s ≤ r * v) ?_ ?_ ?_ k p q r s u v
 ·
  intro p q r s h0
  intro hq hs h
  have h1 := frac_floor hq hs h
  have e1 := Nat.div_add_mod p q
  rw [h0, Nat.mul_comm] at e1
  refine ⟨by omega, ?_⟩
  rw [Nat.mul_one]
  exact Nat.le_trans (Nat.mul_le_mul_right s h1) (Nat.div_mul_le_self r s)
 ·
  intro p q r s h0 h2
  intro hq hs h
  refine ⟨?_, ?_⟩
  ·
   have := Nat.div_add_mod p q
   have h3 := Nat.mod_lt p hq
   rw [Nat.mul_one, Nat.add_mul, Nat.one_mul, Nat.mul_comm (p / q) q]; omega
  ·
   rw [Nat.mul_one]
   exact Nat.le_trans (Nat.mul_le_mul_right s h2) (Nat.div_mul_le_self r s)
 ·
  intro k p q r s u v h0 h2 _ ih
  intro hq hs h
  obtain ⟨h3, h4⟩ := ih (left_pos hs h h2 h0) (Nat.pos_of_ne_zero h0) (frac_left h h2)
  have e1 := Nat.div_add_mod p q
  have e2 := Nat.div_add_mod r s
  rw [h2] at e2
  refine ⟨?_, ?_⟩
  ·
   have a1 : p * u = q * (p / q) * u + u * (p % q) := by rw [Nat.mul_comm u, ← Nat.add_mul, e1]
   have a2 : (p / q * u + v) * q = q * (p / q) * u + q * v := by rw [Nat.add_mul, Nat.mul_comm q (p / q), Nat.mul_assoc, Nat.mul_assoc, Nat.mul_comm u q, Nat.mul_comm v q]
   rw [a1, a2]; omega
  ·
   have a1 : r * u = s * (p / q) * u + u * (r % s) := by rw [Nat.mul_comm u, ← Nat.add_mul, e2]
   have a2 : (p / q * u + v) * s = s * (p / q) * u + s * v := by rw [Nat.add_mul, Nat.mul_comm s (p / q), Nat.mul_assoc, Nat.mul_assoc, Nat.mul_comm u s, Nat.mul_comm v s]
   rw [a1, a2]; omega
theorem Simp.least {k p q r s u v : Nat} (h : Simp k p q r s u v) : 0 < q → 0 < s → p * s ≤ r * q → ∀ y z, 0 < z → p * z ≤ y * q → y * s ≤ r * z → u ≤ y ∧ v ≤ z := by
 revert h
 refine Simp.by_turns (P := fun k p q r s u v => 0 < q → 0 < s → p * s ≤ r * q → ∀ y z, 0 < z → p * z ≤ y * q → y * s ≤ r * z → u ≤ y ∧ v ≤ z) ?_ ?_ ?_ k p q r s u v
 ·
  intro p q r s h0
  intro hq hs h y z hz h1 h2
  have e1 := Nat.div_add_mod p q
  rw [h0, Nat.mul_comm] at e1
  refine ⟨?_, hz⟩
  refine Nat.le_of_mul_le_mul_right (c := q) ?_ hq
  refine Nat.le_trans ?_ h1
  refine Nat.le_trans (m := p) (by omega) (Nat.le_mul_of_pos_right p hz)
 ·
  intro p q r s h0 h3
  intro hq hs h y z hz h1 h2
  refine ⟨?_, hz⟩
  refine Nat.lt_of_mul_lt_mul_right (a := q) ?_
  refine Nat.lt_of_lt_of_le ?_ h1
  have e1 := Nat.div_add_mod p q
  rw [Nat.mul_comm] at e1
  exact Nat.lt_of_lt_of_le (m := p) (by omega) (Nat.le_mul_of_pos_right p hz)
 ·
  intro k p q r s u v h0 h3 _ ih
  intro hq hs h y z hz h1 h2
  have e1 := Nat.div_add_mod p q
  have e2 := Nat.div_add_mod r s
  rw [h3] at e2
  have a1 : p * z = q * (p / q) * z + p % q * z := by rw [← Nat.add_mul, e1]
  have a2 : r * z = s * (p / q) * z + r % s * z := by rw [← Nat.add_mul, e2]
  have a3 : q * (p / q) * z = p / q * z * q := by rw [Nat.mul_assoc, Nat.mul_comm]
  have a4 : s * (p / q) * z = p / q * z * s := by rw [Nat.mul_assoc, Nat.mul_comm]
  have h4 : 0 < p % q * z := Nat.mul_pos (Nat.pos_of_ne_zero h0) hz
  have h5 : p / q * z < y := Nat.lt_of_mul_lt_mul_right (a := q) (by omega)
  obtain ⟨t, rfl⟩ : ∃ t, y = p / q * z + t := ⟨y - p / q * z, by omega⟩
  rw [Nat.add_mul] at h1 h2
  obtain ⟨b1, b2⟩ := ih (left_pos hs h h3 h0) (Nat.pos_of_ne_zero h0) (frac_left h h3) z t (by omega) (by rw [Nat.mul_comm s t, Nat.mul_comm z (r % s)]; omega) (by rw [Nat.mul_comm z (p % q), Nat.mul_comm q t]; omega)
  exact ⟨Nat.add_le_add (Nat.mul_le_mul_left _ b1) b2, b1⟩
theorem Simp.one {k k' p q r s u v u' v' : Nat} (h : Simp k p q r s u v) (h' : Simp k' p q r s u' v') (hp : 0 < p) (hq : 0 < q) (hs : 0 < s) (hl : p * s ≤ r * q) : u = u' ∧ v = v' := by
 have a := h.within hq hs hl
 have b := h'.within hq hs hl
 have c := h.least hq hs hl u' v' (h'.pos hp hs).2 b.1 b.2
 have d := h'.least hq hs hl u v (h.pos hp hs).2 a.1 a.2
 omega
theorem Simp.size {k p q r s u v : Nat} (h : Simp k p q r s u v) (hq : 0 < q) (hs : 0 < s) (hl : p * s ≤ r * q) : u ≤ p ∧ v ≤ q :=
 h.least hq hs hl p q hq (Nat.le_refl _) hl
end Go.Proofs.YtiiefpnkpfliiaaGreatDoor
