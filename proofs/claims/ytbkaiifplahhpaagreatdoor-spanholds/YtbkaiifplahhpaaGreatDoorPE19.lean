/-
  A pack of walks and facts: HF, HL, TJ0, RU, RW, HI.
-/
import Derived.Test.YtbkaiifplahhpaaGreatDoorPE07
import Derived.Test.YtbkaiifplahhpaaGreatDoorPE09
import Derived.Test.YtbkaiifplahhpaaGreatDoorPE13
import Derived.Test.YtbkaiifplahhpaaGreatDoorPE15
import Derived.Test.YtbkaiifplahhpaaGreatDoorPE16
import Derived.Test.YtbkaiifplahhpaaGreatDoorPE17
import Derived.Test.YtbkaiifplahhpaaGreatDoorPE18
import Derived.ArgAppend
set_option maxRecDepth 100000
set_option maxHeartbeats 40000000
set_option linter.unusedVariables false
set_option linter.unusedSimpArgs false
namespace Go.Proofs.YtbkaiifplahhpaaGreatDoor
open Go.RowKit
structure Spoil (w : World) (g off len cap : Nat) : Prop where
  cell : ∀ j, j < len → ∃ z, w.cell? ⟨g, off + j, none⟩ = some (.int .u64 z)
  room : ∀ j, j < cap → (w.cell? ⟨g, off + j, none⟩).isSome = true
  soft : ∀ j, w.frozen? ⟨g, j, none⟩ = false
  lt : g < w.heap.size
theorem Spoil.ofOwn {B : Nat} {w : World} {t : TypeId} {g off len cap : Nat} {zs : List Int} (h : Own B w .u64 t (some ⟨g, off, none⟩) len cap zs) : Spoil w g off len cap ∧ B ≤ g ∧ len ≤ cap := by
  rcases h with ⟨h, _⟩ | ⟨g', off', cur, he, hB, hh, hc, hl, _, hz⟩
  · cases h
  · cases he
    have hlt := heap_lt hh
    refine ⟨⟨fun j hj => ⟨dig zs j, ?_⟩, fun j hj => ?_, fun j => ?_, hlt⟩, hB, hl⟩
    · simp only [World.cell?, hh]; exact hz j hj
    · simp only [World.cell?, hh]; simp; omega
    · simp [World.frozen?, hh]
theorem Spoil.later {w w' : World} {g off len cap : Nat} (h : Spoil w g off len cap) (hb : Below w.heap.size w w') : Spoil w' g off len cap :=
  ⟨fun j hj => by obtain ⟨z, hz⟩ := h.cell j hj; exact ⟨z, (hb.cell (p := ⟨g, off + j, none⟩) h.lt).trans hz⟩,
   fun j hj => by rw [hb.cell (p := ⟨g, off + j, none⟩) h.lt]; exact h.room j hj,
   fun j => by rw [hb.frozen (p := ⟨g, j, none⟩) h.lt]; exact h.soft j, Nat.lt_of_lt_of_le h.lt hb.size⟩
theorem Spoil.set {w : World} {g off len cap k : Nat} (h : Spoil w g off len cap) (hk : k < len) (z : Int) : Spoil (w.setCell ⟨g, off + k, none⟩ (.int .u64 z)) g off len cap := by
  have hs : (w.cell? ⟨g, off + k, none⟩).isSome = true := by obtain ⟨y, hy⟩ := h.cell k hk; rw [hy]; rfl
  refine ⟨fun j hj => ?_, fun j hj => ?_, fun j => ?_, by simpa using h.lt⟩
  · by_cases e : j = k
    · subst e; obtain ⟨y, hy⟩ := h.cell j hj; exact ⟨z, by simp [go_sem, hy]⟩
    · obtain ⟨y, hy⟩ := h.cell j hj; obtain ⟨y', hy'⟩ := h.cell k hk; exact ⟨y, by simp [go_sem, hy, hy', e]⟩
  · by_cases e : j = k
    · subst e; obtain ⟨y, hy⟩ := h.cell j hk; simp [go_sem, hy]
    · have := h.room j hj; obtain ⟨y', hy'⟩ := h.cell k hk; simpa [go_sem, hy', e] using this
  · have := h.soft j; simpa [go_sem] using this
structure Stay (ao : Option Addr) (w w' : World) : Prop where
  size : w.heap.size ≤ w'.heap.size
  block : ∀ k, k < w.heap.size → (∀ p : Addr, ao = some p → p.block ≠ k) → w'.heap[k]? = w.heap[k]?
theorem Stay.refl (ao : Option Addr) (w : World) : Stay ao w w := ⟨Nat.le_refl _, fun _ _ _ => rfl⟩
theorem Stay.set {g off : Nat} {w w' : World} (h : Stay (some ⟨g, off, none⟩) w w') (j : Nat) (v : Value) : Stay (some ⟨g, off, none⟩) w (w'.setCell ⟨g, j, none⟩ v) :=
  ⟨by simpa [World.setCell] using h.size, fun k hk hp => by rw [Below.heap_setCell w' ⟨g, j, none⟩ v k (fun e => hp _ rfl e.symm)]; exact h.block k hk hp⟩
theorem Stay.next {ao : Option Addr} {w w' w2 : World} (h : Stay ao w w') (hb : Below w'.heap.size w' w2) : Stay ao w w2 :=
  ⟨Nat.le_trans h.size hb.size, fun k hk hp => (hb.block k (Nat.lt_of_lt_of_le hk h.size)).trans (h.block k hk hp)⟩
theorem Stay.cell {ao : Option Addr} {w w' : World} (h : Stay ao w w') {r j : Nat} (hr : r < w.heap.size) (hp : ∀ p : Addr, ao = some p → p.block ≠ r) : w'.cell? ⟨r, j, none⟩ = w.cell? ⟨r, j, none⟩ := by
  simp only [World.cell?, h.block r hr hp]
theorem Stay.frozen {ao : Option Addr} {w w' : World} (h : Stay ao w w') {r j : Nat} (hr : r < w.heap.size) (hp : ∀ p : Addr, ao = some p → p.block ≠ r) : w'.frozen? ⟨r, j, none⟩ = w.frozen? ⟨r, j, none⟩ := by
  simp only [World.frozen?, h.block r hr hp]
end Go.Proofs.YtbkaiifplahhpaaGreatDoor
namespace Go.Proofs.YtbkaiifplahhpaaGreatDoor
open Go.RowKit Go.Shelf
theorem power_any (ao : Option Addr) (la ca n : Nat) (a : Nat) (w : World) (hx : RowAt w .u64 ao la ca (mag a)) (hn : n < 4294967296) (hl40 : la < 4000) (h40 : (mag (a ^ (n / 2))).length < 4000) :
  Calls Tryz.prog 157 #[.slice ao la ca, .int .i64 (n : Int)] w fun e w' => NewNat w w' e (a ^ n) := by
 obtain ⟨i0, hi, hz0, hz1, hz2⟩ := info_parts info64
 by_cases h0 : n = 0
 ·
  subst h0
  have hbk : Hid (Blk (w.alloc (.cells #[.int .u64 1] 68)) w.heap.size .u64 68 [1]) := Blk.new w .u64 68 [1]
  have HM : Hid (mag (a ^ 0) = [1]) := by show _ = _; rw [Nat.pow_zero]; exact mag_one (by decide) (by decide)
  go_enter Tryz.func157, Tryz.ntmps157
  go_wp2
  go_ret
  exact ⟨_, _, _, rfl, by rw [HM.out]; exact Own.whole hbk.out (Nat.le_refl _) rfl, (Below.refl _ _).alloc (Nat.le_refl _) _⟩
 ·
  have h0' : ((n : Int) == 0) = false := by simp; omega
  have hlen := fun w => len_any (n : Int) w (by omega) (by omega)
  simp only [Int.toNat_natCast] at hlen
  obtain ⟨b1, b2, b3⟩ := bitLen_bounds (y := n) (by omega) (by omega)
  have b4 : Lib.bitLen n ≤ 64 := Lib.bitLen_le n 64 (by omega) (by omega)
  obtain ⟨l, hl⟩ : ∃ l, Lib.bitLen n = l := ⟨_, rfl⟩
  simp only [hl] at hlen b1 b2 b3 b4
  have HX : Hid (RowAt w .u64 ao la ca (mag a)) := hx
  clear hx hl
  have HP : Hid (2 ^ (l - 1) ≤ n ∧ n < 2 ^ l ∧ 1 ≤ l) := ⟨b2, b3, by omega⟩
  clear b2 b3
  go_enter Tryz.func157, Tryz.ntmps157
  go_wp2_with (first
   | (go_at_call 137; refine (clone_any ao la ca (mag a) w HX.out (by omega)).mono ?_; rintro e w2 ⟨ao2, l2, c2, rfl, ho2, hb2⟩)
   | (go_at_call 172; refine (hlen w2).mono ?_; rintro e w3 ⟨rfl, hw3⟩; replace hw3 := hw3.symm; subst hw3))
  go_loopw [5, 6] (fun z i wr => ∃ b : Nat, i = .int .i64 ((b : Int) - 1) ∧ b < 64 ∧ 1 ≤ n / 2 ^ b ∧ PowAt w wr z a n b) (fun _ i _ => (intOf i + 1).toNat)
  case atStart =>
   exact ⟨l - 1, by go_num, by omega, (Nat.le_div_iff_mul_le (Nat.pow_pos (by decide))).2 (by have := HP.out.1; omega), ao2, l2, c2, rfl, by rw [show n / 2 ^ (l - 1) = 1 from pow_top HP.out.1 HP.out.2.1 HP.out.2.2, Nat.pow_one]; exact ho2, hb2⟩
  case round =>
   obtain ⟨b, rfl, hb64, hk, ao1, l1, c1, rfl, ho1, hbe1⟩ := hrel
   have HO : Hid (Own w.heap.size wr .u64 68 ao1 l1 c1 (mag (a ^ (n / 2 ^ b))) ∧ Below w.heap.size w wr) := ⟨ho1, hbe1⟩
   clear ho1 hbe1
   rcases b with _ | b
   ·
    go_wp2
    go_ret
    refine ⟨ao1, l1, c1, rfl, ?_, HO.out.2⟩
    have := HO.out.1
    rw [Nat.pow_zero, Nat.div_one] at this; exact this
   ·
    have hcast : (n : Int) / 2 ^ b = ((n / 2 ^ b : Nat) : Int) := by rw [Int.natCast_ediv, Int.natCast_pow]; rfl
    have hand : bits BinOp.and IntKind.i64 ((n : Int) / 2 ^ b) 1 = ((n / 2 ^ b % 2 : Nat) : Int) := by
     rw [hcast]; exact Go.Proofs.and_one _ (Nat.lt_of_le_of_lt (Nat.div_le_self _ _) (by omega))
    have hk' : Hid (1 ≤ n / 2 ^ b) := by
     show _ ≤ _
     rw [Nat.pow_succ, ← Nat.div_div_eq_div_mul] at hk; omega
    have hph := pow_half a n b
    have hl1 : l1 < 4000 := by
     have h1 : n / 2 ^ (b + 1) ≤ n / 2 := by
      rw [Nat.pow_succ, Nat.mul_comm, ← Nat.div_div_eq_div_mul]; exact Nat.div_le_self _ _
     rw [HO.out.1.row.hlen]; exact Nat.lt_of_le_of_lt (pow_len hk h1) h40
    have HL : Hid ((mag (a ^ (n / 2 ^ (b + 1)) * a ^ (n / 2 ^ (b + 1)))).length < 8000) := by
     show _ < _
     have h1 := mag_len_mul (a ^ (n / 2 ^ (b + 1))) (a ^ (n / 2 ^ (b + 1)))
     have h2 := HO.out.1.row.hlen
     omega
    clear hcast
    by_cases hbit : n / 2 ^ b % 2 = 1
    ·
     rw [hbit] at hand hph
     rw [Nat.pow_one] at hph
     have HPH : Hid (a ^ (n / 2 ^ b) = a ^ (n / 2 ^ (b + 1)) * a ^ (n / 2 ^ (b + 1)) * a) := hph
     clear hph hk hbit
     go_wp2_with (first
      | (go_at_call 148; have _t := ho4; refine (times_any ao4 ao l4 c4 la ca _ _ w4 ho4.row ((HX.out.later HO.out.2).later hb4) (by omega) (by omega)).mono ?_; rintro e w5 ⟨ao5, l5, c5, rfl, ho5, hb5⟩)
      | (go_at_call 148; refine (times_any ao1 ao1 l1 c1 l1 c1 _ _ wr HO.out.1.row HO.out.1.row (by omega) (by omega)).mono ?_; rintro e w4 ⟨ao4, l4, c4, rfl, ho4, hb4⟩; have hl4 : l4 < 8000 := (by rw [ho4.row.hlen]; exact HL.out)))
     go_roundw
     case rel => exact ⟨b, rfl, by omega, hk'.out, ao5, l5, c5, rfl, by rw [HPH.out]; exact (ho5.mono (Nat.le_trans HO.out.2.size hb4.size)), (HO.out.2.trans (below_less hb4 HO.out.2.size)).trans (below_less hb5 (Nat.le_trans HO.out.2.size hb4.size))⟩
     case measure => simp [intOf]
    ·
     have hbit0 : n / 2 ^ b % 2 = 0 := by omega
     rw [hbit0] at hand hph
     rw [Nat.pow_zero, Nat.mul_one] at hph
     have HPH : Hid (a ^ (n / 2 ^ b) = a ^ (n / 2 ^ (b + 1)) * a ^ (n / 2 ^ (b + 1))) := hph
     clear hph hk hbit hbit0
     go_wp2_with (first
      | (go_at_call 148; refine (times_any ao1 ao1 l1 c1 l1 c1 _ _ wr HO.out.1.row HO.out.1.row (by omega) (by omega)).mono ?_; rintro e w4 ⟨ao4, l4, c4, rfl, ho4, hb4⟩))
     go_roundw
     case rel => exact ⟨b, rfl, by omega, hk'.out, ao4, l4, c4, rfl, by rw [HPH.out]; exact (ho4.mono HO.out.2.size), HO.out.2.trans (below_less hb4 HO.out.2.size)⟩
     case measure => simp [intOf]
theorem bpow_any (neg : Bool) (ao : Option Addr) (len cap n : Nat) (v : Int) (w : World) (hx : IntAt w neg ao len cap v) (hl : len < 4000) (hn : n ≤ 64) (h40 : (mag (v.natAbs ^ (n / 2))).length < 4000) (h80 : (mag (v.natAbs ^ n)).length < 8000) :
  Calls Tryz.prog 147 #[.agg #[.bool neg, .slice ao len cap], .int .i64 (n : Int)] w fun e w' => NewIntErr w w' e (v ^ n) := by
 obtain ⟨W, hT⟩ := One2.mk' w neg ao len cap
 have hsz := hT.size
 have hR := hx.later hT.below
 have hM : Hid ((if mayB neg (mag v.natAbs) then 0 else 10 : Int) = 0) := hx.may
 have HE : Hid (v ^ n = sgn (neg && decide (n % 2 = 1)) (v.natAbs ^ n)) := sgn_pow hx.sg n
 have HL : Hid ((mag (v.natAbs ^ (n / 2))).length < 4000 ∧ (mag (v.natAbs ^ n)).length < 8000) := ⟨h40, h80⟩
 have hmod : (n : Int).tmod 2 = ((n % 2 : Nat) : Int) := by rw [Int.tmod_eq_emod_of_nonneg (by omega)]; omega
 have hodd : (((n % 2 : Nat) : Int) == 1) = decide (n % 2 = 1) := by
  rcases Nat.mod_two_eq_zero_or_one n with e | e <;> rw [e] <;> rfl
 obtain ⟨k, hk⟩ : ∃ k, n % 2 = k := ⟨_, rfl⟩
 rw [hk] at hmod hodd HE
 obtain ⟨c, hc⟩ : ∃ c, decide (k = 1) = c := ⟨_, rfl⟩
 rw [hc] at hodd HE
 clear hx h40 h80 hk hc
 cases neg
 ·
  simp only [Bool.false_and] at HE
  go_enter Tryz.func147, Tryz.ntmps147
  go_wp2_with (first
   | (go_at_call 79; rw [← hT.eq]; refine (check_at false ao len cap _ _ hR.row (by omega) 0 hM.out).mono ?_; rintro e w1 ⟨rfl, hb1⟩; obtain ⟨p0, p1⟩ := hT.a.later hb1 (by omega); have hs1 := hb1.size)
   | (go_at_call 157; refine (power_any ao len cap n v.natAbs _ (hR.row.later hb1) (by omega) hl HL.out.1).mono ?_; rintro e w2 ⟨ao2, l2, c2, rfl, ho2, hb2⟩; have hlen2 : l2 < 8000 := (by rw [ho2.row.hlen]; exact HL.out.2))
   | (go_at_call 124; refine (signed_any false ao2 l2 c2 _ (by omega)).mono ?_; rintro e w3 ⟨rfl, hb3⟩; obtain ⟨g5, g3, g4⟩ := hT.r.later (bnext hb1 (bnext hb2 hb3)) (by omega)))
  exact bodyPost_ret (v := .tuple #[.agg #[.bool (false && decide (0 < l2)), .slice ao2 l2 c2], .int .i64 0]) (by simp [results, Tryz.results147, go_sem, g3, g4]) rfl
   (NewInt.ret ((ho2.later hb3).store (by omega) _ _) (by omega) HE.out (below_store (bnext hT.below (bnext hb1 (bnext hb2 hb3))) (by omega) _ _)).err
 ·
  simp only [Bool.true_and] at HE
  go_enter Tryz.func147, Tryz.ntmps147
  go_wp2_with (first
   | (go_at_call 79; rw [← hT.eq]; refine (check_at true ao len cap _ _ hR.row (by omega) 0 hM.out).mono ?_; rintro e w1 ⟨rfl, hb1⟩; obtain ⟨p0, p1⟩ := hT.a.later hb1 (by omega); have hs1 := hb1.size)
   | (go_at_call 157; refine (power_any ao len cap n v.natAbs _ (hR.row.later hb1) (by omega) hl HL.out.1).mono ?_; rintro e w2 ⟨ao2, l2, c2, rfl, ho2, hb2⟩; have hlen2 : l2 < 8000 := (by rw [ho2.row.hlen]; exact HL.out.2))
   | (go_at_call 124; refine (signed_any c ao2 l2 c2 _ (by omega)).mono ?_; rintro e w3 ⟨rfl, hb3⟩; obtain ⟨g5, g3, g4⟩ := hT.r.later (bnext hb1 (bnext hb2 hb3)) (by omega)))
  exact bodyPost_ret (v := .tuple #[.agg #[.bool (c && decide (0 < l2)), .slice ao2 l2 c2], .int .i64 0]) (by simp [results, Tryz.results147, go_sem, g3, g4]) rfl
   (NewInt.ret ((ho2.later hb3).store (by omega) _ _) (by omega) HE.out (below_store (bnext hT.below (bnext hb1 (bnext hb2 hb3))) (by omega) _ _)).err
def XVar (Z : World) (r : Nat) (v : Int) : Prop := ∃ n o l c, Boxed Z r n o l c ∧ IntAt Z n o l c v ∧ ∀ j, Z.frozen? ⟨r, j, none⟩ = false
theorem XVar.later {Z Z' : World} {r : Nat} {v : Int} (h : XVar Z r v) (hb : Below Z.heap.size Z Z') : XVar Z' r v := by
 obtain ⟨n, o, l, c, h1, h2, h4⟩ := h
 have hr : r < Z.heap.size := cell_lt h1.1
 exact ⟨n, o, l, c, h1.later hb hr, h2.later hb, fun j => (hb.frozen (p := ⟨r, j, none⟩) hr).trans (h4 j)⟩
structure RPow (w Z : World) (g : Nat) (neg : Bool) (ao : Option Addr) (len cap : Nat) (v x : Int) : Prop where
 ba : Boxed Z w.heap.size neg ao len cap
 ia : IntAt Z neg ao len cap v
 fr : Fresh Z (w.heap.size + 1)
 vx : XVar Z g x
 gw : w.heap.size + 2 ≤ g
 gz : g < Z.heap.size
 bw : Below w.heap.size w Z
theorem RPow.later {w Z Z' : World} {g : Nat} {neg : Bool} {ao : Option Addr} {len cap : Nat} {v x : Int} (h : RPow w Z g neg ao len cap v x) (hb : Below Z.heap.size Z Z') : RPow w Z' g neg ao len cap v x := by
 have h1 := h.gw
 have h2 := h.gz
 exact ⟨h.ba.later hb (by omega), h.ia.later hb, h.fr.later hb (by omega), h.vx.later hb, h1, Nat.lt_of_lt_of_le h2 hb.size, bnext h.bw hb⟩
theorem RPow.put {w Z Z' : World} {g : Nat} {neg n : Bool} {ao o : Option Addr} {len cap l c : Nat} {v x y : Int} (h : RPow w Z g neg ao len cap v x) (hb : Below Z.heap.size Z Z') (hi : IntAt Z' n o l c y) : RPow w ((Z'.setCell ⟨g, 0, none⟩ (.bool n)).setCell ⟨g, 1, none⟩ (.slice o l c)) g neg ao len cap v y := by
 have k := h.later hb
 have h1 := k.gw
 have h2 := k.gz
 obtain ⟨n', o', l', c', hx, _, hf⟩ := k.vx
 exact ⟨boxed_far k.ba (by omega) _ _, ⟨k.ia.sg, k.ia.row.boxed hx _ _⟩, fresh_far k.fr (by omega) _ _, ⟨_, _, _, _, boxed_new hx, ⟨hi.sg, hi.row.boxed hx _ _⟩, fun j => by rw [frozen_far, frozen_far]; exact hf j⟩, h1, by simpa [World.setCell] using h2, below_store k.bw (by omega) _ _⟩
theorem RPow.first {w W w1 : World} {neg n : Bool} {ao o : Option Addr} {len cap l c : Nat} {v x : Int} (hT : One2 w W neg ao len cap) (hx : IntAt W neg ao len cap v) (hb : Below W.heap.size W w1) (hi : IntAt w1 n o l c x) : RPow w (w1.alloc (.cells #[.bool n, .slice o l c] 26)) w1.heap.size neg ao len cap v x := by
 have hA : Below w1.heap.size w1 (w1.alloc (.cells #[.bool n, .slice o l c] 26)) := (Below.refl _ _).alloc (Nat.le_refl _) _
 have hs := hT.size
 have hz := hb.size
 have hWA := bnext hb hA
 exact ⟨hT.a.later hWA (by omega), hx.later hWA, hT.r.later hWA (by omega), ⟨n, o, l, c, ⟨by simp [go_sem], by simp [go_sem]⟩, hi.later hA, fun j => by simp [go_sem]⟩, by omega, by simp, bnext hT.below hWA⟩
theorem RPow.last {w Z : World} {g : Nat} {neg n : Bool} {ao o : Option Addr} {len cap l c : Nat} {v x : Int} (h : RPow w Z g neg ao len cap v x) (hb : Boxed Z g n o l c) (hi : IntAt Z n o l c x) (u1 u2 : Value) : RefInt w ((Z.setCell ⟨w.heap.size + 1, 0, none⟩ u1).setCell ⟨w.heap.size + 1, 1, none⟩ u2) (.returned (.agg #[.bool n, .slice o l c])) x :=
 ⟨_, _, _, _, rfl, ⟨hi.sg, hi.row.kept h.fr _ _⟩, below_store h.bw (by omega) _ _⟩
theorem len_pow (v : Int) (k : Nat) : (mag (v ^ k).natAbs).length ≤ (mag v.natAbs).length * k + 1 := by
 rw [Int.natAbs_pow]; exact mag_len_pow _ _
theorem rpow_any (neg : Bool) (ao : Option Addr) (len cap n : Nat) (v : Int) (w : World) (hx : IntAt w neg ao len cap v) (hl : len ≤ 1000) (hn : n ≤ 64) :
  Calls Tryz.prog 68 #[.agg #[.bool neg, .slice ao len cap], .int .i64 (n : Int)] w fun e w' => RefInt w w' e (v ^ n) := by
 obtain ⟨W, hT⟩ := One2.mk' w neg ao len cap
 have hsz := hT.size
 have hR := hx.later hT.below
 have HLV : Hid ((mag v.natAbs).length ≤ 1000) := by show _ ≤ _; rw [← hx.row.hlen]; exact hl
 clear hx
 go_enter Tryz.func68, Tryz.ntmps68
 go_wp2_with (go_at_call 37; rw [← hT.eq]; refine (rfrom_any 1 _ (by decide) (by decide)).mono ?_; rintro e w1 ⟨n1, o1, l1, c1, rfl, hs1, ho1, hb1⟩; have HF : Hid (RPow w (w1.alloc (.cells #[.bool n1, .slice o1 l1 c1] 26)) w1.heap.size neg ao len cap v 1) := RPow.first hT hR hb1 ⟨hs1, ho1.row⟩; clear hs1 ho1 hb1)
 obtain ⟨g, hg⟩ : ∃ g, w1.heap.size = g := ⟨_, rfl⟩
 rw [hg] at HF
 rw [hg]
 clear hg hR hT
 go_loopw [6] (fun i wr => ∃ k : Nat, k ≤ n ∧ i = .int .i64 k ∧ RPow w wr g neg ao len cap v (v ^ k)) (fun i _ => n - (intOf i).toNat)
 case atStart => exact ⟨0, Nat.zero_le _, rfl, by rw [Int.pow_zero]; exact HF.out⟩
 case round =>
  obtain ⟨k, hk, rfl, hst⟩ := hrel
  have HS : Hid (RPow w wr g neg ao len cap v (v ^ k)) := hst
  obtain ⟨a0, a1⟩ := hst.ba
  obtain ⟨n5, o5, l5, c5, ⟨x0, x1⟩, hi5, hf5⟩ := hst.vx
  have HI : Hid (IntAt wr n5 o5 l5 c5 (v ^ k) ∧ Boxed wr g n5 o5 l5 c5) := ⟨hi5, x0, x1⟩
  have hgz := hst.gz
  obtain ⟨g5, g3, g4⟩ := hst.fr
  have hl5 : l5 ≤ 100000 := by
   rw [hi5.row.hlen]
   refine Nat.le_trans (len_pow v k) ?_
   have h1 : (mag v.natAbs).length * k ≤ 1000 * 64 := Nat.mul_le_mul HLV.out (by omega)
   omega
  clear hst hi5
  by_cases hlt : k < n
  ·
   go_wp2_with (go_at_call 65; refine (rtimes_any n5 neg o5 ao l5 c5 len cap (v ^ k) v _ HI.out.1 HS.out.ia (by omega) (by omega)).mono ?_; rintro e w2 ⟨n6, o6, l6, c6, rfl, hs6, ho6, hb6⟩; have HA : Hid (IntAt w2 n6 o6 l6 c6 (v ^ (k + 1)) ∧ Below wr.heap.size wr w2) := ⟨(by rw [Int.pow_succ]; exact ⟨hs6, ho6.row⟩), hb6⟩; clear x0 x1; obtain ⟨x0, x1⟩ := HI.out.2.later hb6 hgz; have hfz : ∀ j, w2.frozen? ⟨g, j, none⟩ = false := (fun j => (hb6.frozen (p := ⟨g, j, none⟩) hgz).trans (hf5 j)); clear hs6 ho6)
   go_roundw
   case rel => exact ⟨k + 1, by omega, by go_num, HS.out.put HA.out.2 HA.out.1⟩
   case measure => simp [intOf]; omega
  ·
   obtain rfl : k = n := by omega
   go_wp2
   exact bodyPost_ret (v := .agg #[.bool n5, .slice o5 l5 c5]) (by simp [results, Tryz.results68, go_sem, g3, g4]) rfl
    (HS.out.last HI.out.2 HI.out.1 _ _)
end Go.Proofs.YtbkaiifplahhpaaGreatDoor
namespace Go.Proofs.YtbkaiifplahhpaaGreatDoor
open Go.RowKit
theorem addQ_le {a b c d : Rat} (h1 : a ≤ b) (h2 : c ≤ d) : a + c ≤ b + d := Rat.le_trans (Rat.add_le_add_right.2 h1) (Rat.add_le_add_left.2 h2)
theorem sum_has {a b a' b' x y : Rat} (h1 : hasQ a b x = true) (h2 : hasQ a' b' y = true) : hasQ (a + a') (b + b') (x + y) = true := by
 rw [hasQ_iff] at *
 exact ⟨addQ_le h1.1 h2.1, addQ_le h1.2 h2.2⟩
theorem mulQ_anti {a b c : Rat} (h : a ≤ b) (hc : c ≤ 0) : b * c ≤ a * c := by
 have h0 : (0 : Rat) ≤ -c := by
  have := Rat.neg_le_neg hc
  rwa [Rat.neg_zero] at this
 have h1 := Rat.mul_le_mul_of_nonneg_right h h0
 rw [Rat.mul_neg, Rat.mul_neg] at h1
 have h2 := Rat.neg_le_neg h1
 rwa [Rat.neg_neg, Rat.neg_neg] at h2
theorem le_mulQ {a b x y c : Rat} (h1 : a ≤ x) (h2 : x ≤ b) (ha : c ≤ a * y) (hb : c ≤ b * y) : c ≤ x * y := by
 rcases Rat.le_total (a := 0) (b := y) with h | h
 ·
  exact Rat.le_trans ha (Rat.mul_le_mul_of_nonneg_right h1 h)
 ·
  exact Rat.le_trans hb (mulQ_anti h2 h)
theorem mulQ_le {a b x y c : Rat} (h1 : a ≤ x) (h2 : x ≤ b) (ha : a * y ≤ c) (hb : b * y ≤ c) : x * y ≤ c := by
 rcases Rat.le_total (a := 0) (b := y) with h | h
 ·
  exact Rat.le_trans (Rat.mul_le_mul_of_nonneg_right h2 h) hb
 ·
  exact Rat.le_trans (mulQ_anti h1 h) ha
theorem loK_le {x : Nat → Rat} : ∀ (k i : Nat), i < k → loK x k ≤ x i
 | k + 1, i, h => by
  have h1 : loK x (k + 1) ≤ loK x k ∧ loK x (k + 1) ≤ x k := le_minQ.1 Rat.le_refl
  by_cases e : i = k
  ·
   rw [e]; exact h1.2
  ·
   exact Rat.le_trans h1.1 (loK_le k i (by omega))
theorem le_hiK {x : Nat → Rat} : ∀ (k i : Nat), i < k → x i ≤ hiK x k
 | k + 1, i, h => by
  have h1 : hiK x k ≤ hiK x (k + 1) ∧ x k ≤ hiK x (k + 1) := maxQ_le.1 Rat.le_refl
  by_cases e : i = k
  ·
   rw [e]; exact h1.2
  ·
   exact Rat.le_trans (le_hiK k i (by omega)) h1.1
theorem le_loK {x : Nat → Rat} {c : Rat} (h : ∀ i, i < 4 → c ≤ x i) : ∀ k, k ≤ 4 → c ≤ loK x k
 | 0, _ => h 0 (by decide)
 | k + 1, hk => le_minQ.2 ⟨le_loK h k (by omega), h k (by omega)⟩
theorem hiK_le {x : Nat → Rat} {c : Rat} (h : ∀ i, i < 4 → x i ≤ c) : ∀ k, k ≤ 4 → hiK x k ≤ c
 | 0, _ => h 0 (by decide)
 | k + 1, hk => maxQ_le.2 ⟨hiK_le h k (by omega), h k (by omega)⟩
theorem prod_has {a b a' b' x y : Rat} (h1 : hasQ a b x = true) (h2 : hasQ a' b' y = true) : hasQ (loK (prods a b a' b') 4) (hiK (prods a b a' b') 4) (x * y) = true := by
 rw [hasQ_iff] at *
 have l0 : loK (prods a b a' b') 4 ≤ a * a' := loK_le 4 0 (by decide)
 have l1 : loK (prods a b a' b') 4 ≤ a * b' := loK_le 4 1 (by decide)
 have l2 : loK (prods a b a' b') 4 ≤ b * a' := loK_le 4 2 (by decide)
 have l3 : loK (prods a b a' b') 4 ≤ b * b' := loK_le 4 3 (by decide)
 have g0 : a * a' ≤ hiK (prods a b a' b') 4 := le_hiK 4 0 (by decide)
 have g1 : a * b' ≤ hiK (prods a b a' b') 4 := le_hiK 4 1 (by decide)
 have g2 : b * a' ≤ hiK (prods a b a' b') 4 := le_hiK 4 2 (by decide)
 have g3 : b * b' ≤ hiK (prods a b a' b') 4 := le_hiK 4 3 (by decide)
 rw [Rat.mul_comm] at l0 l1 l2 l3 g0 g1 g2 g3
 refine ⟨le_mulQ h1.1 h1.2 ?_ ?_, mulQ_le h1.1 h1.2 ?_ ?_⟩
 ·
  rw [Rat.mul_comm]; exact le_mulQ h2.1 h2.2 l0 l1
 ·
  rw [Rat.mul_comm]; exact le_mulQ h2.1 h2.2 l2 l3
 ·
  rw [Rat.mul_comm]; exact mulQ_le h2.1 h2.2 g0 g1
 ·
  rw [Rat.mul_comm]; exact mulQ_le h2.1 h2.2 g2 g3
theorem hasQ_self {a b : Rat} (h : cmpQ a b ≤ 0) : hasQ a b a = true ∧ hasQ a b b = true := by
 rw [hasQ_iff, hasQ_iff]
 exact ⟨⟨Rat.le_refl, cmpQ_le.1 h⟩, cmpQ_le.1 h, Rat.le_refl⟩
theorem prod_within {a b a' b' u v : Rat} (hu : hasQ a b u = true) (hv : hasQ a b v = true) (h' : cmpQ a' b' ≤ 0) :
  hasQ (loK (prods a b a' b') 4) (hiK (prods a b a' b') 4) (loK (prods u v a' b') 4) = true ∧ hasQ (loK (prods a b a' b') 4) (hiK (prods a b a' b') 4) (hiK (prods u v a' b') 4) = true := by
 have hs := hasQ_self h'
 have h0 := hasQ_iff.1 (prod_has hu hs.1)
 have h1 := hasQ_iff.1 (prod_has hu hs.2)
 have h2 := hasQ_iff.1 (prod_has hv hs.1)
 have h3 := hasQ_iff.1 (prod_has hv hs.2)
 have hi : ∀ i, i < 4 → loK (prods a b a' b') 4 ≤ prods u v a' b' i ∧ prods u v a' b' i ≤ hiK (prods a b a' b') 4 := fun i hi => by
  obtain rfl | rfl | rfl | rfl : i = 0 ∨ i = 1 ∨ i = 2 ∨ i = 3 := by omega
  ·
   exact h0
  ·
   exact h1
  ·
   exact h2
  ·
   exact h3
 rw [hasQ_iff, hasQ_iff]
 exact ⟨⟨le_loK (fun i h => (hi i h).1) 4 (by decide), Rat.le_trans (loK_le 4 0 (by decide)) (hi 0 (by decide)).2⟩, Rat.le_trans (hi 0 (by decide)).1 (le_hiK 4 0 (by decide)), hiK_le (fun i h => (hi i h).2) 4 (by decide)⟩
theorem powQ_nonneg {x : Rat} (h : 0 ≤ x) : ∀ n : Nat, 0 ≤ x ^ n
 | 0 => by rw [Rat.pow_zero]; decide
 | n + 1 => by rw [Rat.pow_succ]; exact Rat.mul_nonneg (powQ_nonneg h n) h
theorem powQ_mono {a x : Rat} (h : 0 ≤ a) (hx : a ≤ x) : ∀ n : Nat, a ^ n ≤ x ^ n
 | 0 => by rw [Rat.pow_zero, Rat.pow_zero]; exact Rat.le_refl
 | n + 1 => by
  rw [Rat.pow_succ, Rat.pow_succ]
  exact Rat.le_trans (Rat.mul_le_mul_of_nonneg_right (powQ_mono h hx n) h) (Rat.mul_le_mul_of_nonneg_left hx (powQ_nonneg (Rat.le_trans h hx) n))
theorem powQ_even (x : Rat) : ∀ k : Nat, x ^ (2 * k) = (x * x) ^ k
 | 0 => by rw [Nat.mul_zero, Rat.pow_zero, Rat.pow_zero]
 | k + 1 => by
  rw [show 2 * (k + 1) = 2 * k + 1 + 1 by omega, Rat.pow_succ, Rat.pow_succ, Rat.pow_succ, powQ_even x k, Rat.mul_assoc]
theorem sqQ_nonneg (x : Rat) : 0 ≤ x * x := by
 rcases Rat.le_total (a := 0) (b := x) with h | h
 ·
  exact Rat.mul_nonneg h h
 ·
  have := mulQ_anti h h
  rwa [Rat.zero_mul] at this
theorem sqQ_mono {a x : Rat} (h : 0 ≤ a) (hx : a ≤ x) : a * a ≤ x * x :=
 Rat.le_trans (Rat.mul_le_mul_of_nonneg_right hx h) (Rat.mul_le_mul_of_nonneg_left hx (Rat.le_trans h hx))
theorem sqQ_anti {a x : Rat} (h : x ≤ 0) (hx : a ≤ x) : x * x ≤ a * a := by
 have h1 := mulQ_anti hx h
 have h2 := mulQ_anti hx (Rat.le_trans hx h)
 rw [Rat.mul_comm] at h2
 exact Rat.le_trans h1 h2
theorem powQ_odd {a x : Rat} (hx : a ≤ x) (k : Nat) : a ^ (2 * k + 1) ≤ x ^ (2 * k + 1) := by
 rw [Rat.pow_succ, Rat.pow_succ, powQ_even, powQ_even]
 rcases Rat.le_total (a := 0) (b := a) with h | h
 ·
  exact Rat.le_trans (Rat.mul_le_mul_of_nonneg_right (powQ_mono (sqQ_nonneg a) (sqQ_mono h hx) k) h) (Rat.mul_le_mul_of_nonneg_left hx (powQ_nonneg (sqQ_nonneg x) k))
 ·
  rcases Rat.le_total (a := 0) (b := x) with h2 | h2
  ·
   have h3 := Rat.mul_le_mul_of_nonneg_left h (powQ_nonneg (sqQ_nonneg a) k)
   rw [Rat.mul_zero] at h3
   exact Rat.le_trans h3 (Rat.mul_nonneg (powQ_nonneg (sqQ_nonneg x) k) h2)
  ·
   exact Rat.le_trans (Rat.mul_le_mul_of_nonneg_left hx (powQ_nonneg (sqQ_nonneg a) k)) (mulQ_anti (powQ_mono (sqQ_nonneg x) (sqQ_anti h2 hx) k) h2)
def pwLo (a b : Rat) (n : Nat) : Rat := if n = 0 ∨ n % 2 = 1 ∨ 0 ≤ a.num then a ^ n else if b.num ≤ 0 then b ^ n else 0
def pwHi (a b : Rat) (n : Nat) : Rat := if n = 0 ∨ n % 2 = 1 ∨ 0 ≤ a.num then b ^ n else if b.num ≤ 0 then a ^ n else maxQ (a ^ n) (b ^ n)
theorem numQ_nonpos {b : Rat} (h : b.num ≤ 0) : b ≤ 0 := by
 rcases Rat.le_total (a := 0) (b := b) with h2 | h2
 ·
  have h3 := Rat.num_nonneg.2 h2
  have h4 : b.num = 0 := by omega
  rw [Rat.num_eq_zero.1 h4]; exact Rat.le_refl
 ·
  exact h2
theorem numQ_nonneg {a : Rat} (h : 0 ≤ a.num) : 0 ≤ a := Rat.num_nonneg.1 h
theorem pow_has {a b x : Rat} (h : hasQ a b x = true) (n : Nat) : hasQ (pwLo a b n) (pwHi a b n) (x ^ n) = true := by
 rw [hasQ_iff] at *
 obtain ⟨h1, h2⟩ := h
 unfold pwLo pwHi
 by_cases c1 : n = 0 ∨ n % 2 = 1 ∨ 0 ≤ a.num
 ·
  rw [if_pos c1, if_pos c1]
  rcases c1 with rfl | c1 | c1
  ·
   rw [Rat.pow_zero, Rat.pow_zero, Rat.pow_zero]; exact ⟨Rat.le_refl, Rat.le_refl⟩
  ·
   obtain ⟨k, rfl⟩ : ∃ k, n = 2 * k + 1 := ⟨n / 2, by omega⟩
   exact ⟨powQ_odd h1 k, powQ_odd h2 k⟩
  ·
   have ha := numQ_nonneg c1
   exact ⟨powQ_mono ha h1 n, powQ_mono (Rat.le_trans ha h1) h2 n⟩
 ·
  rw [if_neg c1, if_neg c1]
  obtain ⟨k, rfl⟩ : ∃ k, n = 2 * k := ⟨n / 2, by omega⟩
  rw [powQ_even x k, powQ_even a k, powQ_even b k]
  by_cases c2 : b.num ≤ 0
  ·
   rw [if_pos c2, if_pos c2]
   have hb := numQ_nonpos c2
   exact ⟨powQ_mono (sqQ_nonneg b) (sqQ_anti hb h2) k, powQ_mono (sqQ_nonneg x) (sqQ_anti (Rat.le_trans h2 hb) h1) k⟩
  ·
   rw [if_neg c2, if_neg c2]
   refine ⟨powQ_nonneg (sqQ_nonneg x) k, ?_⟩
   have hm := maxQ_le.1 (Rat.le_refl (a := maxQ ((a * a) ^ k) ((b * b) ^ k)))
   rcases Rat.le_total (a := 0) (b := x) with h3 | h3
   ·
    exact Rat.le_trans (powQ_mono (sqQ_nonneg x) (sqQ_mono h3 h2) k) hm.2
   ·
    exact Rat.le_trans (powQ_mono (sqQ_nonneg x) (sqQ_anti h3 h1) k) hm.1
theorem Sz.pown {b : Rat} {m : Nat} (hb : Sz b 8) (hm : m ≤ 64) : Sz (b ^ m) 1000 := by
 have h1 := len_pow b.num m
 have h2 := len_pow (b.den : Int) m
 rw [← Int.natCast_pow, Int.natAbs_natCast, Int.natAbs_natCast] at h2
 have h3 : (mag b.num.natAbs).length * m ≤ 8 * 64 := Nat.mul_le_mul hb.1 hm
 have h4 : (mag b.den).length * m ≤ 8 * 64 := Nat.mul_le_mul hb.2 hm
 exact ⟨by rw [Rat.num_pow]; omega, by rw [Rat.den_pow]; omega⟩
theorem Sz.powk {b : Rat} {m : Nat} (hb : Sz b 100) (hm : m ≤ 6) : Sz (b ^ m) 1000 := by
 have h1 := len_pow b.num m
 have h2 := len_pow (b.den : Int) m
 rw [← Int.natCast_pow, Int.natAbs_natCast, Int.natAbs_natCast] at h2
 have h3 : (mag b.num.natAbs).length * m ≤ 100 * 6 := Nat.mul_le_mul hb.1 hm
 have h4 : (mag b.den).length * m ≤ 100 * 6 := Nat.mul_le_mul hb.2 hm
 exact ⟨by rw [Rat.num_pow]; omega, by rw [Rat.den_pow]; omega⟩
theorem prods_sz2 {a b a' b' : Rat} (ha : Sz a 100) (hb : Sz b 100) (ha' : Sz a' 100) (hb' : Sz b' 100) (i : Nat) (hi : i < 4) : Sz (prods a b a' b' i) 1000 := by
 obtain rfl | rfl | rfl | rfl : i = 0 ∨ i = 1 ∨ i = 2 ∨ i = 3 := by omega
 ·
  exact (ha.mul ha').mono (by decide)
 ·
  exact (ha.mul hb').mono (by decide)
 ·
  exact (hb.mul ha').mono (by decide)
 ·
  exact (hb.mul hb').mono (by decide)
theorem prods_sz {a b a' b' : Rat} (ha : Sz a 4) (hb : Sz b 4) (ha' : Sz a' 4) (hb' : Sz b' 4) (i : Nat) (hi : i < 4) : Sz (prods a b a' b' i) 1000 :=
 prods_sz2 (ha.mono (by decide)) (hb.mono (by decide)) (ha'.mono (by decide)) (hb'.mono (by decide)) i hi
def ElemsN (w : World) (lo : Option Addr) (n : Nat) : Prop := ∀ i, i < n → ∀ b off, lo = some ⟨b, off, none⟩ → ∃ N : Int, w.cell? ⟨b, off + i * 16 + 15, none⟩ = some (.int .i64 N) ∧ -9223372036854775808 ≤ N ∧ N ≤ 9223372036854775807
theorem sz_zero : Sz (0 : Rat) 1 := by unfold Sz; decide
theorem pw_sz {a b : Rat} {n : Nat} (ha : Sz a 8) (hb : Sz b 8) (hn : n ≤ 64) : Sz (pwLo a b n) 1000 ∧ Sz (pwHi a b n) 1000 := by
 unfold pwLo pwHi
 by_cases c1 : n = 0 ∨ n % 2 = 1 ∨ 0 ≤ a.num
 ·
  rw [if_pos c1, if_pos c1]; exact ⟨ha.pown hn, hb.pown hn⟩
 ·
  rw [if_neg c1, if_neg c1]
  by_cases c2 : b.num ≤ 0
  ·
   rw [if_pos c2, if_pos c2]; exact ⟨hb.pown hn, ha.pown hn⟩
  ·
   rw [if_neg c2, if_neg c2]; exact ⟨sz_zero.mono (by decide), (ha.pown hn).max (hb.pown hn)⟩
end Go.Proofs.YtbkaiifplahhpaaGreatDoor
namespace Go.Proofs.YtbkaiifplahhpaaGreatDoor
open Go.RowKit
theorem qden_any (na : Bool) (ao po : Option Addr) (la ca lp cp : Nat) (w : World) (hl : lp ≤ 1073741824) :
  Calls Tryz.prog 66 #[.agg #[.bool na, .slice ao la ca, .slice po lp cp]] w fun e w' => e = .returned (.agg #[.bool false, .slice po lp cp]) ∧ Below w.heap.size w w' := by
 obtain ⟨W, hW, hb, hsz, p0, p1, p2, g5, g3, g4⟩ : ∃ W, W = (w.alloc (.cells #[.bool na, .slice ao la ca, .slice po lp cp] 28)).alloc (.cells #[.bool false, .slice none 0 0] 26) ∧ Below w.heap.size w W ∧ W.heap.size = w.heap.size + 2 ∧ W.cell? ⟨w.heap.size, 0, none⟩ = some (.bool na) ∧ W.cell? ⟨w.heap.size, 1, none⟩ = some (.slice ao la ca) ∧ W.cell? ⟨w.heap.size, 2, none⟩ = some (.slice po lp cp) ∧ Fresh W (w.heap.size + 1) :=
  ⟨_, rfl, ((Below.refl _ _).alloc (Nat.le_refl _) _).alloc (by simp) _, by simp, by simp [go_sem], by simp [go_sem], by simp [go_sem], ⟨fun j => by simp [go_sem], by simp [go_sem], by simp [go_sem]⟩⟩
 have HF : Hid (Fresh W (w.heap.size + 1)) := ⟨g5, g3, g4⟩
 have hcon : Calls Tryz.prog 69 #[.bool false, .slice po lp cp] W fun e w' => e = .returned (.agg #[.bool false, .slice po lp cp]) ∧ Below W.heap.size W w' := made_any false po lp cp W (by omega)
 clear p0 p1 p2 g5 g3 g4
 go_enter Tryz.func66, Tryz.ntmps66
 go_wp2_with (go_at_call 69; rw [← hW]; refine hcon.mono ?_; rintro e w1 ⟨rfl, hb1⟩; obtain ⟨g5, g3, g4⟩ := HF.out.later hb1 (by omega))
 exact bodyPost_ret (v := .agg #[.bool false, .slice po lp cp]) (by simp [results, Tryz.results66, go_sem, g3, g4]) rfl
  ⟨rfl, below_store (bnext hb hb1) (by omega) _ _⟩
theorem made_sign {v : Int} {g l : Nat} {na : Bool} (hg : 0 < g) (hd : (g : Int) ∣ v) (hs : na = sgB v) (hl : l = (mag (v / (g : Int)).natAbs).length) : (na && decide (0 < l)) = sgB (v / (g : Int)) := by
 obtain ⟨k, rfl⟩ := hd
 have e : (g : Int) * k / (g : Int) = k := Int.mul_ediv_cancel_left _ (by omega)
 rw [e] at hl ⊢
 subst hs
 unfold sgB
 rcases Int.lt_trichotomy k 0 with h | h | h
 ·
  have h1 : (g : Int) * k < 0 := Int.mul_neg_of_pos_of_neg (by omega) h
  have h2 : 0 < l := by rw [hl]; exact mag_len_pos.2 (by omega)
  rw [decide_eq_true h1, decide_eq_true h2, decide_eq_true h]; rfl
 ·
  subst h; simp
 ·
  have h1 : ¬ (g : Int) * k < 0 := by have := Int.mul_pos (show (0 : Int) < g by omega) h; omega
  rw [decide_eq_false h1, decide_eq_false (show ¬ k < 0 by omega)]; rfl
theorem qmake_any (na : Bool) (ao do' : Option Addr) (la ca ld cd : Nat) (v : Int) (d : Nat) (w : World) (hx : IntAt w na ao la ca v) (hy : RowAt w .u64 do' ld cd (mag d)) (h0 : d ≠ 0) (hl : la ≤ 16777216) (hl' : ld ≤ 16777216) (r : Rat) (hr : r = Rat.normalize v d h0) :
  Calls Tryz.prog 63 #[.agg #[.bool na, .slice ao la ca], .slice do' ld cd] w fun e w' => SomeR w w' e r := by
 obtain ⟨W, hT⟩ := IR2.mk' w na ao la ca
 have hsz := hT.size
 obtain ⟨g, hg⟩ : ∃ g, Nat.gcd v.natAbs d = g := ⟨_, rfl⟩
 have hg0 : 0 < g := by rw [← hg]; exact Nat.gcd_pos_of_pos_right _ (by omega)
 have HD : Hid ((g : Int) ∣ v) := hg ▸ gcd_dvd_abs v d
 have HE : Hid (r.num = v / (g : Int) ∧ r.den = d / g ∧ (v / (g : Int)).natAbs = v.natAbs / g) := by
  have h1 := rmake_parts (n := v) h0
  rw [hg, ← hr] at h1
  exact ⟨h1.1, h1.2, idiv_abs HD.out⟩
 have HX : Hid (IntAt W na ao la ca v ∧ RowAt W .u64 do' ld cd (mag d)) := ⟨hx.later hT.below, hy.later hT.below⟩
 have hgcd : Calls Tryz.prog 73 #[.slice ao la ca, .slice do' ld cd] W fun e w' => ∃ go lg cg, e = .returned (.slice go lg cg) ∧ RowAt w' .u64 go lg cg (mag g) ∧ lg ≤ 16777216 ∧ Below W.heap.size W w' := hg ▸ ngcd_any ao do' la ca ld cd v.natAbs d W HX.out.1.row HX.out.2 hl hl'
 clear hx hy hr hg
 go_enter Tryz.func63, Tryz.ntmps63
 go_wp2_with (first
  | (go_at_call 73; rw [← hT.eq]; refine hgcd.mono ?_; rintro e w1 ⟨go, lg, cg, rfl, hg1, hlg, hb1⟩; obtain ⟨p0, p1⟩ := hT.a.later hb1 (by omega); have H1 : Hid (RowAt w1 .u64 go lg cg (mag g)) := hg1; clear hg1)
  | (go_at_call 99; have _t := H2; refine (ndivide_any do' go ld cd lg cg d g _ (HX.out.2.later hb2) (H2.out.1) hl' hlg hg0).mono ?_; rintro e w3 ⟨ko, lk, ck, ro, lr, cr, rfl, hk3, _, hb3'⟩; have hb3 := bnext hb2 hb3'; have H3 : Hid (RowAt w3 .u64 mo lm cm (mag (v / (g : Int)).natAbs) ∧ RowAt w3 .u64 ko lk ck (mag r.den)) := ⟨H2.out.2.later hb3', (by rw [HE.out.2.1]; exact hk3)⟩; clear hk3 hb3' p0 p1; obtain ⟨p0, p1⟩ := hT.a.later hb3 (by omega))
  | (go_at_call 99; refine (ndivide_any ao go la ca lg cg v.natAbs g _ (HX.out.1.row.later hb1) H1.out hl hlg hg0).mono ?_; rintro e w2 ⟨mo, lm, cm, ro2, lr2, cr2, rfl, hm2, _, hb2'⟩; have hb2 := bnext hb1 hb2'; have H2 : Hid (RowAt w2 .u64 go lg cg (mag g) ∧ RowAt w2 .u64 mo lm cm (mag (v / (g : Int)).natAbs)) := ⟨H1.out.later hb2', (by rw [HE.out.2.2]; exact hm2)⟩; have hlm : lm ≤ 16777216 := (by rw [hm2.hlen]; have q1 := div_len v.natAbs g; have q2 := HX.out.1.row.hlen; omega); clear hm2 hb2' p0 p1; obtain ⟨p0, p1⟩ := hT.a.later hb2 (by omega))
  | (go_at_call 69; refine (made_any na mo lm cm _ (by omega)).mono ?_; rintro e w4 ⟨rfl, hb4'⟩; have H4 : Hid (RowAt w4 .u64 mo lm cm (mag (v / (g : Int)).natAbs) ∧ RowAt w4 .u64 ko lk ck (mag r.den) ∧ Below W.heap.size W w4 ∧ (na && decide (0 < lm)) = sgB (v / (g : Int))) := ⟨H3.out.1.later hb4', H3.out.2.later hb4', bnext hb3 hb4', made_sign hg0 HD.out HX.out.1.sg H3.out.1.hlen⟩; clear hb4' p0 p1; obtain ⟨k5, k2, k3, k4⟩ := hT.r.later H4.out.2.2.1 (by omega); obtain ⟨sg, hsg⟩ : ∃ sg, (na && decide (0 < lm)) = sg := ⟨_, rfl⟩; have HSG : Hid (sg = sgB (v / (g : Int))) := hsg.symm.trans H4.out.2.2.2; rw [hsg]; clear hsg))
 exact bodyPost_ret (v := .agg #[.bool sg, .slice mo lm cm, .slice ko lk ck]) (by simp [results, Tryz.results63, go_sem, k2, k3, k4]) rfl
  ⟨_, _, _, _, _, _, _, rfl, rat_kept ⟨⟨by rw [HE.out.1]; exact HSG.out, by rw [HE.out.1]; exact H4.out.1⟩, H4.out.2.1⟩ ⟨k2, k3, k4⟩, below_store3 (bnext hT.below H4.out.2.2.1) (by omega) _ _ _⟩
theorem qtimes_any (na nb : Bool) (ao po bo qo : Option Addr) (la ca lp cp lb cb lq cq : Nat) (a b : Rat) (w : World) (hx : RatAt w na ao la ca po lp cp a) (hy : RatAt w nb bo lb cb qo lq cq b) (ha : Sz a 1000) (hb : Sz b 1000) :
  Calls Tryz.prog 29 #[.agg #[.bool na, .slice ao la ca, .slice po lp cp], .agg #[.bool nb, .slice bo lb cb, .slice qo lq cq]] w fun e w' => SomeR w w' e (a * b) := by
 obtain ⟨W, hT⟩ := RTwo3.mk' w na nb ao po bo qo la ca lp cp lb cb lq cq
 have hsz := hT.size
 have HX : Hid (RatAt W na ao la ca po lp cp a ∧ RatAt W nb bo lb cb qo lq cq b) := ⟨hx.later hT.below, hy.later hT.below⟩
 have hla : la ≤ 1000 := (hx.len ha).1
 have hlp : lp ≤ 1000 := (hx.len ha).2
 have hlb : lb ≤ 1000 := (hy.len hb).1
 have hlq : lq ≤ 1000 := (hy.len hb).2
 have HS : Hid (Sz a 1000 ∧ Sz b 1000) := ⟨ha, hb⟩
 have KW : Hid (∀ w' : World, Below W.heap.size W w' → w'.cell? ⟨w.heap.size, 0, none⟩ = some (.bool na) ∧ w'.cell? ⟨w.heap.size, 1, none⟩ = some (.slice ao la ca) ∧ w'.cell? ⟨w.heap.size, 2, none⟩ = some (.slice po lp cp) ∧ w'.cell? ⟨w.heap.size + 1, 0, none⟩ = some (.bool nb) ∧ w'.cell? ⟨w.heap.size + 1, 1, none⟩ = some (.slice bo lb cb) ∧ w'.cell? ⟨w.heap.size + 1, 2, none⟩ = some (.slice qo lq cq)) := fun w' h => ⟨(h.cell (p := ⟨w.heap.size, 0, none⟩) (by show w.heap.size < _; omega)).trans hT.a.1, (h.cell (p := ⟨w.heap.size, 1, none⟩) (by show w.heap.size < _; omega)).trans hT.a.2.1, (h.cell (p := ⟨w.heap.size, 2, none⟩) (by show w.heap.size < _; omega)).trans hT.a.2.2, (h.cell (p := ⟨w.heap.size + 1, 0, none⟩) (by show w.heap.size + 1 < _; omega)).trans hT.b.1, (h.cell (p := ⟨w.heap.size + 1, 1, none⟩) (by show w.heap.size + 1 < _; omega)).trans hT.b.2.1, (h.cell (p := ⟨w.heap.size + 1, 2, none⟩) (by show w.heap.size + 1 < _; omega)).trans hT.b.2.2⟩
 have KS : Hid (∀ X : World, Below W.heap.size W X → ∀ x y z, (fun w' : World => w'.cell? ⟨w.heap.size, 0, none⟩ = some (.bool na) ∧ w'.cell? ⟨w.heap.size, 1, none⟩ = some (.slice ao la ca) ∧ w'.cell? ⟨w.heap.size, 2, none⟩ = some (.slice po lp cp) ∧ w'.cell? ⟨w.heap.size + 1, 0, none⟩ = some (.bool nb) ∧ w'.cell? ⟨w.heap.size + 1, 1, none⟩ = some (.slice bo lb cb) ∧ w'.cell? ⟨w.heap.size + 1, 2, none⟩ = some (.slice qo lq cq)) (((X.setCell ⟨w.heap.size + 1 + 1, 0, none⟩ x).setCell ⟨w.heap.size + 1 + 1, 1, none⟩ y).setCell ⟨w.heap.size + 1 + 1, 2, none⟩ z)) := fun X h x y z => by
  obtain ⟨h0, h1, h2, h3, h4, h5⟩ := KW.out X h
  (try dsimp only)
  rw [cell_off (by omega), cell_off (by omega), cell_off (by omega), cell_off (by omega), cell_off (by omega), cell_off (by omega), cell_off (by omega), cell_off (by omega), cell_off (by omega), cell_off (by omega), cell_off (by omega), cell_off (by omega), cell_off (by omega), cell_off (by omega), cell_off (by omega), cell_off (by omega), cell_off (by omega), cell_off (by omega)]
  exact ⟨h0, h1, h2, h3, h4, h5⟩
 have HF : Hid (Fresh3 W (w.heap.size + 1 + 1) ∧ Below w.heap.size w W) := ⟨hT.r, hT.below⟩
 have HL : Hid ((mag (a.num * (b.den : Int)).natAbs).length ≤ 3000 ∧ (mag (b.num * (a.den : Int)).natAbs).length ≤ 3000 ∧ (mag (a.num * (b.den : Int) + b.num * (a.den : Int)).natAbs).length ≤ 7000 ∧ (mag (a.den * b.den)).length ≤ 3000 ∧ (mag (a.num * b.num).natAbs).length ≤ 3000) := by
  have h1 := add_len (a.num * (b.den : Int)) (b.num * (a.den : Int))
  have h2 := mul_len a.num (b.den : Int)
  have h3 := mul_len b.num (a.den : Int)
  have h4 := mag_len_mul a.den b.den
  have h5 := mul_len a.num b.num
  rw [Int.natAbs_natCast] at h2 h3
  have := ha.1; have := ha.2; have := hb.1; have := hb.2
  refine ⟨?_, ?_, ?_, ?_, ?_⟩ <;> omega
 have h0 : a.den * b.den ≠ 0 := Nat.mul_ne_zero a.den_nz b.den_nz
 clear hx hy ha hb
 go_enter Tryz.func29, Tryz.ntmps29
 go_upto_region 1 with fail
 rw [← hT.eq]
 clear hT
 have hzU : W.heap.size ≤ W.drew.heap.size := Nat.le_refl _
 have S0 : Step8 0 := ⟨trivial⟩
 go_region_held3 (fun w' => (w'.cell? ⟨w.heap.size, 0, none⟩ = some (.bool na) ∧ w'.cell? ⟨w.heap.size, 1, none⟩ = some (.slice ao la ca) ∧ w'.cell? ⟨w.heap.size, 2, none⟩ = some (.slice po lp cp) ∧ w'.cell? ⟨w.heap.size + 1, 0, none⟩ = some (.bool nb) ∧ w'.cell? ⟨w.heap.size + 1, 1, none⟩ = some (.slice bo lb cb) ∧ w'.cell? ⟨w.heap.size + 1, 2, none⟩ = some (.slice qo lq cq)))
  (with_reducible (first | exact KS.out _ hbF3 _ _ _ | exact KW.out _ (Below.refl _ _).drew | exact KW.out _ (by assumption) | (refine KW.out _ ?_; (repeat (first | refine below_alloc ?_ (Nat.le_refl _) | refine Below.drew ?_ | refine below_set ?_ (by omega))); (first | exact hbF3 | exact hbF2 | exact hbF1 | exact Below.refl _ _))))
  (first
   | (have _t := S0; go_at_call 65; refine with_held (S := fun w9 => Below W.heap.size W w9) (by show Below _ _ _; with_reducible ((repeat (first | refine below_alloc ?_ (Nat.le_refl _) | refine Below.drew ?_ | refine below_set ?_ (by omega))); (first | exact hbF3 | exact hbF2 | exact hbF1 | exact Below.refl _ _))) (fun hS => ?_); refine (rtimes_any na nb ao bo la ca lb cb a.num b.num _ (HX.out.1.num.later hS) (HX.out.2.num.later hS) (by omega) (by omega)).mono ?_; rintro e f1 ⟨n1, o1, l1, c1, rfl, hs, ho, hb⟩; have H1 : Hid (IntAt f1 n1 o1 l1 c1 (a.num * b.num)) := ho.int hs; have hl1 : l1 ≤ 3000 := (by rw [ho.row.hlen]; exact HL.out.2.2.2.2); clear hs ho; have hbF1 : Below W.heap.size W f1 := bnext hS hb; have hzF1 := hbF1.size; clear hS hb S0; have S1 : Step8 1 := ⟨trivial⟩)
   | (have _t := S1; go_at_call 67; refine with_held (S := fun w9 => Below W.heap.size W w9) (by show Below _ _ _; with_reducible ((repeat (first | refine below_alloc ?_ (Nat.le_refl _) | refine Below.drew ?_ | refine below_set ?_ (by omega))); (first | exact hbF3 | exact hbF2 | exact hbF1 | exact Below.refl _ _))) (fun hS => ?_); refine with_held (S := fun w9 => Below f1.heap.size f1 w9) (by show Below _ _ _; with_reducible ((repeat (refine below_alloc ?_ (Nat.le_refl _))); exact Below.refl _ _)) (fun hS2 => ?_); refine (ntimes_any po qo lp cp lq cq a.den b.den _ (HX.out.1.den.later hS) (HX.out.2.den.later hS) (by omega) (by omega)).mono ?_; rintro e f2 ⟨o2, l2, c2, rfl, ho, hb⟩; have H2 : Hid (IntAt f2 n1 o1 l1 c1 (a.num * b.num) ∧ RowAt f2 .u64 o2 l2 c2 (mag (a.den * b.den))) := ⟨H1.out.later (bnext hS2 hb), ho.row⟩; have hl2 : l2 ≤ 3000 := (by rw [ho.row.hlen]; exact HL.out.2.2.2.1); clear ho; have hbF2 : Below W.heap.size W f2 := bnext hS hb; have hzF2 := hbF2.size; clear hS hb S1; clear hS2; have S2 : Step8 2 := ⟨trivial⟩)
   | (have _t := S2; go_at_call 63; refine with_held (S := fun w9 => Below W.heap.size W w9) (by show Below _ _ _; with_reducible ((repeat (first | refine below_alloc ?_ (Nat.le_refl _) | refine Below.drew ?_ | refine below_set ?_ (by omega))); (first | exact hbF3 | exact hbF2 | exact hbF1 | exact Below.refl _ _))) (fun hS => ?_); refine with_held (S := fun w9 => Below f2.heap.size f2 w9) (by show Below _ _ _; with_reducible ((repeat (refine below_alloc ?_ (Nat.le_refl _))); exact Below.refl _ _)) (fun hS2 => ?_); refine (qmake_any n1 o1 o2 l1 c1 l2 c2 (a.num * b.num) (a.den * b.den) _ (H2.out.1.later hS2) (H2.out.2.later hS2) h0 (by omega) (by omega) (a * b) (Rat.mul_def a b)).mono ?_; rintro e f3 ⟨nz, oz, lz, cz, pz, mz, dz, rfl, hz, hb⟩; have HZ : Hid (RatAt f3 nz oz lz cz pz mz dz _ ∧ Below W.heap.size W f3) := ⟨hz, bnext hS hb⟩; clear hz; obtain ⟨k5, k2, k3, k4⟩ := HF.out.1.later (bnext hS hb) (by omega); have hbF3 : Below W.heap.size W f3 := bnext hS hb; have hzF3 := hbF3.size; clear hS hb S2; clear hS2; skip))
 all_goals go_wp2
 exact bodyPost_ret (v := .agg #[.bool nz, .slice oz lz cz, .slice pz mz dz]) (by simp [results, Tryz.results29, go_sem, k2, k3, k4]) rfl
  ⟨_, _, _, _, _, _, _, rfl, rat_kept HZ.out.1 ⟨k2, k3, k4⟩, below_store3 (bnext HF.out.2 HZ.out.2) (by omega) _ _ _⟩
theorem qplus_any (na nb : Bool) (ao po bo qo : Option Addr) (la ca lp cp lb cb lq cq : Nat) (a b : Rat) (w : World) (hx : RatAt w na ao la ca po lp cp a) (hy : RatAt w nb bo lb cb qo lq cq b) (ha : Sz a 1000) (hb : Sz b 1000) :
  Calls Tryz.prog 28 #[.agg #[.bool na, .slice ao la ca, .slice po lp cp], .agg #[.bool nb, .slice bo lb cb, .slice qo lq cq]] w fun e w' => SomeR w w' e (a + b) := by
 obtain ⟨W, hT⟩ := RTwo3.mk' w na nb ao po bo qo la ca lp cp lb cb lq cq
 have hsz := hT.size
 have HX : Hid (RatAt W na ao la ca po lp cp a ∧ RatAt W nb bo lb cb qo lq cq b) := ⟨hx.later hT.below, hy.later hT.below⟩
 have hla : la ≤ 1000 := (hx.len ha).1
 have hlp : lp ≤ 1000 := (hx.len ha).2
 have hlb : lb ≤ 1000 := (hy.len hb).1
 have hlq : lq ≤ 1000 := (hy.len hb).2
 have HS : Hid (Sz a 1000 ∧ Sz b 1000) := ⟨ha, hb⟩
 have KW : Hid (∀ w' : World, Below W.heap.size W w' → w'.cell? ⟨w.heap.size, 0, none⟩ = some (.bool na) ∧ w'.cell? ⟨w.heap.size, 1, none⟩ = some (.slice ao la ca) ∧ w'.cell? ⟨w.heap.size, 2, none⟩ = some (.slice po lp cp) ∧ w'.cell? ⟨w.heap.size + 1, 0, none⟩ = some (.bool nb) ∧ w'.cell? ⟨w.heap.size + 1, 1, none⟩ = some (.slice bo lb cb) ∧ w'.cell? ⟨w.heap.size + 1, 2, none⟩ = some (.slice qo lq cq)) := fun w' h => ⟨(h.cell (p := ⟨w.heap.size, 0, none⟩) (by show w.heap.size < _; omega)).trans hT.a.1, (h.cell (p := ⟨w.heap.size, 1, none⟩) (by show w.heap.size < _; omega)).trans hT.a.2.1, (h.cell (p := ⟨w.heap.size, 2, none⟩) (by show w.heap.size < _; omega)).trans hT.a.2.2, (h.cell (p := ⟨w.heap.size + 1, 0, none⟩) (by show w.heap.size + 1 < _; omega)).trans hT.b.1, (h.cell (p := ⟨w.heap.size + 1, 1, none⟩) (by show w.heap.size + 1 < _; omega)).trans hT.b.2.1, (h.cell (p := ⟨w.heap.size + 1, 2, none⟩) (by show w.heap.size + 1 < _; omega)).trans hT.b.2.2⟩
 have KS : Hid (∀ X : World, Below W.heap.size W X → ∀ x y z, (fun w' : World => w'.cell? ⟨w.heap.size, 0, none⟩ = some (.bool na) ∧ w'.cell? ⟨w.heap.size, 1, none⟩ = some (.slice ao la ca) ∧ w'.cell? ⟨w.heap.size, 2, none⟩ = some (.slice po lp cp) ∧ w'.cell? ⟨w.heap.size + 1, 0, none⟩ = some (.bool nb) ∧ w'.cell? ⟨w.heap.size + 1, 1, none⟩ = some (.slice bo lb cb) ∧ w'.cell? ⟨w.heap.size + 1, 2, none⟩ = some (.slice qo lq cq)) (((X.setCell ⟨w.heap.size + 1 + 1, 0, none⟩ x).setCell ⟨w.heap.size + 1 + 1, 1, none⟩ y).setCell ⟨w.heap.size + 1 + 1, 2, none⟩ z)) := fun X h x y z => by
  obtain ⟨h0, h1, h2, h3, h4, h5⟩ := KW.out X h
  (try dsimp only)
  rw [cell_off (by omega), cell_off (by omega), cell_off (by omega), cell_off (by omega), cell_off (by omega), cell_off (by omega), cell_off (by omega), cell_off (by omega), cell_off (by omega), cell_off (by omega), cell_off (by omega), cell_off (by omega), cell_off (by omega), cell_off (by omega), cell_off (by omega), cell_off (by omega), cell_off (by omega), cell_off (by omega)]
  exact ⟨h0, h1, h2, h3, h4, h5⟩
 have HF : Hid (Fresh3 W (w.heap.size + 1 + 1) ∧ Below w.heap.size w W) := ⟨hT.r, hT.below⟩
 have HL : Hid ((mag (a.num * (b.den : Int)).natAbs).length ≤ 3000 ∧ (mag (b.num * (a.den : Int)).natAbs).length ≤ 3000 ∧ (mag (a.num * (b.den : Int) + b.num * (a.den : Int)).natAbs).length ≤ 7000 ∧ (mag (a.den * b.den)).length ≤ 3000 ∧ (mag (a.num * b.num).natAbs).length ≤ 3000) := by
  have h1 := add_len (a.num * (b.den : Int)) (b.num * (a.den : Int))
  have h2 := mul_len a.num (b.den : Int)
  have h3 := mul_len b.num (a.den : Int)
  have h4 := mag_len_mul a.den b.den
  have h5 := mul_len a.num b.num
  rw [Int.natAbs_natCast] at h2 h3
  have := ha.1; have := ha.2; have := hb.1; have := hb.2
  refine ⟨?_, ?_, ?_, ?_, ?_⟩ <;> omega
 have h0 : a.den * b.den ≠ 0 := Nat.mul_ne_zero a.den_nz b.den_nz
 clear hx hy ha hb
 go_enter Tryz.func28, Tryz.ntmps28
 go_upto_region 1 with fail
 rw [← hT.eq]
 clear hT
 have hzU : W.heap.size ≤ W.drew.heap.size := Nat.le_refl _
 have S0 : Step8 0 := ⟨trivial⟩
 go_region_held3 (fun w' => (w'.cell? ⟨w.heap.size, 0, none⟩ = some (.bool na) ∧ w'.cell? ⟨w.heap.size, 1, none⟩ = some (.slice ao la ca) ∧ w'.cell? ⟨w.heap.size, 2, none⟩ = some (.slice po lp cp) ∧ w'.cell? ⟨w.heap.size + 1, 0, none⟩ = some (.bool nb) ∧ w'.cell? ⟨w.heap.size + 1, 1, none⟩ = some (.slice bo lb cb) ∧ w'.cell? ⟨w.heap.size + 1, 2, none⟩ = some (.slice qo lq cq)))
  (with_reducible (first | exact KS.out _ hbF7 _ _ _ | exact KW.out _ (Below.refl _ _).drew | exact KW.out _ (by assumption) | (refine KW.out _ ?_; (repeat (first | refine below_alloc ?_ (Nat.le_refl _) | refine Below.drew ?_ | refine below_set ?_ (by omega))); (first | exact hbF7 | exact hbF6 | exact hbF5 | exact hbF4 | exact hbF3 | exact hbF2 | exact hbF1 | exact Below.refl _ _))))
  (first
   | (have _t := S0; go_at_call 66; refine with_held (S := fun w9 => Below W.heap.size W w9) (by show Below _ _ _; with_reducible ((repeat (first | refine below_alloc ?_ (Nat.le_refl _) | refine Below.drew ?_ | refine below_set ?_ (by omega))); (first | exact hbF7 | exact hbF6 | exact hbF5 | exact hbF4 | exact hbF3 | exact hbF2 | exact hbF1 | exact Below.refl _ _))) (fun hS => ?_); refine (qden_any nb bo qo lb cb lq cq _ (by omega)).mono ?_; rintro e f1 ⟨rfl, hb⟩; skip; have hbF1 : Below W.heap.size W f1 := bnext hS hb; have hzF1 := hbF1.size; clear hS hb S0; have S1 : Step8 1 := ⟨trivial⟩)
   | (have _t := S1; go_at_call 65; refine with_held (S := fun w9 => Below W.heap.size W w9) (by show Below _ _ _; with_reducible ((repeat (first | refine below_alloc ?_ (Nat.le_refl _) | refine Below.drew ?_ | refine below_set ?_ (by omega))); (first | exact hbF7 | exact hbF6 | exact hbF5 | exact hbF4 | exact hbF3 | exact hbF2 | exact hbF1 | exact Below.refl _ _))) (fun hS => ?_); refine with_held (S := fun w9 => Below f1.heap.size f1 w9) (by show Below _ _ _; with_reducible ((repeat (refine below_alloc ?_ (Nat.le_refl _))); exact Below.refl _ _)) (fun hS2 => ?_); refine (rtimes_any na false ao qo la ca lq cq a.num (b.den : Int) _ (HX.out.1.num.later hS) (row_int (HX.out.2.den.later hS)) (by omega) (by omega)).mono ?_; rintro e f2 ⟨n1, o1, l1, c1, rfl, hs, ho, hb⟩; have H2 : Hid (IntAt f2 n1 o1 l1 c1 (a.num * (b.den : Int))) := ho.int hs; have hl1 : l1 ≤ 3000 := (by rw [ho.row.hlen]; exact HL.out.1); clear hs ho; have hbF2 : Below W.heap.size W f2 := bnext hS hb; have hzF2 := hbF2.size; clear hS hb S1; clear hS2; have S2 : Step8 2 := ⟨trivial⟩)
   | (have _t := S2; go_at_call 66; refine with_held (S := fun w9 => Below W.heap.size W w9) (by show Below _ _ _; with_reducible ((repeat (first | refine below_alloc ?_ (Nat.le_refl _) | refine Below.drew ?_ | refine below_set ?_ (by omega))); (first | exact hbF7 | exact hbF6 | exact hbF5 | exact hbF4 | exact hbF3 | exact hbF2 | exact hbF1 | exact Below.refl _ _))) (fun hS => ?_); refine with_held (S := fun w9 => Below f2.heap.size f2 w9) (by show Below _ _ _; with_reducible ((repeat (refine below_alloc ?_ (Nat.le_refl _))); exact Below.refl _ _)) (fun hS2 => ?_); refine (qden_any na ao po la ca lp cp _ (by omega)).mono ?_; rintro e f3 ⟨rfl, hb⟩; have H3 : Hid (IntAt f3 n1 o1 l1 c1 (a.num * (b.den : Int))) := H2.out.later (bnext hS2 hb); have hbF3 : Below W.heap.size W f3 := bnext hS hb; have hzF3 := hbF3.size; clear hS hb S2; clear hS2; have S3 : Step8 3 := ⟨trivial⟩)
   | (have _t := S3; go_at_call 65; refine with_held (S := fun w9 => Below W.heap.size W w9) (by show Below _ _ _; with_reducible ((repeat (first | refine below_alloc ?_ (Nat.le_refl _) | refine Below.drew ?_ | refine below_set ?_ (by omega))); (first | exact hbF7 | exact hbF6 | exact hbF5 | exact hbF4 | exact hbF3 | exact hbF2 | exact hbF1 | exact Below.refl _ _))) (fun hS => ?_); refine with_held (S := fun w9 => Below f3.heap.size f3 w9) (by show Below _ _ _; with_reducible ((repeat (refine below_alloc ?_ (Nat.le_refl _))); exact Below.refl _ _)) (fun hS2 => ?_); refine (rtimes_any nb false bo po lb cb lp cp b.num (a.den : Int) _ (HX.out.2.num.later hS) (row_int (HX.out.1.den.later hS)) (by omega) (by omega)).mono ?_; rintro e f4 ⟨n2, o2, l2, c2, rfl, hs, ho, hb⟩; have H4 : Hid (IntAt f4 n1 o1 l1 c1 (a.num * (b.den : Int)) ∧ IntAt f4 n2 o2 l2 c2 (b.num * (a.den : Int))) := ⟨H3.out.later (bnext hS2 hb), ho.int hs⟩; have hl2 : l2 ≤ 3000 := (by rw [ho.row.hlen]; exact HL.out.2.1); clear hs ho; have hbF4 : Below W.heap.size W f4 := bnext hS hb; have hzF4 := hbF4.size; clear hS hb S3; clear hS2; have S4 : Step8 4 := ⟨trivial⟩)
   | (have _t := S4; go_at_call 64; refine with_held (S := fun w9 => Below W.heap.size W w9) (by show Below _ _ _; with_reducible ((repeat (first | refine below_alloc ?_ (Nat.le_refl _) | refine Below.drew ?_ | refine below_set ?_ (by omega))); (first | exact hbF7 | exact hbF6 | exact hbF5 | exact hbF4 | exact hbF3 | exact hbF2 | exact hbF1 | exact Below.refl _ _))) (fun hS => ?_); refine with_held (S := fun w9 => Below f4.heap.size f4 w9) (by show Below _ _ _; with_reducible ((repeat (refine below_alloc ?_ (Nat.le_refl _))); exact Below.refl _ _)) (fun hS2 => ?_); refine (rplus_any n1 n2 o1 o2 l1 c1 l2 c2 _ _ _ (H4.out.1.later hS2) (H4.out.2.later hS2) (by omega) (by omega)).mono ?_; rintro e f5 ⟨n3, o3, l3, c3, rfl, hi, hb⟩; have H5 : Hid (IntAt f5 n3 o3 l3 c3 (a.num * (b.den : Int) + b.num * (a.den : Int))) := hi; have hl3 : l3 ≤ 7000 := (by rw [hi.row.hlen]; exact HL.out.2.2.1); clear hi; have hbF5 : Below W.heap.size W f5 := bnext hS hb; have hzF5 := hbF5.size; clear hS hb S4; clear hS2; have S5 : Step8 5 := ⟨trivial⟩)
   | (have _t := S5; go_at_call 67; refine with_held (S := fun w9 => Below W.heap.size W w9) (by show Below _ _ _; with_reducible ((repeat (first | refine below_alloc ?_ (Nat.le_refl _) | refine Below.drew ?_ | refine below_set ?_ (by omega))); (first | exact hbF7 | exact hbF6 | exact hbF5 | exact hbF4 | exact hbF3 | exact hbF2 | exact hbF1 | exact Below.refl _ _))) (fun hS => ?_); refine with_held (S := fun w9 => Below f5.heap.size f5 w9) (by show Below _ _ _; with_reducible ((repeat (refine below_alloc ?_ (Nat.le_refl _))); exact Below.refl _ _)) (fun hS2 => ?_); refine (ntimes_any po qo lp cp lq cq a.den b.den _ (HX.out.1.den.later hS) (HX.out.2.den.later hS) (by omega) (by omega)).mono ?_; rintro e f6 ⟨o4, l4, c4, rfl, ho, hb⟩; have H6 : Hid (IntAt f6 n3 o3 l3 c3 (a.num * (b.den : Int) + b.num * (a.den : Int)) ∧ RowAt f6 .u64 o4 l4 c4 (mag (a.den * b.den))) := ⟨H5.out.later (bnext hS2 hb), ho.row⟩; have hl4 : l4 ≤ 3000 := (by rw [ho.row.hlen]; exact HL.out.2.2.2.1); clear ho; have hbF6 : Below W.heap.size W f6 := bnext hS hb; have hzF6 := hbF6.size; clear hS hb S5; clear hS2; have S6 : Step8 6 := ⟨trivial⟩)
   | (have _t := S6; go_at_call 63; refine with_held (S := fun w9 => Below W.heap.size W w9) (by show Below _ _ _; with_reducible ((repeat (first | refine below_alloc ?_ (Nat.le_refl _) | refine Below.drew ?_ | refine below_set ?_ (by omega))); (first | exact hbF7 | exact hbF6 | exact hbF5 | exact hbF4 | exact hbF3 | exact hbF2 | exact hbF1 | exact Below.refl _ _))) (fun hS => ?_); refine with_held (S := fun w9 => Below f6.heap.size f6 w9) (by show Below _ _ _; with_reducible ((repeat (refine below_alloc ?_ (Nat.le_refl _))); exact Below.refl _ _)) (fun hS2 => ?_); refine (qmake_any n3 o3 o4 l3 c3 l4 c4 (a.num * (b.den : Int) + b.num * (a.den : Int)) (a.den * b.den) _ (H6.out.1.later hS2) (H6.out.2.later hS2) h0 (by omega) (by omega) (a + b) (Rat.add_def a b)).mono ?_; rintro e f7 ⟨nz, oz, lz, cz, pz, mz, dz, rfl, hz, hb⟩; have HZ : Hid (RatAt f7 nz oz lz cz pz mz dz _ ∧ Below W.heap.size W f7) := ⟨hz, bnext hS hb⟩; clear hz; obtain ⟨k5, k2, k3, k4⟩ := HF.out.1.later (bnext hS hb) (by omega); have hbF7 : Below W.heap.size W f7 := bnext hS hb; have hzF7 := hbF7.size; clear hS hb S6; clear hS2; skip))
 all_goals go_wp2
 exact bodyPost_ret (v := .agg #[.bool nz, .slice oz lz cz, .slice pz mz dz]) (by simp [results, Tryz.results28, go_sem, k2, k3, k4]) rfl
  ⟨_, _, _, _, _, _, _, rfl, rat_kept HZ.out.1 ⟨k2, k3, k4⟩, below_store3 (bnext HF.out.2 HZ.out.2) (by omega) _ _ _⟩
end Go.Proofs.YtbkaiifplahhpaaGreatDoor
namespace Go.Proofs.YtbkaiifplahhpaaGreatDoor
open Go.RowKit
def Stay2 (ao po : Option Addr) (w w' : World) : Prop := ∀ k, k < w.heap.size → (∀ p : Addr, ao = some p → p.block ≠ k) → (∀ p : Addr, po = some p → p.block ≠ k) → w'.heap[k]? = w.heap[k]?
theorem Stay2.of {ao po : Option Addr} {w w1 w2 : World} (h1 : Stay ao w w1) (h2 : Stay po w1 w2) : Stay2 ao po w w2 := fun k hk ha hp => (h2.block k (Nat.lt_of_lt_of_le hk h1.size) hp).trans (h1.block k hk ha)
end Go.Proofs.YtbkaiifplahhpaaGreatDoor
namespace Go.Proofs.YtbkaiifplahhpaaGreatDoor
open Go.RowKit
structure RDiv (w Z : World) (na nb nq : Bool) (ao bo qo : Option Addr) (la ca lb cb lq cq g : Nat) (a b q : Int) : Prop where
 ba : Boxed Z w.heap.size na ao la ca
 bb : Boxed Z (w.heap.size + 1) nb bo lb cb
 bq : Boxed Z g nq qo lq cq
 ia : IntAt Z na ao la ca a
 ib : IntAt Z nb bo lb cb b
 iq : IntAt Z nq qo lq cq q
 f1 : Fresh Z (w.heap.size + 1 + 1)
 f2 : Fresh Z (w.heap.size + 1 + 1 + 1)
 bz : Below w.heap.size w Z
 gz : g < Z.heap.size
 gw : w.heap.size + 4 ≤ g
 fq : ∀ j, Z.frozen? ⟨g, j, none⟩ = false
theorem RDiv.first {w W w2 Z : World} {na nb nq : Bool} {ao bo qo : Option Addr} {la ca lb cb lq cq : Nat} {a b : Int} {m : Nat} {neg : Bool} (hT : Two4 w W na nb ao bo la ca lb cb) (hb : Below W.heap.size W w2) (hx : IntAt W na ao la ca a) (hy : IntAt W nb bo lb cb b) (hm : RowAt w2 .u64 qo lq cq (mag m)) (hn : nq = (neg && decide (0 < lq))) (hZ : Z = w2.alloc (.cells #[.bool nq, .slice qo lq cq] 26)) :
  RDiv w Z na nb nq ao bo qo la ca lb cb lq cq w2.heap.size a b (sgn neg m) := by
 have hA : Below w2.heap.size w2 Z := by rw [hZ]; exact (Below.refl _ _).alloc (Nat.le_refl _) _
 have hWZ := bnext hb hA
 have hs := hT.size
 have h2 := hb.size
 refine ⟨hT.a.later hWZ (by omega), hT.b.later hWZ (by omega), ?_, hx.later hWZ, hy.later hWZ, ⟨?_, ?_⟩, hT.r.later hWZ (by omega), hT.r2.later hWZ (by omega), bnext hT.below hWZ, by rw [hZ]; simp, by omega, fun j => by rw [hZ]; simp [go_sem]⟩
 ·
  rw [hZ]; exact ⟨by simp [go_sem], by simp [go_sem]⟩
 ·
  rw [sgB_sgn, hn, hm.hlen]
 ·
  rw [natAbs_sgn]; exact hm.later hA
theorem RDiv.next {w Z w4 : World} {na nb nq n4 : Bool} {ao bo qo ao4 : Option Addr} {la ca lb cb lq cq l4 c4 g : Nat} {a b q q' : Int} (h : RDiv w Z na nb nq ao bo qo la ca lb cb lq cq g a b q) (hb : Below Z.heap.size Z w4) (hi : IntAt w4 n4 ao4 l4 c4 q') :
  RDiv w ((w4.setCell ⟨g, 0, none⟩ (.bool n4)).setCell ⟨g, 1, none⟩ (.slice ao4 l4 c4)) na nb n4 ao bo ao4 la ca lb cb l4 c4 g a b q' := by
 have h1 := h.gw
 have h2 := h.gz
 have hq := h.bq.later hb (by omega)
 have hs := hb.size
 exact ⟨boxed_far (h.ba.later hb (by omega)) (by omega) _ _, boxed_far (h.bb.later hb (by omega)) (by omega) _ _, boxed_new hq, ⟨h.ia.sg, (h.ia.later hb).row.boxed hq _ _⟩, ⟨h.ib.sg, (h.ib.later hb).row.boxed hq _ _⟩, ⟨hi.sg, hi.row.boxed hq _ _⟩, fresh_far (h.f1.later hb (by omega)) (by omega) _ _, fresh_far (h.f2.later hb (by omega)) (by omega) _ _, below_store (bnext h.bz hb) (by omega) _ _, by simp; omega, h1, fun j => by rw [frozen_far, frozen_far, hb.frozen (p := ⟨g, j, none⟩) h2]; exact h.fq j⟩
theorem RDiv.last {w Z w6 : World} {na nb nq n6 : Bool} {ao bo qo ao6 : Option Addr} {la ca lb cb lq cq l6 c6 g : Nat} {a b q r : Int} (h : RDiv w Z na nb nq ao bo qo la ca lb cb lq cq g a b q) (hb : Below Z.heap.size Z w6) (hi : IntAt w6 n6 ao6 l6 c6 r) (v1 v2 v3 v4 : Value) :
  TwoRef w ((((w6.setCell ⟨w.heap.size + 1 + 1, 0, none⟩ v1).setCell ⟨w.heap.size + 1 + 1, 1, none⟩ v2).setCell ⟨w.heap.size + 1 + 1 + 1, 0, none⟩ v3).setCell ⟨w.heap.size + 1 + 1 + 1, 1, none⟩ v4) (.returned (.tuple #[.agg #[.bool nq, .slice qo lq cq], .agg #[.bool n6, .slice ao6 l6 c6]])) q r := by
 have h1 := h.gw
 have h2 := h.gz
 have f1 := h.f1.later hb (by omega)
 have f2 : ∀ x y, Fresh ((w6.setCell ⟨w.heap.size + 1 + 1, 0, none⟩ x).setCell ⟨w.heap.size + 1 + 1, 1, none⟩ y) (w.heap.size + 1 + 1 + 1) := fun x y => fresh_far (h.f2.later hb (by omega)) (by omega) _ _
 exact ⟨_, _, _, _, _, _, _, _, rfl, ⟨h.iq.sg, ((h.iq.later hb).row.kept f1 _ _).kept (f2 _ _) _ _⟩, ⟨hi.sg, (hi.row.kept f1 _ _).kept (f2 _ _) _ _⟩, below_store (below_store (bnext h.bz hb) (by omega) _ _) (by omega) _ _⟩
end Go.Proofs.YtbkaiifplahhpaaGreatDoor
