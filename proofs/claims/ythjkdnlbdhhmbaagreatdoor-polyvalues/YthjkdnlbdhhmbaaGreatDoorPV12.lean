/-
  A pack of walks and facts: KF.
-/
import Derived.Test.YthjkdnlbdhhmbaaGreatDoorPV09
import Derived.Test.YthjkdnlbdhhmbaaGreatDoorPV11
set_option maxRecDepth 100000
set_option maxHeartbeats 40000000
set_option linter.unusedVariables false
set_option linter.unusedSimpArgs false
namespace Go.Proofs.YthjkdnlbdhhmbaaGreatDoor
open Go.RowKit
theorem Chg.new {F G : Nat → Nat → Prop} {a b c : World} (h : Chg F a b) (k : Chg G b c) (hG : ∀ x j, G x j → F x j ∨ a.heap.size ≤ x) : Chg F a c := by
 have hs := h.size
 refine ⟨k.os.trans h.os, k.tape.trans h.tape, k.output.trans h.output, Nat.le_trans h.size k.size, fun g hg hF => ?_, fun x j hx hF => ?_, fun g L hb hw => ?_⟩
 ·
  exact (k.other g (by omega) fun j hj => (hG g j hj).elim (fun h1 => hF j h1) (fun h1 => by omega)).trans (h.other g hg hF)
 ·
  exact (k.cell x j (by omega) fun hj => (hG x j hj).elim (fun h1 => hF h1) (fun h1 => by omega)).trans (h.cell x j hx hF)
 ·
  obtain ⟨L1, b1, l1, w1⟩ := h.blk g L hb hw
  obtain ⟨L2, b2, l2, w2⟩ := k.blk g L1 b1 w1
  exact ⟨L2, b2, l2.trans l1, w2⟩
theorem addInto_opt (g off n cap : Nat) (bo : Option Addr) (m cb : Nat) (x : Int) (ys : List Int) (w : World) (hr : Room w g off n) (hx : RowV w (some ⟨g, off, none⟩) n cap x) (hcap : cap ≤ 4611686018427387904) (hy : RowAt w .u64 bo m cb ys) (hyW : Wd 18446744073709551616 ys) (hm : m ≤ n) (hap : Apart bo m g off n) :
  Calls Tryz.prog 133 #[.slice (some ⟨g, off, none⟩) n cap, .slice bo m cb] w fun e w' => ∃ c x', e = .returned (.int .u64 c) ∧ 0 ≤ c ∧ c ≤ 1 ∧ Chg (Fr g off n) w w' ∧ RowV w' (some ⟨g, off, none⟩) n cap x' ∧ x' + c * 18446744073709551616 ^ n = x + val 18446744073709551616 ys := by
 obtain ⟨L, hb, hW, hl, hv⟩ := hr.open_ hx
 obtain ⟨zs, hz1, _⟩ := hx
 refine (addInto_any g off n cap bo m cb L ys w hb hW hl hz1.hcap hcap hy hyW hm hap).mono ?_
 rintro e w' ⟨c, L', he, hb', hl', hW', hout, hc0, hc1, hV, ht⟩
 refine ⟨c, _, he, hc0, hc1, Chg.ofTouch ht hb hb' hl' hW' hout, RowV.ofBlk hb' hW' (by omega) hz1.hcap, ?_⟩
 rw [hv] at hV; omega
theorem own_apart {B : Nat} {w : World} {k : IntKind} {t : TypeId} {ao : Option Addr} {len cap : Nat} {zs : List Int} (h : Own B w k t ao len cap zs) {g off n : Nat} (hg : g < B) : Apart ao len g off n := fun b o e t' ht k' hk e' => by
 rcases h with ⟨h1, _⟩ | ⟨g', off', L, h1, h2, _⟩
 ·
  rw [h1] at e; cases e
 ·
  rw [h1] at e; cases e; omega
theorem mul_lt_pow {x y : Int} {a b l : Nat} (hx0 : 0 ≤ x) (hx : x < 18446744073709551616 ^ a) (hy0 : 0 ≤ y) (hy : y < 18446744073709551616 ^ b) (hl : a + b ≤ l) : x * y < 18446744073709551616 ^ l := by
 have hm := pow_mono' (q := 18446744073709551616) (by decide) hl
 rw [Int.pow_add] at hm
 have hp := pow_pos' (q := 18446744073709551616) (by decide) b
 have h1 : x * y ≤ x * 18446744073709551616 ^ b := Int.mul_le_mul_of_nonneg_left (Int.le_of_lt hy) hx0
 have h2 : x * 18446744073709551616 ^ b < 18446744073709551616 ^ a * 18446744073709551616 ^ b := Int.mul_lt_mul_of_pos_right hx hp
 omega
theorem pieces_math {xl p y zl zh zh' c : Int} {a l : Nat} (hz : xl * y = zl + 18446744073709551616 ^ a * zh) (he : zh' + c * 18446744073709551616 ^ (l - a) = zh + p * y) (hc0 : 0 ≤ c) (hc1 : c ≤ 1) (hl : a ≤ l) (hlt : (xl + 18446744073709551616 ^ a * p) * y < 18446744073709551616 ^ l) (h0 : 0 ≤ zl) (h1 : 0 ≤ zh') :
  zl + 18446744073709551616 ^ a * zh' = (xl + 18446744073709551616 ^ a * p) * y := by
 have e : (xl + 18446744073709551616 ^ a * p) * y = xl * y + 18446744073709551616 ^ a * (p * y) := by rw [Int.add_mul, Int.mul_assoc]
 rw [e] at hlt ⊢
 rw [pow_parts2 hl] at hlt
 exact add_part hz he hc0 hc1 (Int.le_refl _) hlt h0 h1 (pow_pos' (q := 18446744073709551616) (by decide) a)
def TimesOk (m : Nat) : Prop := ∀ (b o l c b2 o2 c2 : Nat) (y r : Int) (w : World), m ≤ l → l ≤ 4294967296 → 2 ≤ l → Hid (RowV w (some ⟨b, o, none⟩) l c y ∧ RowV w (some ⟨b2, o2, none⟩) m c2 r) →
 Calls Tryz.prog 104 #[.slice (some ⟨b, o, none⟩) l c, .slice (some ⟨b2, o2, none⟩) m c2] w fun e w' => ∃ N : Nat, (N : Int) = y * r ∧ NewNat w w' e N
structure PieceSt (w wr : World) (gz oz lz cz bx ox lx cx g K a : Nat) (x y : Int) (xl xh : Int) : Prop where
 chg : Chg (Fr gz oz lz) w wr
 room : Room wr g 0 K
 new : w.heap.size ≤ g
 low : RowV w (some ⟨bx, ox, none⟩) a cx xl
 high : RowV w (some ⟨bx, ox + a, none⟩) (lx - a) (cx - a) xh
 eq : x = xl + 18446744073709551616 ^ a * xh
 z : RowV wr (some ⟨gz, oz, none⟩) lz cz (xl * y)
theorem RowV_lt_block {w : World} {b o len cap : Nat} {v : Int} (h : RowV w (some ⟨b, o, none⟩) len cap v) (hp : 0 < len) : b < w.heap.size := by
 obtain ⟨zs, h1, _⟩ := h; exact (RowV.cells h1 hp).1
theorem pieces_step {w wr w3 : World} {gz oz lz cz bx ox lx cx g K a n : Nat} {x y xl xh p xr zl zh zh2 c : Int} {cy b2 oy : Nat} (hC : Chg (Fr gz oz lz) w w3) (hroom : Room w3 g 0 K) (h : PieceSt w wr gz oz lz cz bx ox lx cx g K a x y xl xh)
  (hP : RowV w (some ⟨bx, ox + a, none⟩) n (cx - a) p ∧ RowV w (some ⟨bx, ox + a + n, none⟩) (lx - a - n) (cx - a - n) xr ∧ xh = p + 18446744073709551616 ^ n * xr)
  (hzl : RowV w3 (some ⟨gz, oz, none⟩) a cz zl) (hzh : RowV w3 (some ⟨gz, oz + a, none⟩) (lz - a) (cz - a) zh2) (hze : xl * y = zl + 18446744073709551616 ^ a * zh) (he : zh2 + c * 18446744073709551616 ^ (lz - a) = zh + p * y) (hc0 : 0 ≤ c) (hc1 : c ≤ 1) (hy : RowV w (some ⟨b2, oy, none⟩) n cy y) (hl : a + n ≤ lx) (hlz : lx + n ≤ lz) (hlc : lz ≤ cz) :
  PieceSt w w3 gz oz lz cz bx ox lx cx g K (a + n) x y (xl + 18446744073709551616 ^ a * p) xr := by
 have hcx := h.high.cap
 have hcx2 := h.low.cap
 have hlow := h.low.join hP.1 (c := cx) (by omega)
 refine ⟨hC, hroom, h.new, hlow, ?_, ?_, ?_⟩
 ·
  have := hP.2.1
  rwa [show ox + a + n = ox + (a + n) by omega, show lx - a - n = lx - (a + n) by omega, show cx - a - n = cx - (a + n) by omega] at this
 ·
  rw [h.eq, hP.2.2, Int.pow_add]; grind
 ·
  have hj := hzl.join hzh (c := cz) (by omega)
  rw [show a + (lz - a) = lz by omega, pieces_math hze he hc0 hc1 (by omega) (mul_lt_pow hlow.nonneg hlow.lt hy.nonneg hy.lt (by omega)) hzl.nonneg hzh.nonneg] at hj
  exact hj
theorem pieces_end {w wr w3 : World} {gz oz lz cz bx ox lx cx g K a n : Nat} {x y xl xh zl zh zh2 c : Int} {cy b2 oy : Nat} (h : PieceSt w wr gz oz lz cz bx ox lx cx g K a x y xl xh)
  (hzl : RowV w3 (some ⟨gz, oz, none⟩) a cz zl) (hzh : RowV w3 (some ⟨gz, oz + a, none⟩) (lz - a) (cz - a) zh2) (hze : xl * y = zl + 18446744073709551616 ^ a * zh) (he : zh2 + c * 18446744073709551616 ^ (lz - a) = zh + xh * y) (hc0 : 0 ≤ c) (hc1 : c ≤ 1) (hx : RowV w (some ⟨bx, ox, none⟩) lx cx x) (hy : RowV w (some ⟨b2, oy, none⟩) n cy y) (hl : a ≤ lx) (hlz : lx + n ≤ lz) (hlc : lz ≤ cz) :
  RowV w3 (some ⟨gz, oz, none⟩) lz cz (x * y) := by
 have hj := hzl.join hzh (c := cz) (by omega)
 rw [show a + (lz - a) = lz by omega, pieces_math hze he hc0 hc1 (by omega) (by rw [← h.eq]; exact mul_lt_pow hx.nonneg hx.lt hy.nonneg hy.lt (by omega)) hzl.nonneg hzh.nonneg, ← h.eq] at hj
 exact hj
theorem timesPieces_any (n : Nat) (hT : ∀ m, 0 < m → m < n → TimesOk m) (gz oz lz cz bx ox lx cx b2 oy cy : Nat) (x y : Int) (w : World) (h40 : 40 ≤ n) (hlx : n < lx) (hl32 : lx ≤ 4294967296) (hlz : Hid (lz = lx + n)) (hlc : lz ≤ cz) (hcz : cz ≤ 4611686018427387904)
  (HM : Hid (Room w gz oz lz ∧ RowV w (some ⟨gz, oz, none⟩) lz cz 0 ∧ RowV w (some ⟨bx, ox, none⟩) lx cx x ∧ RowV w (some ⟨b2, oy, none⟩) n cy y)) (HA : Hid (Ap bx ox lx gz oz lz ∧ Ap b2 oy n gz oz lz)) :
  Calls Tryz.prog 122 #[.slice (some ⟨gz, oz, none⟩) lz cz, .slice (some ⟨bx, ox, none⟩) lx cx, .slice (some ⟨b2, oy, none⟩) n cy] w fun e w' => e = .returned (.tuple #[]) ∧ Chg (Fr gz oz lz) w w' ∧ RowV w' (some ⟨gz, oz, none⟩) lz cz (x * y) := by
 obtain ⟨i0, hi, hz0, hz1, hz2⟩ := info_parts info64
 obtain ⟨kr, hkr⟩ : ∃ kr, hrooms n = kr := ⟨_, rfl⟩
 have hcr := fun W => halvesRoom_any n W (by omega)
 rw [hkr] at hcr
 have hk5 := hrooms_le n
 have hk6 : 80 ≤ hrooms n := by rw [hrooms_great (by omega)]; omega
 have hcx : lx ≤ cx := HM.out.2.2.1.cap
 have hz3 : lx + n ≤ lz := Nat.le_of_eq hlz.out.symm
 have hz4 : lz ≤ lx + n := Nat.le_of_eq hlz.out
 have HT : Hid (∀ m, 0 < m → m < n → TimesOk m) := hT
 have HK : Hid (hrooms n = kr) := hkr
 have HO : Hid (HalvesOk n) := halves_all n (by omega)
 rw [hkr] at hk5 hk6
 have b1 : Hid (i0.bytes * (kr + 2 * n) ≤ 281474976710656) := by show _ ≤ _; rw [hz2]; omega
 have b2' : Hid (kr + 2 * n ≤ maxLen) := by show _ ≤ _; unfold maxLen; omega
 have b3 : Hid (Wd 18446744073709551616 (List.replicate (kr + 2 * n) 0)) := wd_zeros (by decide) _
 have hne : kr + 2 * n ≠ 2 * n := by omega
 have HS0 : Hid (∃ xl xh, RowV w (some ⟨bx, ox, none⟩) 0 cx xl ∧ RowV w (some ⟨bx, ox + 0, none⟩) (lx - 0) (cx - 0) xh ∧ x = xl + 18446744073709551616 ^ 0 * xh) := HM.out.2.2.1.split (Nat.zero_le _)
 clear hT hkr hlz
 go_enter Tryz.func122, Tryz.ntmps122
 go_wp2_with (first
  | (go_at_call 121; refine (hcr _).mono ?_; rintro e w0 ⟨rfl, hw0⟩; replace hw0 := hw0.symm; subst hw0)
  | (at_make; refine wpList_make_full _ rfl (.tmp 17) (.tmp 17) 25 rfl 0 60 i0 (.int .u64 0) 1 Tryz.underlying25 hi hz0 hz1 .i64 .i64 _ _ (kr + 2 * n) rfl rfl (by omega) (by omega) b1.out b2'.out (Nat.zero_le _) ?_; intro w1 hown1 hgrow1; have HR1 : Hid (Room w1 w.heap.size 0 (kr + 2 * n) ∧ Chg (Fr gz oz lz) w w1) := ⟨⟨_, made_blk hown1, b3.out, by simp⟩, Chg.below (grown_below hgrow1)⟩; have HGR : Hid (w.grownBy w1 none) := hgrow1; clear hown1 hgrow1))
 go_quiet (fail)
 go_wp2
 obtain ⟨g, hg⟩ : ∃ g, w.heap.size = g := ⟨_, rfl⟩
 have HG : Hid (w.heap.size = g) := hg
 rw [hg] at HR1
 simp only [hg, Nat.add_sub_cancel]
 clear hg
 have HP0 : Hid (∃ xl xh, PieceSt w (w1.drewN nq) gz oz lz cz bx ox lx cx g (kr + 2 * n) 0 x y xl xh) := by
  obtain ⟨xl, xh, h1, h2, h3⟩ := HS0.out
  have hxl : xl = 0 := by have a1 := h1.nonneg; have a2 := h1.lt; simp at a2; omega
  refine ⟨xl, xh, HR1.out.2.drewN _, HR1.out.1.later ((Chg.refl (Fr gz oz lz) _).drewN _), Nat.le_of_eq HG.out, h1, h2, h3, ?_⟩
  rw [hxl, Int.zero_mul]
  exact (HM.out.2.1.later (F := Fr gz 0 0) (Chg.below (grown_below HGR.out)) (fun t ht hF => by have := hF.2; omega)).later ((Chg.refl (Fr gz 0 0) _).drewN _) (fun t ht hF => by have := hF.2; omega)
 clear HS0 HR1 HGR
 go_loopw [10] (fun i wr => ∃ (a : Nat) (xl xh : Int), a ≤ lx ∧ i = .int .i64 a ∧ PieceSt w wr gz oz lz cz bx ox lx cx g (kr + 2 * n) a x y xl xh) (fun i _ => lx - (intOf i).toNat)
 case atStart => obtain ⟨xl, xh, h⟩ := HP0.out; exact ⟨0, xl, xh, Nat.zero_le _, rfl, h⟩
 case round =>
  obtain ⟨a, xl, xh, ha, rfl, hst⟩ := hrel
  have HS : Hid (PieceSt w wr gz oz lz cz bx ox lx cx g (kr + 2 * n) a x y xl xh) := hst
  clear hst HP0
  have hgz : Hid (gz < w.heap.size) := HM.out.1.lt
  have hX : Hid (∀ w' b o l c v, Chg (Fr gz oz lz) w w' → RowV w (some ⟨b, o, none⟩) l c v → Ap b o l gz oz lz → RowV w' (some ⟨b, o, none⟩) l c v) := fun w' b o l c v hC hR hA => hR.later hC fun t ht hF => by have h1 := hA hF.1; have h2 := hF.2; omega
  by_cases hlt : a + n ≤ lx
  ·
   obtain ⟨p, xr, hp, hxr, hpe⟩ := HS.out.high.split (k := n) (by omega)
   have HP : Hid (RowV w (some ⟨bx, ox + a, none⟩) n (cx - a) p ∧ RowV w (some ⟨bx, ox + a + n, none⟩) (lx - a - n) (cx - a - n) xr ∧ xh = p + 18446744073709551616 ^ n * xr) := ⟨hp, hxr, hpe⟩
   clear hp hxr hpe
   have c1 : cx ≠ a := by omega
   have c2 : cz ≠ a := by omega
   go_wp2_with (first
    | (go_at_call 120; refine (HO.out g 0 (2 * n) (kr + 2 * n) bx (ox + a) n (cx - a) b2 oy n cy g (2 * n) kr kr (some ⟨g, 2 * n, none⟩) p y wr ⟨by omega, rfl, rfl, Or.inr rfl⟩ (by omega) (by omega) (by have := HK.out; omega) (Nat.le_refl _) (by omega) ⟨HS.out.room.part (by omega), HS.out.room.part (by omega), hX.out _ _ _ _ _ _ HS.out.chg HP.out.1 (fun e => (by have := HA.out.1 e; omega)), hX.out _ _ _ _ _ _ HS.out.chg HM.out.2.2.2 HA.out.2⟩ ⟨fun _ => (by omega), fun e => (by exfalso; have := RowV_lt_block HM.out.2.2.1 (by omega); have := HG.out; omega), fun e => (by exfalso; have := RowV_lt_block HM.out.2.2.1 (by omega); have := HG.out; omega), fun e => (by exfalso; have := RowV_lt_block HM.out.2.2.2 (by omega); have := HG.out; omega), fun e => (by exfalso; have := RowV_lt_block HM.out.2.2.2 (by omega); have := HG.out; omega)⟩).mono ?_; rintro e w2 ⟨rfl, hC, hV⟩; have HQ : Hid (Chg (Fr gz oz lz) w w2 ∧ Room w2 g 0 (kr + 2 * n) ∧ RowV w2 (some ⟨gz, oz, none⟩) lz cz (xl * y) ∧ RowV w2 (some ⟨g, 0, none⟩) (2 * n) (kr + 2 * n) (p * y)) := ⟨HS.out.chg.new hC (fun b j hj => Or.inr (by have := HS.out.new; rcases hj with hj | hj <;> (have := hj.1; omega))), HS.out.room.later hC, HS.out.z.later hC (fun t ht hF => (by have h1 := HG.out; have h2 := hgz.out; rcases hF with hj | hj <;> (have := hj.1; omega))), hV⟩; clear hC hV)
    | (go_at_call 133; have _t := HQ; obtain ⟨zl, zh, hzl, hzh, hze⟩ := HQ.out.2.2.1.split (k := a) (by omega); refine (addInto_reg gz (oz + a) (lz - a) (cz - a) g 0 (2 * n) (kr + 2 * n) zh (p * y) w2 ((HM.out.1.later HQ.out.1).part (by omega)) hzh (by omega) HQ.out.2.2.2 (by omega) (fun e => (by exfalso; have h1 := HG.out; have h2 := hgz.out; omega))).mono ?_; rintro e w3 ⟨c, zh2, rfl, hc0, hc1, hC, hV, he⟩; have HE : Hid (PieceSt w w3 gz oz lz cz bx ox lx cx g (kr + 2 * n) (a + n) x y (xl + 18446744073709551616 ^ a * p) xr) := pieces_step (HQ.out.1.new hC (fun b j hj => Or.inl ⟨hj.1, by have := hj.2; omega, by have := hj.2; omega⟩)) (HQ.out.2.1.later hC) HS.out HP.out (hzl.later hC (fun t ht hF => (by have := hF.2; omega))) hV hze he hc0 hc1 HM.out.2.2.2 (by omega) (by omega) hlc; clear hC hV he hzl hzh hze hc0 hc1 HQ))
   go_roundw
   case rel => exact ⟨a + n, _, _, hlt, by go_num, HE.out⟩
   case measure => simp [intOf]; omega
  ·
   by_cases he : a = lx
   ·
    have HF : Hid (Chg (Fr gz oz lz) w wr ∧ RowV wr (some ⟨gz, oz, none⟩) lz cz (x * y)) := by
     refine ⟨HS.out.chg, ?_⟩
     have h1 := HS.out.high.nonneg
     have h2 := HS.out.high.lt
     rw [he, Nat.sub_self] at h2
     have h3 : xh = 0 := by simp at h2; omega
     have h4 := HS.out.eq
     rw [h3] at h4
     have h5 : x = xl := by simpa using h4
     rw [h5]; exact HS.out.z
    have hna : ¬ a < lx := by omega
    clear he
    go_wp2
    go_end0
    exact ⟨rfl, HF.out.1, HF.out.2⟩
   ·
    have hal : a < lx := by omega
    have c1 : cx ≠ a := by omega
    have c2 : cz ≠ a := by omega
    have j0 : (0 : Int) ≤ (a : Int) := by omega
    have j1 : (a : Int) ≤ (lx : Int) := by omega
    have j2 : (a : Int) ≤ (lz : Int) := by omega
    have j3 : (a : Int) ≤ (cx : Int) := by omega
    have j4 : (a : Int) ≤ (cz : Int) := by omega
    go_wp2
    go_region_held3 (fun w9 => Hid True) (first | (show True; trivial)) (first
     | (go_at_call 104; refine (HT.out (lx - a) (by omega) (by omega) b2 oy n cy bx (ox + a) (cx - a) y xh wr.drew (by omega) (by omega) (by omega) ⟨(hX.out _ _ _ _ _ _ HS.out.chg HM.out.2.2.2 HA.out.2).drew, (hX.out _ _ _ _ _ _ HS.out.chg HS.out.high (fun e => (by have := HA.out.1 e; omega))).drew⟩).mono ?_; rintro e w2 ⟨N, hN, ao1, l1, c1', rfl, ho1, hb1⟩; have HQ : Hid ((N : Int) = y * xh ∧ RowAt w2 .u64 ao1 l1 c1' (mag N) ∧ Apart ao1 l1 gz (oz + a) (lz - a) ∧ Chg (Fr gz oz lz) w w2 ∧ RowV w2 (some ⟨gz, oz, none⟩) lz cz (xl * y)) := ⟨hN, ho1.row, own_apart ho1 (by have h1 := hgz.out; have h2 := HS.out.chg.size; show gz < wr.heap.size; omega), HS.out.chg.drew.trans (Chg.below hb1), HS.out.z.drew.later (F := Fr gz 0 0) (Chg.below hb1) (fun t ht hF => (by have := hF.2; omega))⟩; have hl1 : l1 ≤ lz - a := (by rw [ho1.row.hlen]; refine mag_len_le ?_; rw [hN]; refine mul_lt_pow HM.out.2.2.2.nonneg HM.out.2.2.2.lt HS.out.high.nonneg HS.out.high.lt (by omega)); clear hN ho1 hb1)
     | (go_at_call 133; have _t := HQ; obtain ⟨zl, zh, hzl, hzh, hze⟩ := HQ.out.2.2.2.2.split (k := a) (by omega); refine (addInto_opt gz (oz + a) (lz - a) (cz - a) ao1 l1 c1' zh (mag N) w2 ((HM.out.1.later HQ.out.2.2.2.1).part (by omega)) hzh (by omega) HQ.out.2.1 (mag_wd _) hl1 HQ.out.2.2.1).mono ?_; rintro e w3 ⟨c, zh2, rfl, hc0, hc1, hC, hV, he⟩; have HF : Hid (Chg (Fr gz oz lz) w w3 ∧ RowV w3 (some ⟨gz, oz, none⟩) lz cz (x * y)) := ⟨HQ.out.2.2.2.1.new hC (fun b j hj => Or.inl ⟨hj.1, by have := hj.2; omega, by have := hj.2; omega⟩), pieces_end HS.out (hzl.later hC (fun t ht hF => (by have := hF.2; omega))) hV hze (by rw [mag_val, HQ.out.1, Int.mul_comm y] at he; exact he) hc0 hc1 HM.out.2.2.1 HM.out.2.2.2 (by omega) (by omega) hlc⟩; clear hC hV he hzl hzh hze hc0 hc1 HQ))
    go_wp2
    go_end0
    exact ⟨rfl, HF.out.1, HF.out.2⟩
theorem times_end {F : Nat → Nat → Prop} {w1 w2 : World} {g n : Nat} {v : Int} (hb : Blk w1 g .u64 60 (List.replicate n 0)) (hC : Chg F w1 w2) (hV : RowV w2 (some ⟨g, 0, none⟩) n n v) :
  ∃ L, Blk w2 g .u64 60 L ∧ n = L.length ∧ Wd 18446744073709551616 L ∧ val 18446744073709551616 L = v := by
 obtain ⟨L, h1, h2, h3⟩ := hC.blk g _ hb (wd_zeros (by decide) _)
 simp at h2
 obtain ⟨L', k1, k2, k3, k4⟩ := Room.open_ (w := w2) (g := g) (off := 0) (n := n) ⟨L, h1, h3, by omega⟩ hV
 obtain rfl : L = L' := h1.inj k1
 exact ⟨L, h1, h2.symm, h3, by rw [← k4, V_all _ h2.symm]⟩
theorem RowV.grown {w w' : World} {b o len cap : Nat} {v : Int} (h : RowV w (some ⟨b, o, none⟩) len cap v) (hb : Below w.heap.size w w') : RowV w' (some ⟨b, o, none⟩) len cap v :=
 h.later (F := Fr 0 0 0) (Chg.below hb) fun t ht hF => by have := hF.2; omega
theorem zero_row {w : World} {g n : Nat} (hb : Blk w g .u64 60 (List.replicate n 0)) : RowV w (some ⟨g, 0, none⟩) n n 0 := by
 have := RowV.ofBlk (off := 0) (n := n) (cap := n) hb (wd_zeros (by decide) _) (by simp) (Nat.le_refl _)
 rwa [V_zeros (fun j hj => dig_zeros _ _)] at this
theorem ap_new {w : World} {b o len cap g off n : Nat} {v : Int} (h : RowV w (some ⟨b, o, none⟩) len cap v) (hp : 0 < len) (hg : w.heap.size ≤ g) : Ap b o len g off n := fun e => by
 have := RowV_lt_block h hp; omega
theorem times_plain (m : Nat) (hm : 0 < m) (h40 : m < 40) : TimesOk m := by
 intro b o l c b2 o2 c2 y r w hml hl32 h2 HM
 obtain ⟨i0, hi, hz0, hz1, hz2⟩ := info_parts info64
 have e0 : ((m : Int) == 0) = false := by simp; omega
 have e1 : ((l : Int) == 1) = false := by simp; omega
 have e2 : ¬ (l : Int) < (m : Int) := by omega
 have e3 : (m : Int) < 40 := by omega
 have b1 : Hid (i0.bytes * (l + m) ≤ 281474976710656) := by show _ ≤ _; rw [hz2]; omega
 have b2' : Hid (l + m ≤ maxLen) := by show _ ≤ _; unfold maxLen; omega
 have b3 : Hid (Wd 18446744073709551616 (List.replicate (l + m) 0)) := wd_zeros (by decide) _
 go_enter Tryz.func104, Tryz.ntmps104
 go_wp2_with (first
  | (at_make; refine wpList_make_full _ rfl (.tmp 32) (.tmp 32) 26 rfl w.heap.size 60 i0 (.int .u64 0) 1 Tryz.underlying26 hi hz0 hz1 .i64 .i64 _ _ (l + m) rfl rfl (by omega) (by omega) b1.out b2'.out (Nat.le_refl _) ?_; intro w1 hown1 hgrow1; have HB : Hid (Blk w1 w.heap.size .u64 60 (List.replicate (l + m) 0) ∧ Below w.heap.size w w1) := ⟨made_blk hown1, grown_below hgrow1⟩; clear hown1 hgrow1)
  | (go_at_call 119; refine (timesPlain_reg w.heap.size 0 (l + m) (l + m) b o l c b2 o2 m c2 y r w1 rfl ⟨_, HB.out.1, b3.out, by simp⟩ (Nat.le_refl _) (by omega) (HM.out.1.grown HB.out.2) (HM.out.2.grown HB.out.2) (by omega) (ap_new HM.out.1 (by omega) (Nat.le_refl _)) (ap_new HM.out.2 hm (Nat.le_refl _))).mono ?_; rintro e w2 ⟨rfl, hC, hV⟩; have HB2 : Hid (Below w.heap.size w w2) := HB.out.2.trans (hC.toBelow (HB.out.2.size) (fun g' j hg' hF => (by have := hF.1; omega))); obtain ⟨L', hb2, hl2, hw2, hv2⟩ := times_end HB.out.1 hC hV; have HL : Hid (l + m = L'.length ∧ val 18446744073709551616 L' = y * r) := ⟨hl2, hv2⟩; clear hl2 hv2 hC hV)
  | (go_at_call 123; refine (trim_any (some ⟨w.heap.size, 0, none⟩) (l + m) (l + m) L' w2 (Own.whole hb2 (Nat.le_refl _) HL.out.1).row (by omega)).mono ?_; rintro e w4 ⟨hT, rfl⟩; obtain ⟨ao', n', cap', hn', rfl, hrest⟩ := hT))
 go_ret
 obtain ⟨N, hN⟩ := Int.eq_ofNat_of_zero_le (Int.mul_nonneg HM.out.1.nonneg HM.out.2.nonneg)
 exact ⟨N, hN.symm, Trimmed.nat (L := L') ⟨ao', n', cap', hn', rfl, hrest⟩ hb2 HL.out.1 (Nat.le_refl _) hw2 (by rw [HL.out.2, hN]) HB2.out⟩
theorem times_halves (m : Nat) (h40 : 40 ≤ m) (b o c b2 o2 c2 : Nat) (y r : Int) (w : World) (hl32 : m ≤ 4294967296) (HM : Hid (RowV w (some ⟨b, o, none⟩) m c y ∧ RowV w (some ⟨b2, o2, none⟩) m c2 r)) :
  Calls Tryz.prog 104 #[.slice (some ⟨b, o, none⟩) m c, .slice (some ⟨b2, o2, none⟩) m c2] w fun e w' => ∃ N : Nat, (N : Int) = y * r ∧ NewNat w w' e N := by
 obtain ⟨i0, hi, hz0, hz1, hz2⟩ := info_parts info64
 obtain ⟨kr, hkr⟩ : ∃ kr, hrooms m = kr := ⟨_, rfl⟩
 have hcr := fun W => halvesRoom_any m W (by omega)
 rw [hkr] at hcr
 have hk5 := hrooms_le m
 rw [hkr] at hk5
 have HK : Hid (hrooms m = kr) := hkr
 have HO : Hid (HalvesOk m) := halves_all m (by omega)
 have e0 : ((m : Int) == 0) = false := by simp; omega
 have e1 : ((m : Int) == 1) = false := by simp; omega
 have e2 : ¬ (m : Int) < (m : Int) := by omega
 have e3 : ¬ (m : Int) < 40 := by omega
 have b1 : Hid (i0.bytes * (m + m) ≤ 281474976710656) := by show _ ≤ _; rw [hz2]; omega
 have b2' : Hid (m + m ≤ maxLen) := by show _ ≤ _; unfold maxLen; omega
 have b3 : Hid (Wd 18446744073709551616 (List.replicate (m + m) 0)) := wd_zeros (by decide) _
 have b4 : Hid (i0.bytes * kr ≤ 281474976710656) := by show _ ≤ _; rw [hz2]; omega
 have b5 : Hid (kr ≤ maxLen) := by show _ ≤ _; unfold maxLen; omega
 have b6 : Hid (Wd 18446744073709551616 (List.replicate kr 0)) := wd_zeros (by decide) _
 clear hkr
 go_enter Tryz.func104, Tryz.ntmps104
 go_wp2_with (first
  | (go_at_call 121; refine (hcr _).mono ?_; rintro e w0 ⟨rfl, hw0⟩; replace hw0 := hw0.symm; subst hw0)
  | (at_make; refine wpList_make_full _ rfl (.tmp 32) (.tmp 32) 26 rfl w.heap.size 60 i0 (.int .u64 0) 1 Tryz.underlying26 hi hz0 hz1 .i64 .i64 _ _ (m + m) rfl rfl (by omega) (by omega) b1.out b2'.out (Nat.le_refl _) ?_; intro w1 hown1 hgrow1; have HB : Hid (Blk w1 w.heap.size .u64 60 (List.replicate (m + m) 0) ∧ Below w.heap.size w w1) := ⟨made_blk hown1, grown_below hgrow1⟩; clear hown1 hgrow1)
  | (at_make; refine wpList_make_full _ rfl (.tmp 57) (.tmp 57) 25 rfl 0 60 i0 (.int .u64 0) 1 Tryz.underlying25 hi hz0 hz1 .i64 .i64 _ _ kr rfl rfl (by omega) (by omega) b4.out b5.out (Nat.zero_le _) ?_; intro w2 hown2 hgrow2; have HB2 : Hid (Blk w2 w.heap.size .u64 60 (List.replicate (m + m) 0) ∧ Below w.heap.size w w2 ∧ Blk w2 w1.heap.size .u64 60 (List.replicate kr 0) ∧ w.heap.size < w1.heap.size) := ⟨HB.out.1.all (grown_below hgrow2), HB.out.2.trans (below_less (grown_below hgrow2) HB.out.2.size), made_blk hown2, HB.out.1.lt⟩; clear hown2 hgrow2)
  | (go_at_call 120; refine (HO.out w.heap.size 0 (m + m) (m + m) b o m c b2 o2 m c2 w1.heap.size 0 kr kr (some ⟨w1.heap.size, 0, none⟩) y r w2 ⟨rfl, rfl, rfl, Or.inr rfl⟩ (Nat.le_refl _) (by omega) (Nat.le_of_eq HK.out) (Nat.le_refl _) (by omega) ⟨⟨_, HB2.out.1, b3.out, by simp⟩, ⟨_, HB2.out.2.2.1, b6.out, by simp⟩, HM.out.1.grown HB2.out.2.1, HM.out.2.grown HB2.out.2.1⟩ ⟨fun e => (by have := HB2.out.2.2.2; omega), ap_new HM.out.1 (by omega) (Nat.le_refl _), ap_new HM.out.1 (by omega) (Nat.le_of_lt HB2.out.2.2.2), ap_new HM.out.2 (by omega) (Nat.le_refl _), ap_new HM.out.2 (by omega) (Nat.le_of_lt HB2.out.2.2.2)⟩).mono ?_; rintro e w3 ⟨rfl, hC, hV⟩; have HB3 : Hid (Below w.heap.size w w3) := HB2.out.2.1.trans (hC.toBelow (HB2.out.2.1.size) (fun g' j hg' hF => (by have h1 := HB2.out.2.2.2; rcases hF with hF | hF <;> (have := hF.1; omega)))); obtain ⟨L', hb2, hl2, hw2, hv2⟩ := times_end HB2.out.1 hC hV; have HL : Hid (m + m = L'.length ∧ val 18446744073709551616 L' = y * r) := ⟨hl2, hv2⟩; clear hl2 hv2 hC hV)
  | (go_at_call 123; refine (trim_any (some ⟨w.heap.size, 0, none⟩) (m + m) (m + m) L' w3 (Own.whole hb2 (Nat.le_refl _) HL.out.1).row (by omega)).mono ?_; rintro e w4 ⟨hT, rfl⟩; obtain ⟨ao', n', cap', hn', rfl, hrest⟩ := hT))
 go_ret
 obtain ⟨N, hN⟩ := Int.eq_ofNat_of_zero_le (Int.mul_nonneg HM.out.1.nonneg HM.out.2.nonneg)
 exact ⟨N, hN.symm, Trimmed.nat (L := L') ⟨ao', n', cap', hn', rfl, hrest⟩ hb2 HL.out.1 (Nat.le_refl _) hw2 (by rw [HL.out.2, hN]) HB3.out⟩
theorem times_pieces (m : Nat) (h40 : 40 ≤ m) (hT : ∀ k, 0 < k → k < m → TimesOk k) (b o l c b2 o2 c2 : Nat) (y r : Int) (w : World) (hml : m < l) (hl32 : l ≤ 4294967296) (HM : Hid (RowV w (some ⟨b, o, none⟩) l c y ∧ RowV w (some ⟨b2, o2, none⟩) m c2 r)) :
  Calls Tryz.prog 104 #[.slice (some ⟨b, o, none⟩) l c, .slice (some ⟨b2, o2, none⟩) m c2] w fun e w' => ∃ N : Nat, (N : Int) = y * r ∧ NewNat w w' e N := by
 obtain ⟨i0, hi, hz0, hz1, hz2⟩ := info_parts info64
 have HT : Hid (∀ k, 0 < k → k < m → TimesOk k) := hT
 have e0 : ((m : Int) == 0) = false := by simp; omega
 have e1 : ((l : Int) == 1) = false := by simp; omega
 have e2 : ¬ (l : Int) < (m : Int) := by omega
 have e3 : ¬ (m : Int) < 40 := by omega
 have e4 : ((l : Int) == (m : Int)) = false := by simp; omega
 have b1 : Hid (i0.bytes * (l + m) ≤ 281474976710656) := by show _ ≤ _; rw [hz2]; omega
 have b2' : Hid (l + m ≤ maxLen) := by show _ ≤ _; unfold maxLen; omega
 have b3 : Hid (Wd 18446744073709551616 (List.replicate (l + m) 0)) := wd_zeros (by decide) _
 clear hT
 go_enter Tryz.func104, Tryz.ntmps104
 go_wp2_with (first
  | (at_make; refine wpList_make_full _ rfl (.tmp 32) (.tmp 32) 26 rfl w.heap.size 60 i0 (.int .u64 0) 1 Tryz.underlying26 hi hz0 hz1 .i64 .i64 _ _ (l + m) rfl rfl (by omega) (by omega) b1.out b2'.out (Nat.le_refl _) ?_; intro w1 hown1 hgrow1; have HB : Hid (Blk w1 w.heap.size .u64 60 (List.replicate (l + m) 0) ∧ Below w.heap.size w w1) := ⟨made_blk hown1, grown_below hgrow1⟩; clear hown1 hgrow1)
  | (go_at_call 122; refine (timesPieces_any m HT.out w.heap.size 0 (l + m) (l + m) b o l c b2 o2 c2 y r w1 h40 hml hl32 rfl (Nat.le_refl _) (by omega) ⟨⟨_, HB.out.1, b3.out, by simp⟩, zero_row HB.out.1, HM.out.1.grown HB.out.2, HM.out.2.grown HB.out.2⟩ ⟨ap_new HM.out.1 (by omega) (Nat.le_refl _), ap_new HM.out.2 (by omega) (Nat.le_refl _)⟩).mono ?_; rintro e w2 ⟨rfl, hC, hV⟩; have HB2 : Hid (Below w.heap.size w w2) := HB.out.2.trans (hC.toBelow (HB.out.2.size) (fun g' j hg' hF => (by have := hF.1; omega))); obtain ⟨L', hb2, hl2, hw2, hv2⟩ := times_end HB.out.1 hC hV; have HL : Hid (l + m = L'.length ∧ val 18446744073709551616 L' = y * r) := ⟨hl2, hv2⟩; clear hl2 hv2 hC hV)
  | (go_at_call 123; refine (trim_any (some ⟨w.heap.size, 0, none⟩) (l + m) (l + m) L' w2 (Own.whole hb2 (Nat.le_refl _) HL.out.1).row (by omega)).mono ?_; rintro e w4 ⟨hT, rfl⟩; obtain ⟨ao', n', cap', hn', rfl, hrest⟩ := hT))
 go_ret
 obtain ⟨N, hN⟩ := Int.eq_ofNat_of_zero_le (Int.mul_nonneg HM.out.1.nonneg HM.out.2.nonneg)
 exact ⟨N, hN.symm, Trimmed.nat (L := L') ⟨ao', n', cap', hn', rfl, hrest⟩ hb2 HL.out.1 (Nat.le_refl _) hw2 (by rw [HL.out.2, hN]) HB2.out⟩
theorem times_rows (m : Nat) : 0 < m → TimesOk m := by
 induction m using Nat.strongRecOn with
 | ind m ih =>
  intro hm
  by_cases h40 : m < 40
  ·
   exact times_plain m hm h40
  ·
   intro b o l c b2 o2 c2 y r w hml hl32 h2 HM
   by_cases e : m = l
   ·
    subst e; exact times_halves m (by omega) b o c b2 o2 c2 y r w hl32 HM
   ·
    exact times_pieces m (by omega) (fun k h1 h2 => ih k h2 h1) b o l c b2 o2 c2 y r w (by omega) hl32 HM
theorem times_turned (m : Nat) (h40 : 40 ≤ m) (b o l c b2 o2 c2 : Nat) (y r : Int) (w : World) (hml : m < l) (hl32 : l ≤ 4294967296) (HM : Hid (RowV w (some ⟨b, o, none⟩) l c y ∧ RowV w (some ⟨b2, o2, none⟩) m c2 r)) :
  Calls Tryz.prog 104 #[.slice (some ⟨b2, o2, none⟩) m c2, .slice (some ⟨b, o, none⟩) l c] w fun e w' => ∃ N : Nat, (N : Int) = y * r ∧ NewNat w w' e N := by
 obtain ⟨i0, hi, hz0, hz1, hz2⟩ := info_parts info64
 have HT : Hid (∀ k, 0 < k → k < m → TimesOk k) := fun k h1 h2 => times_rows k h1
 have e0 : ((m : Int) == 0) = false := by simp; omega
 have e1 : ((l : Int) == 1) = false := by simp; omega
 have e2 : (m : Int) < (l : Int) := by omega
 have e3 : ¬ (m : Int) < 40 := by omega
 have e4 : ((l : Int) == (m : Int)) = false := by simp; omega
 have b1 : Hid (i0.bytes * (l + m) ≤ 281474976710656) := by show _ ≤ _; rw [hz2]; omega
 have b2' : Hid (l + m ≤ maxLen) := by show _ ≤ _; unfold maxLen; omega
 have b3 : Hid (Wd 18446744073709551616 (List.replicate (l + m) 0)) := wd_zeros (by decide) _
 go_enter Tryz.func104, Tryz.ntmps104
 go_wp2_with (first
  | (at_make; refine wpList_make_full _ rfl (.tmp 32) (.tmp 32) 26 rfl w.heap.size 60 i0 (.int .u64 0) 1 Tryz.underlying26 hi hz0 hz1 .i64 .i64 _ _ (l + m) rfl rfl (by omega) (by omega) b1.out b2'.out (Nat.le_refl _) ?_; intro w1 hown1 hgrow1; have HB : Hid (Blk w1 w.heap.size .u64 60 (List.replicate (l + m) 0) ∧ Below w.heap.size w w1) := ⟨made_blk hown1, grown_below hgrow1⟩; clear hown1 hgrow1)
  | (go_at_call 122; refine (timesPieces_any m HT.out w.heap.size 0 (l + m) (l + m) b o l c b2 o2 c2 y r w1 h40 hml hl32 rfl (Nat.le_refl _) (by omega) ⟨⟨_, HB.out.1, b3.out, by simp⟩, zero_row HB.out.1, HM.out.1.grown HB.out.2, HM.out.2.grown HB.out.2⟩ ⟨ap_new HM.out.1 (by omega) (Nat.le_refl _), ap_new HM.out.2 (by omega) (Nat.le_refl _)⟩).mono ?_; rintro e w2 ⟨rfl, hC, hV⟩; have HB2 : Hid (Below w.heap.size w w2) := HB.out.2.trans (hC.toBelow (HB.out.2.size) (fun g' j hg' hF => (by have := hF.1; omega))); obtain ⟨L', hb2, hl2, hw2, hv2⟩ := times_end HB.out.1 hC hV; have HL : Hid (l + m = L'.length ∧ val 18446744073709551616 L' = y * r) := ⟨hl2, hv2⟩; clear hl2 hv2 hC hV)
  | (go_at_call 123; refine (trim_any (some ⟨w.heap.size, 0, none⟩) (l + m) (l + m) L' w2 (Own.whole hb2 (Nat.le_refl _) HL.out.1).row (by omega)).mono ?_; rintro e w4 ⟨hT, rfl⟩; obtain ⟨ao', n', cap', hn', rfl, hrest⟩ := hT))
 go_ret
 obtain ⟨N, hN⟩ := Int.eq_ofNat_of_zero_le (Int.mul_nonneg HM.out.1.nonneg HM.out.2.nonneg)
 exact ⟨N, hN.symm, Trimmed.nat (L := L') ⟨ao', n', cap', hn', rfl, hrest⟩ hb2 HL.out.1 (Nat.le_refl _) hw2 (by rw [HL.out.2, hN]) HB2.out⟩
theorem times_any (ao bo : Option Addr) (la ca lb cb : Nat) (a b : Nat) (w : World) (hxa : RowAt w .u64 ao la ca (mag a)) (hxb : RowAt w .u64 bo lb cb (mag b)) (hl : la ≤ 4294967296) (hl' : lb ≤ 4294967296) :
  Calls Tryz.prog 104 #[.slice ao la ca, .slice bo lb cb] w fun e w' => NewNat w w' e (a * b) := by
 by_cases h40 : la < 40 ∨ lb < 40
 ·
  exact times_small ao bo la ca lb cb a b w hxa hxb hl hl' h40
 ·
  obtain ⟨p, o, rfl, _, _⟩ := hxa.get (by omega)
  obtain ⟨p', o', rfl, _, _⟩ := hxb.get (by omega)
  have ra : RowV w (some ⟨p, o, none⟩) la ca a := ⟨_, hxa, mag_wd a, mag_val a⟩
  have rb : RowV w (some ⟨p', o', none⟩) lb cb b := ⟨_, hxb, mag_wd b, mag_val b⟩
  by_cases hlt : la < lb
  ·
   refine (times_turned la (by omega) p' o' lb cb p o ca b a w hlt hl' ⟨rb, ra⟩).mono ?_
   rintro e w' ⟨N, hN, h⟩
   have : N = a * b := by rw [← Int.natCast_mul] at hN; rw [Nat.mul_comm]; exact Int.ofNat.inj hN
   rwa [this] at h
  ·
   refine (times_rows lb (by omega) p o la ca p' o' cb a b w (by omega) hl (by omega) ⟨ra, rb⟩).mono ?_
   rintro e w' ⟨N, hN, h⟩
   have : N = a * b := by rw [← Int.natCast_mul] at hN; exact Int.ofNat.inj hN
   rwa [this] at h
end Go.Proofs.YthjkdnlbdhhmbaaGreatDoor
