/-
  Walks: the page's product of polynomials.
-/
import Derived.Test.YtnodcfeimiimbaaJE
namespace Go.Proofs.Ytnodcfeimiimbaa
open Go.RowKit
set_option linter.unusedVariables false
set_option linter.unusedSimpArgs false

set_option maxRecDepth 100000 in
set_option maxHeartbeats 1000000 in
/-- what has a lead stays as it is -/
theorem ptrim_lead (ao : Option Addr) (len cap : Nat) (p : List Int) (w : World) (hp : PolyAt w ao len cap p) (hpos : 0 < len) (hl : len ≤ 1048576) (hL : Lead p) :
    Calls Try.prog 34 #[.slice ao len cap] w fun e w' => e = .returned (.slice ao len cap) ∧ Below w.heap.size w w' := by
  obtain ⟨b, off, rfl, hat⟩ := hp.get hpos
  obtain ⟨n1, ao1, l1, c1, ⟨e0, e1⟩, hi1⟩ := hat (len - 1) (by omega)
  have hz : ((l1 : Int) == 0) = false := by
    have h3 := hL (by rw [← hp.hlen]; exact hpos)
    rw [← hp.hlen] at h3
    have h4 := lim_pos h3
    have h5 := hi1.lim
    simp; omega
  have hcon : ∀ W', Calls Try.prog 16 #[.agg #[.bool n1, .slice ao1 l1 c1]] W' fun e w' => e = .returned (.bool false) ∧ Below W'.heap.size W' w' := fun W' => rzero_any n1 ao1 l1 c1 W' false hz
  have hcap := hp.hcap
  have hidx : (len : Int) - 1 = ((len - 1 : Nat) : Int) := by omega
  have hk1 : len - 1 < len := by omega
  have hpI : (0 : Int) < (len : Int) := by omega
  have y1 : (0 : Int) ≤ (len : Int) := by omega
  have y2 : (len : Int) ≤ (cap : Int) := by omega
  clear hp hL hat hi1 hz
  go_enter Try.func34, Try.ntmps34
  go_wp2
  go_loopw [3] (fun i wr => i = .int .i64 (len : Int) ∧ wr = w) (fun i _ => 0)
  case atStart => exact ⟨rfl, rfl⟩
  case round =>
    obtain ⟨rfl, rfl⟩ := hrel
    go_wp2_with (go_at_call 16; refine (hcon _).mono ?_; rintro e w1 ⟨rfl, hb1⟩)
    go_ret
    exact ⟨rfl, hb1⟩

theorem PolyAt.at {w : World} {ao : Option Addr} {len cap k : Nat} {p : List Int} (h : PolyAt w ao len cap p) (hk : k < len) : ∃ b off n1 ao1 l1 c1, ao = some ⟨b, off, none⟩ ∧ w.cell? ⟨b, off + k * 2, none⟩ = some (.bool n1) ∧ w.cell? ⟨b, off + k * 2 + 1, none⟩ = some (.slice ao1 l1 c1) ∧ IntAt w n1 ao1 l1 c1 (dig p k) := by
  obtain ⟨b, off, h1, hat⟩ := h.get (by omega)
  obtain ⟨n1, ao1, l1, c1, ⟨h0, h1'⟩, hi⟩ := hat k hk
  exact ⟨b, off, n1, ao1, l1, c1, h1, h0, h1', hi⟩
theorem lim_set {M D : Nat} {l : List Int} {j : Nat} {v : Int} (h : Lim M l) (hv : lim v ≤ M + D) : Lim (M + D) (l.set j v) := by
  intro t
  by_cases ht : t < l.length
  · rw [pdig_set _ _ _ _ ht]
    split
    · exact hv
    · exact Nat.le_trans (h t) (by omega)
  · rw [dig_past (by simp; omega), lim_zero]; omega
theorem mul_lims {M A i k : Nat} {a b : Int} {l : List Int} (h : Lim (M * (2 * A + 1)) l) (ha : lim a ≤ A) (hb : lim b ≤ A) : Lim ((M + 1) * (2 * A + 1)) (l.set (i + k) (dig l (i + k) + a * b)) := by
  rw [Nat.succ_mul]
  refine lim_set h ?_
  have h1 := lim_add (dig l (i + k)) (a * b)
  have h2 := lim_mul a b
  have h3 := h (i + k)
  omega

set_option maxRecDepth 100000 in
set_option maxHeartbeats 4000000 in
theorem ptimes_any (ao bo : Option Addr) (la ca lb cb A : Nat) (p s : List Int) (w : World) (hp : PolyAt w ao la ca p) (hs : PolyAt w bo lb cb s) (hla : 0 < la) (hlb : 0 < lb) (hla' : la ≤ 20) (hlb' : lb ≤ 20) (hA : A ≤ 100000) (hlp : Lim A p) (hls : Lim A s) (hLp : Lead p) (hLs : Lead s) :
    Calls Try.prog 14 #[.slice ao la ca, .slice bo lb cb] w fun e w' => ∃ g N, N = (mulL p s).length ∧ e = .returned (.slice (some ⟨g, 0, none⟩) N N) ∧ PolyAt w' (some ⟨g, 0, none⟩) N N (mulL p s) ∧ Lim (400 * (2 * A + 1)) (mulL p s) ∧ Below w.heap.size w w' := by
  have HR : Hid (PolyAt w ao la ca p ∧ PolyAt w bo lb cb s ∧ Lim A p ∧ Lim A s ∧ la = p.length ∧ lb = s.length) := ⟨hp, hs, hlp, hls, hp.hlen, hs.hlen⟩
  have HL : Hid (Lead p ∧ Lead s) := ⟨hLp, hLs⟩
  clear hp hs hlp hls hLp hLs
  obtain ⟨N, hN⟩ : ∃ N : Nat, N + 1 = la + lb := ⟨la + lb - 1, by omega⟩
  have hNI : (la : Int) + (lb : Int) - 1 = (N : Int) := by omega
  have HN : Hid (N = p.length + s.length - 1 ∧ N + 1 = la + lb) := ⟨by have := HR.out.2.2.2.2; omega, hN⟩
  have hN40 : N ≤ 40 := by omega
  clear hN
  have q1 : ((la : Int) == 0) = false := by simp; omega
  have q2 : ((lb : Int) == 0) = false := by simp; omega
  obtain ⟨i0, hi, hz0, hz1, hz2⟩ := info_parts infoInt
  have b1 : Hid (i0.bytes * N ≤ 281474976710656) := by show _ ≤ _; rw [hz2]; omega
  have b2 : Hid (N ≤ maxLen) := by show _ ≤ _; unfold maxLen; omega
  go_enter Try.func14, Try.ntmps14
  go_wp2_with (at_make; refine wpList_make_full _ rfl (.tmp 21) (.tmp 21) 24 rfl w.heap.size 28 i0 (.agg #[.bool false, .slice none 0 0]) 2 Try.underlying24 hi hz0 hz1 .i64 .i64 _ _ N rfl rfl rfl rfl b1.out b2.out (Nat.le_refl _) ?_; intro w1 hown1 hgrow1)
  have HM : Hid (PBlk w1 w.heap.size (List.replicate N 0) ∧ w.heap.size < w1.heap.size ∧ Below w.heap.size w w1) := ⟨(pblk_of_made hown1).1, (pblk_of_made hown1).2, grown_below hgrow1⟩
  clear hown1 hgrow1 hNI
  go_loopw [6] (fun ii wr => ∃ (i : Nat) (l : List Int), i ≤ la ∧ ii = .int .i64 i ∧ Below w.heap.size w wr ∧ w.heap.size < wr.heap.size ∧ PBlk wr w.heap.size l ∧ PMulSt p s i 0 l ∧ Lim (i * lb * (2 * A + 1)) l) (fun ii _ => la - (intOf ii).toNat)
  case atStart => exact ⟨0, _, Nat.zero_le _, rfl, HM.out.2.2, HM.out.2.1, HM.out.1, by rw [HN.out.1]; exact PMulSt.start p s, fun t => by rw [rep_dig, lim_zero]; omega⟩
  case round =>
    obtain ⟨i, l, hi', rfl, hbel, hgw, hPB, hst, hlm⟩ := hrel
    have HS : Hid (PBlk wr w.heap.size l ∧ PMulSt p s i 0 l ∧ Below w.heap.size w wr ∧ Lim (i * lb * (2 * A + 1)) l) := ⟨hPB, hst, hbel, hlm⟩
    clear hPB hst hbel hlm
    by_cases hlt : i < la
    · go_wp2
      go_loopw [7] (fun kk w3 => ∃ (k : Nat) (l : List Int), k ≤ lb ∧ kk = .int .i64 k ∧ Below w.heap.size w w3 ∧ w.heap.size < w3.heap.size ∧ PBlk w3 w.heap.size l ∧ PMulSt p s i k l ∧ Lim ((i * lb + k) * (2 * A + 1)) l) (fun kk _ => lb - (intOf kk).toNat)
      case atStart => exact ⟨0, l, Nat.zero_le _, rfl, HS.out.2.2.1, hgw, HS.out.1, HS.out.2.1, HS.out.2.2.2⟩
      case round =>
        obtain ⟨k, lk, hk, rfl, hbel, hgk, hPB, hst, hlm⟩ := hrel
        have HT : Hid (PBlk wr w.heap.size lk ∧ PMulSt p s i k lk ∧ Below w.heap.size w wr ∧ Lim ((i * lb + k) * (2 * A + 1)) lk) := ⟨hPB, hst, hbel, hlm⟩
        by_cases hkl : k < lb
        · have hlk : lk.length = N := by rw [hst.1]; exact HN.out.1.symm
          have hik : i + k < N := by have := HN.out.2; omega
          obtain ⟨n1, ao1, l1, c1, ⟨e0, e1⟩, hi1⟩ := hPB.coef (i + k) (by omega)
          obtain ⟨b2', off2, n2, ao2, l2, c2, rfl, f0, f1, hi2⟩ := (HR.out.1.later hbel).at hlt
          obtain ⟨b3', off3, n3, ao3, l3, c3, rfl, g0, g1, hi3⟩ := (HR.out.2.1.later hbel).at hkl
          have hM : (i * lb + k) * (2 * A + 1) ≤ 80000000 + 400 := by
            have h1 : i * lb ≤ 19 * 20 := Nat.mul_le_mul (by omega) (by omega)
            have h2 : (i * lb + k) * (2 * A + 1) ≤ 400 * 200001 := Nat.mul_le_mul (by omega) (by omega)
            omega
          have hl1 : l1 ≤ 90000000 := by rw [hi1.lim]; have := hlm (i + k); omega
          have hl2 : l2 ≤ 100000 := by rw [hi2.lim]; have := HR.out.2.2.1 i; omega
          have hl3 : l3 ≤ 100000 := by rw [hi3.lim]; have := HR.out.2.2.2.1 k; omega
          have HI : Hid (IntAt wr n1 ao1 l1 c1 (dig lk (i + k)) ∧ IntAt wr n2 ao2 l2 c2 (dig p i) ∧ IntAt wr n3 ao3 l3 c3 (dig s k) ∧ i + k < lk.length) := ⟨hi1, hi2, hi3, by omega⟩
          have hfz := hPB.soft
          have z1 : (0 : Int) ≤ (i : Int) := by omega
          have z2 : (i : Int) < (la : Int) := by omega
          have z3 : (0 : Int) ≤ (k : Int) := by omega
          have z4 : (k : Int) < (lb : Int) := by omega
          have z5 : IntKind.i64.wrap ((i : Int) + (k : Int)) = (i : Int) + (k : Int) := by rw [IntKind.wrap_i64]; omega
          have z6 : ((i : Int) + (k : Int)).toNat = i + k := by omega
          have z7 : (0 : Int) ≤ (i : Int) + (k : Int) := by omega
          have z8 : (i : Int) + (k : Int) < (N : Int) := by omega
          clear hPB hst hlk hi1 hi2 hi3 hlm hM
          go_wp2
          go_region_with (first
            | (go_at_call 33; refine (rtimes_any n2 n3 ao2 ao3 l2 c2 l3 c3 (dig p i) (dig s k) _ (HI.out.2.1.later (Below.refl _ _).drew) (HI.out.2.2.1.later (Below.refl _ _).drew) (by omega) (by omega)).mono ?_; rintro e w4 ⟨n4, ao4, l4, c4, rfl, hs4, ho4, hb4'⟩; have hb4 : Below wr.heap.size wr w4 := bnext (Below.refl _ _).drew hb4'; clear hb4'; have HI4 : Hid (IntAt w4 n4 ao4 l4 c4 (dig p i * dig s k) ∧ IntAt w4 n1 ao1 l1 c1 (dig lk (i + k))) := ⟨ho4.int hs4, HI.out.1.later hb4⟩; have hl4 : l4 ≤ 200000 := (by have h1 := (ho4.int hs4).lim; have h2 := lim_mul (dig p i) (dig s k); have h3 := HR.out.2.2.1 i; have h4 := HR.out.2.2.2.1 k; omega); clear hs4 ho4; obtain ⟨t0, t1, t2⟩ : w4.cell? ⟨w.heap.size, (i + k) * 2, none⟩ = some (.bool n1) ∧ w4.cell? ⟨w.heap.size, (i + k) * 2 + 1, none⟩ = some (.slice ao1 l1 c1) ∧ (∀ m, w4.frozen? ⟨w.heap.size, m, none⟩ = false) := ⟨(hb4.cell (p := ⟨w.heap.size, (i + k) * 2, none⟩) hgk).trans e0, (hb4.cell (p := ⟨w.heap.size, (i + k) * 2 + 1, none⟩) hgk).trans e1, fun m => (hb4.frozen (p := ⟨w.heap.size, m, none⟩) hgk).trans (hfz m)⟩)
            | (go_at_call 10; refine (rplus_any n1 n4 ao1 ao4 l1 c1 l4 c4 (dig lk (i + k)) (dig p i * dig s k) w4 HI4.out.2 HI4.out.1 (by omega) (by omega)).mono ?_; rintro e w5 ⟨n5, ao5, l5, c5, rfl, hi5, hb5⟩; have HI5 : Hid (IntAt w5 n5 ao5 l5 c5 (dig lk (i + k) + dig p i * dig s k)) := hi5; have hb6 : Below wr.heap.size wr w5 := bnext hb4 hb5; obtain ⟨r0, r1, r2⟩ : w5.cell? ⟨w.heap.size, (i + k) * 2, none⟩ = some (.bool n1) ∧ w5.cell? ⟨w.heap.size, (i + k) * 2 + 1, none⟩ = some (.slice ao1 l1 c1) ∧ (∀ m, w5.frozen? ⟨w.heap.size, m, none⟩ = false) := ⟨(hb6.cell (p := ⟨w.heap.size, (i + k) * 2, none⟩) hgk).trans e0, (hb6.cell (p := ⟨w.heap.size, (i + k) * 2 + 1, none⟩) hgk).trans e1, fun m => (hb6.frozen (p := ⟨w.heap.size, m, none⟩) hgk).trans (hfz m)⟩; clear hi5 hb5))
          all_goals go_wp2
          all_goals go_roundw
          all_goals first
            | exact ⟨k + 1, lk.set (i + k) (dig lk (i + k) + dig p i * dig s k), by omega, by go_num, ((bnext HT.out.2.2.1 hb6).setCell (p := ⟨w.heap.size, (i + k) * 2, none⟩) (Nat.le_refl _) _).setCell (p := ⟨w.heap.size, (i + k) * 2 + 1, none⟩) (Nat.le_refl _) _, by (have := hb6.size; simp; omega), (HT.out.1.later hb6 hgk).put HI.out.2.2.2 HI5.out, HT.out.2.1.step (by rw [← HR.out.2.2.2.2.1]; exact hlt) (by rw [← HR.out.2.2.2.2.2]; exact hkl), mul_lims HT.out.2.2.2 (HR.out.2.2.1 i) (HR.out.2.2.2.1 k)⟩
            | (simp [intOf]; omega)
        · obtain rfl : k = lb := by omega
          have HO : Hid (PMulSt p s (i + 1) 0 lk) := PMulSt.row (by have := HT.out.2.1; rw [← HR.out.2.2.2.2.2]; exact this) (by rw [← HR.out.2.2.2.2.1]; exact hlt)
          go_wp2
          go_roundw
          case rel => exact ⟨i + 1, lk, by omega, by go_num, HT.out.2.2.1, hgk, HT.out.1, HO.out, by rw [Nat.succ_mul]; exact HT.out.2.2.2⟩
          case measure => simp [intOf]; omega
    · obtain rfl : i = la := by omega
      have HD : Hid (l = mulL p s ∧ N = (mulL p s).length ∧ Lead (mulL p s) ∧ Lim (400 * (2 * A + 1)) l) := by
        have e1 : l = mulL p s := PMulSt.done (by have := HS.out.2.1; rw [← HR.out.2.2.2.2.1]; exact this) (by rw [← HR.out.2.2.2.2.2]; exact hlb)
        refine ⟨e1, by rw [mulL_len _ _ (by rw [← HR.out.2.2.2.2.2]; exact hlb)]; exact HN.out.1, mul_lead HL.out.1 HL.out.2 (by rw [← HR.out.2.2.2.2.1]; exact hla) (by rw [← HR.out.2.2.2.2.2]; exact hlb), HS.out.2.2.2.mono ?_⟩
        exact Nat.mul_le_mul (Nat.mul_le_mul hla' hlb') (Nat.le_refl _)
      have HPP : Hid (PolyAt wr (some ⟨w.heap.size, 0, none⟩) N N (mulL p s)) := by
        have := HS.out.1; rw [HD.out.1] at this; exact this.poly HD.out.2.1
      go_wp2_with (go_at_call 34; refine (ptrim_lead (some ⟨w.heap.size, 0, none⟩) N N (mulL p s) _ HPP.out (by have := HN.out.2; omega) (by omega) HD.out.2.2.1).mono ?_; rintro e w4 ⟨rfl, hb4⟩)
      go_ret
      exact ⟨w.heap.size, N, HD.out.2.1, rfl, HPP.out.later hb4, by rw [← HD.out.1]; exact HD.out.2.2.2, bnext HS.out.2.2.1 hb4⟩
end Go.Proofs.Ytnodcfeimiimbaa
