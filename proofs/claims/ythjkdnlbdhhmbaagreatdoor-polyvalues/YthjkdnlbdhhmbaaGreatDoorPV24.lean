/-
  A pack of walks and facts: UI, UJ, UK, UL, YA, TA.
-/
import Derived.Test.YthjkdnlbdhhmbaaGreatDoorPV23
import Derived.ArgAppend
set_option maxRecDepth 100000
set_option maxHeartbeats 40000000
set_option linter.unusedVariables false
set_option linter.unusedSimpArgs false
namespace Go.Proofs.YthjkdnlbdhhmbaaGreatDoor
open Go.RowKit
theorem PMulSt.skip {p s l : List Int} {i : Nat} (h : PMulSt p s i 0 l) (hi : i < p.length) (h0 : dig p i = 0) : PMulSt p s (i + 1) 0 l := by
 refine ⟨h.1, fun x => ?_⟩
 rw [h.2 x, ev_take _ _ _ hi, h0]
 simp [ev]
theorem product_any (ao bo : Option Addr) (la ca lb cb A : Nat) (p s : List Int) (w : World) (hp : PolyAt w ao la ca p) (hs : PolyAt w bo lb cb s) (hla : 0 < la) (hlb : 0 < lb) (hla' : la ≤ 50) (hlb' : lb ≤ 50) (hA : A ≤ 100000) (hlp : Lim A p) (hls : Lim A s) :
  Calls Tryz.prog 68 #[.slice ao la ca, .slice bo lb cb] w fun e w' => NewPO w w' e (trimL (mulL p s)) := by
 have HR : Hid (PolyAt w ao la ca p ∧ PolyAt w bo lb cb s ∧ Lim A p ∧ Lim A s ∧ la = p.length ∧ lb = s.length ∧ A ≤ 100000) := ⟨hp, hs, hlp, hls, hp.hlen, hs.hlen, hA⟩
 clear hp hs hlp hls
 obtain ⟨N, hN⟩ : ∃ N : Nat, N + 1 = la + lb := ⟨la + lb - 1, by omega⟩
 have hNI : (la : Int) + (lb : Int) - 1 = (N : Int) := by omega
 have HN : Hid (N = p.length + s.length - 1 ∧ N + 1 = la + lb) := ⟨by have := HR.out.2.2.2.2; omega, hN⟩
 have hN40 : N ≤ 100 := by omega
 clear hN
 go_enter Tryz.func68, Tryz.ntmps68
 go_wp2_with (go_at_call 96; refine (room_any N _ (by omega)).mono ?_; rintro e w0 ⟨rfl, hB0, hg0, hb0⟩)
 obtain ⟨g, hg⟩ : ∃ g, g = w.heap.size := ⟨_, rfl⟩
 rw [← hg]
 have HG : Hid (w.heap.size ≤ g ∧ PBlkO w.heap.size w0 g (List.replicate N 0) ∧ g < w0.heap.size ∧ Below w.heap.size w w0) := by rw [hg]; exact ⟨Nat.le_refl _, hB0 _, hg0, hb0⟩
 clear hB0 hg0 hb0 hg hNI
 go_loopw [19] (fun ii wr => ∃ (i : Nat) (l : List Int), i ≤ la ∧ ii = .int .i64 i ∧ Below w.heap.size w wr ∧ g < wr.heap.size ∧ PBlkO w.heap.size wr g l ∧ PMulSt p s i 0 l ∧ Lim (i * lb * (2 * A + 1)) l) (fun ii _ => la - (intOf ii).toNat)
 case atStart => exact ⟨0, _, Nat.zero_le _, rfl, HG.out.2.2.2, HG.out.2.2.1, HG.out.2.1, by rw [HN.out.1]; exact PMulSt.start p s, fun t => by rw [rep_dig, lim_zero]; omega⟩
 case round =>
  obtain ⟨i, l, hi', rfl, hbel, hgw, hPB, hst, hlm⟩ := hrel
  have HS : Hid (PBlkO w.heap.size wr g l ∧ PMulSt p s i 0 l ∧ Below w.heap.size w wr ∧ Lim (i * lb * (2 * A + 1)) l) := ⟨hPB, hst, hbel, hlm⟩
  clear hPB hst hlm
  by_cases hlt : i < la
  ·
   obtain ⟨b2, off2, n2, ao2, l2, c2, rfl, f0', f1', hi2⟩ := HR.out.1.at hlt
   have f0 := (hbel.cell (p := ⟨b2, off2 + i * 2, none⟩) (cell_lt f0')).trans f0'
   have f1 := (hbel.cell (p := ⟨b2, off2 + i * 2 + 1, none⟩) (cell_lt f1')).trans f1'
   have hXa : Below wr.heap.size wr (wr.alloc (.cells #[.bool n2, .slice ao2 l2 c2] 28)) := (Below.refl _ _).alloc (Nat.le_refl _) _
   obtain ⟨ra, hra⟩ : ∃ ra, ra = wr.heap.size := ⟨_, rfl⟩
   have HBA : Hid (Boxed (wr.alloc (.cells #[.bool n2, .slice ao2 l2 c2] 28)) ra n2 ao2 l2 c2 ∧ ra < (wr.alloc (.cells #[.bool n2, .slice ao2 l2 c2] 28)).heap.size ∧ g ≠ ra) := by rw [hra]; exact ⟨⟨by simp [go_sem], by simp [go_sem]⟩, by simp, by omega⟩
   have HI2 : Hid (IntAt w n2 ao2 l2 c2 (dig p i)) := hi2
   have hl2 : l2 ≤ 100000 := by rw [hi2.lim]; have := HR.out.2.2.1 i; have := HR.out.2.2.2.2.2.2; omega
   have HL2 : Hid (l2 = lim (dig p i)) := hi2.lim
   have z1 : (0 : Int) ≤ (i : Int) := by omega
   have z2 : (i : Int) < (la : Int) := by omega
   clear hi2 f0' f1'
   by_cases hz : l2 = 0
   ·
    have HZ : Hid (dig p i = 0) := zero_of_lim (by rw [← HL2.out]; exact hz)
    have hcz : ∀ W', Calls Tryz.prog 51 #[.agg #[.bool n2, .slice ao2 l2 c2]] W' fun e w' => e = .returned (.bool true) ∧ Below W'.heap.size W' w' := fun W' => isZero_any n2 ao2 l2 c2 W' true (by simp; omega)
    clear hz hra
    go_wp2_with (go_at_call 51; refine (hcz _).mono ?_; rintro e w1 ⟨rfl, hb1⟩; have hA1 : Below wr.heap.size wr w1 := bnext hXa hb1)
    go_roundw
    case rel => exact ⟨i + 1, l, by omega, by go_num, bnext HS.out.2.2.1 hA1, Nat.lt_of_lt_of_le hgw hA1.size, HS.out.1.later hA1 hgw, HS.out.2.1.skip (by rw [← HR.out.2.2.2.2.1]; exact hlt) HZ.out, HS.out.2.2.2.mono (Nat.mul_le_mul_right _ (Nat.mul_le_mul_right _ (Nat.le_succ _)))⟩
    case measure => simp [intOf]; omega
   ·
    have hcz : ∀ W', Calls Tryz.prog 51 #[.agg #[.bool n2, .slice ao2 l2 c2]] W' fun e w' => e = .returned (.bool false) ∧ Below W'.heap.size W' w' := fun W' => isZero_any n2 ao2 l2 c2 W' false (by simp; omega)
    clear hz
    go_wp2_with (go_at_call 51; refine (hcz _).mono ?_; rintro e w1 ⟨rfl, hb1⟩; have hA1 : Below wr.heap.size wr w1 := bnext hXa hb1; have HB1 : Hid (Boxed w1 ra n2 ao2 l2 c2 ∧ ra < w1.heap.size) := ⟨HBA.out.1.later hb1 HBA.out.2.1, Nat.lt_of_lt_of_le HBA.out.2.1 hb1.size⟩)
    rw [← hra]
    have HNE : Hid (ra ≠ g ∧ True) := ⟨fun e => HBA.out.2.2 e.symm, trivial⟩
    clear hra HBA f0 f1
    go_loopw [28] (fun kk w3 => ∃ (k : Nat) (l : List Int), k ≤ lb ∧ kk = .int .i64 k ∧ Below w.heap.size w w3 ∧ g < w3.heap.size ∧ PBlkO w.heap.size w3 g l ∧ PMulSt p s i k l ∧ Lim ((i * lb + k) * (2 * A + 1)) l ∧ ra < w3.heap.size ∧ Boxed w3 ra n2 ao2 l2 c2) (fun kk _ => lb - (intOf kk).toNat)
    case atStart => exact ⟨0, l, Nat.zero_le _, rfl, bnext HS.out.2.2.1 hA1, Nat.lt_of_lt_of_le hgw hA1.size, HS.out.1.later hA1 hgw, HS.out.2.1, HS.out.2.2.2, HB1.out.2, HB1.out.1⟩
    case round =>
     obtain ⟨k, lk, hk, rfl, hbelk, hgk, hPB, hst, hlm, hrak, hbak⟩ := hrel
     have HT : Hid (PBlkO w.heap.size wr g lk ∧ PMulSt p s i k lk ∧ Below w.heap.size w wr ∧ Lim ((i * lb + k) * (2 * A + 1)) lk) := ⟨hPB, hst, hbelk, hlm⟩
     have HRA : Hid (ra < wr.heap.size) := hrak
     by_cases hkl : k < lb
     ·
      have hlk : lk.length = N := by rw [hst.1]; exact HN.out.1.symm
      have hik : i + k < N := by have := HN.out.2; omega
      obtain ⟨b3, off3, n3, ao3, l3, c3, rfl, g0, g1, hi3⟩ := (HR.out.2.1.later hbelk).at hkl
      obtain ⟨X, hX⟩ : ∃ X, X = wr.alloc (.cells #[.bool n3, .slice ao3 l3 c3] 28) := ⟨_, rfl⟩
      have hXb : Below wr.heap.size wr X := by rw [hX]; exact (Below.refl _ _).alloc (Nat.le_refl _) _
      obtain ⟨rb, hrb⟩ : ∃ rb, rb = wr.heap.size := ⟨_, rfl⟩
      have hgX : g < X.heap.size := Nat.lt_of_lt_of_le hgk hXb.size
      have HPX : Hid (PBlkO w.heap.size X g lk) := hPB.later hXb hgk
      obtain ⟨n1, ao1, l1, c1, ⟨e0, e1⟩, hs1, ho1⟩ := HPX.out.coef (i + k) (by omega)
      have HC : Hid (X.cell? ⟨g, (i + k) * 2, none⟩ = some (.bool n1) ∧ X.cell? ⟨g, (i + k) * 2 + 1, none⟩ = some (.slice ao1 l1 c1)) := ⟨e0, e1⟩
      have HBB : Hid (Boxed X rb n3 ao3 l3 c3 ∧ rb < X.heap.size ∧ rb ≠ g) := by rw [hrb, hX]; exact ⟨⟨by simp [go_sem], by simp [go_sem]⟩, by simp, by omega⟩
      have KS : Hid (∀ w', Below X.heap.size X w' → w'.cell? ⟨ra, 0, none⟩ = some (.bool n2) ∧ w'.cell? ⟨ra, 1, none⟩ = some (.slice ao2 l2 c2) ∧ w'.cell? ⟨rb, 0, none⟩ = some (.bool n3) ∧ w'.cell? ⟨rb, 1, none⟩ = some (.slice ao3 l3 c3)) := fun w' hb => ⟨((hbak.later hXb hrak).later hb (Nat.lt_of_lt_of_le hrak hXb.size)).1, ((hbak.later hXb hrak).later hb (Nat.lt_of_lt_of_le hrak hXb.size)).2, (HBB.out.1.later hb HBB.out.2.1).1, (HBB.out.1.later hb HBB.out.2.1).2⟩
      have K2 : Hid (∀ (w' : World) (j : Nat) (x : Value), (w'.cell? ⟨ra, 0, none⟩ = some (.bool n2) ∧ w'.cell? ⟨ra, 1, none⟩ = some (.slice ao2 l2 c2) ∧ w'.cell? ⟨rb, 0, none⟩ = some (.bool n3) ∧ w'.cell? ⟨rb, 1, none⟩ = some (.slice ao3 l3 c3)) → ((w'.setCell ⟨g, j, none⟩ x).cell? ⟨ra, 0, none⟩ = some (.bool n2) ∧ (w'.setCell ⟨g, j, none⟩ x).cell? ⟨ra, 1, none⟩ = some (.slice ao2 l2 c2) ∧ (w'.setCell ⟨g, j, none⟩ x).cell? ⟨rb, 0, none⟩ = some (.bool n3) ∧ (w'.setCell ⟨g, j, none⟩ x).cell? ⟨rb, 1, none⟩ = some (.slice ao3 l3 c3))) := fun w' j x h => ⟨by rw [cell_off HNE.out.1]; exact h.1, by rw [cell_off HNE.out.1]; exact h.2.1, by rw [cell_off HBB.out.2.2]; exact h.2.2.1, by rw [cell_off HBB.out.2.2]; exact h.2.2.2⟩
      have hM : (i * lb + k) * (2 * A + 1) ≤ 500002500 := by
       have h1 : i * lb ≤ 49 * 50 := Nat.mul_le_mul (by omega) (by omega)
       have h2 : (i * lb + k) * (2 * A + 1) ≤ 2500 * 200001 := Nat.mul_le_mul (by omega) (by omega)
       omega
      have hl1 : l1 ≤ 600000000 := by rw [(ho1.int hs1).lim]; have := hlm (i + k); omega
      have hl3 : l3 ≤ 100000 := by rw [hi3.lim]; have := HR.out.2.2.2.1 k; have := HR.out.2.2.2.2.2.2; omega
      have HI : Hid (IntAt X n1 ao1 l1 c1 (dig lk (i + k)) ∧ IntAt X n2 ao2 l2 c2 (dig p i) ∧ IntAt X n3 ao3 l3 c3 (dig s k)) := ⟨ho1.int hs1, (HI2.out.later hbelk).later hXb, hi3.later hXb⟩
      have hikl : Hid (i + k < lk.length) := by show i + k < _; rw [hlk]; exact hik
      have z3 : (0 : Int) ≤ (k : Int) := by omega
      have z4 : (k : Int) < (lb : Int) := by omega
      have z5 : IntKind.i64.wrap ((i : Int) + (k : Int)) = (i : Int) + (k : Int) := by rw [IntKind.wrap_i64]; omega
      have z6 : ((i : Int) + (k : Int)).toNat = i + k := by omega
      have z7 : (0 : Int) ≤ (i : Int) + (k : Int) := by omega
      have z8 : (i : Int) + (k : Int) < (N : Int) := by omega
      clear hPB hst hlk hi3 hlm hM hs1 ho1 hbak
      go_wp2
      rw [← hX, ← hrb]
      clear hX hrb g0 g1
      refine wp_region_noPanic ?_
      refine wp_region_held_drew (S := fun w' => (w'.cell? ⟨ra, 0, none⟩ = some (.bool n2) ∧ w'.cell? ⟨ra, 1, none⟩ = some (.slice ao2 l2 c2) ∧ w'.cell? ⟨rb, 0, none⟩ = some (.bool n3) ∧ w'.cell? ⟨rb, 1, none⟩ = some (.slice ao3 l3 c3))) (by kernel_rfl) (by (try dsimp only); exact KS.out _ (Below.refl _ _).drew) (fun hHeld => ?_)
      refine wpAnyH_take (i := 0) (oi := Oper.mk (some 33) _ _ _ _ _) (v := ?_) rfl (by decide +kernel) (by decide +kernel) (by decide +kernel) (fun _ _ _ h => h) (Or.inl ⟨by rfl, ?_⟩) (by assumption) ?_
      rotate_left
      ·
       (intro w hSw; (try dsimp only at hSw); go_simp <;> (try with_reducible rfl))
      (try simp only [Act.put, List.setIfInBounds_toArray, List.set_cons_zero, List.set_cons_succ])
      refine wpAnyH_take (i := 1) (oi := Oper.mk (some 34) _ _ _ _ _) (v := ?_) rfl (by decide +kernel) (by decide +kernel) (by decide +kernel) (fun _ _ _ h => h) (Or.inl ⟨by rfl, ?_⟩) (by assumption) ?_
      rotate_left
      ·
       (intro w hSw; (try dsimp only at hSw); go_simp <;> (try with_reducible rfl))
      (try simp only [Act.put, List.setIfInBounds_toArray, List.set_cons_zero, List.set_cons_succ])
      refine wpAnyH_take (i := 2) (oi := Oper.mk (some 35) _ _ _ _ _) (v := ?_) rfl (by decide +kernel) (by decide +kernel) (by decide +kernel) (fun _ _ _ h => h) (Or.inl ⟨by rfl, ?_⟩) (by assumption) ?_
      rotate_left
      ·
       (intro w hSw; (try dsimp only at hSw); go_simp <;> (try with_reducible rfl))
      (try simp only [Act.put, List.setIfInBounds_toArray, List.set_cons_zero, List.set_cons_succ])
      refine wpAnyH_take (i := 3) (oi := Oper.mk (some 36) _ _ _ _ _) (v := ?_) rfl (by decide +kernel) (by decide +kernel) (by decide +kernel) (fun _ _ _ h => h) (Or.inl ⟨by rfl, ?_⟩) (by assumption) ?_
      rotate_left
      ·
       (intro w hSw; (try dsimp only at hSw); go_simp <;> (try with_reducible rfl))
      (try simp only [Act.put, List.setIfInBounds_toArray, List.set_cons_zero, List.set_cons_succ])
      refine wpAnyH_take (i := 4) (oi := Oper.mk (some 37) _ _ _ _ _) (v := ?_) rfl (by decide +kernel) (by decide +kernel) (by decide +kernel) (fun _ _ _ h => h) (Or.inl ⟨by rfl, ?_⟩) (by assumption) ?_
      rotate_left
      ·
       (intro w hSw; (try dsimp only at hSw); go_simp <;> (try with_reducible rfl))
      (try simp only [Act.put, List.setIfInBounds_toArray, List.set_cons_zero, List.set_cons_succ])
      refine wpAnyH_take (i := 5) (oi := Oper.mk (some 38) _ _ _ _ _) (v := ?_) rfl (by decide +kernel) (by decide +kernel) (by decide +kernel) (fun _ _ _ h => h) (Or.inl ⟨by rfl, ?_⟩) (by assumption) ?_
      rotate_left
      ·
       (intro w hSw; (try dsimp only at hSw); go_simp <;> (try with_reducible rfl))
      (try simp only [Act.put, List.setIfInBounds_toArray, List.set_cons_zero, List.set_cons_succ])
      refine wpAnyH_take (i := 6) (oi := Oper.mk (some 39) _ _ _ _ _) (v := ?_) rfl (by decide +kernel) (by decide +kernel) (by decide +kernel) (fun _ _ _ h => h) (Or.inl ⟨by rfl, ?_⟩) (by assumption) ?_
      rotate_left
      ·
       (intro w hSw; (try dsimp only at hSw); go_simp <;> (try with_reducible rfl))
      (try simp only [Act.put, List.setIfInBounds_toArray, List.set_cons_zero, List.set_cons_succ])
      refine wpAnyH_take (i := 7) (oi := Oper.mk (some 40) _ _ _ _ _) (v := ?_) rfl (by decide +kernel) (by decide +kernel) (by decide +kernel) (fun _ _ _ h => h) (Or.inl ⟨by rfl, ?_⟩) (by assumption) ?_
      rotate_left
      ·
       (intro w hSw; (try dsimp only at hSw); go_simp <;> (try with_reducible rfl))
      (try simp only [Act.put, List.setIfInBounds_toArray, List.set_cons_zero, List.set_cons_succ])
      refine wpAnyH_take (i := 8) (oi := Oper.mk (some 41) _ _ _ _ _) (v := ?_) rfl (by decide +kernel) (by decide +kernel) (by decide +kernel) (fun _ _ _ h => h) (Or.inl ⟨by rfl, ?_⟩) (by assumption) ?_
      rotate_left
      ·
       (intro w hSw; (try dsimp only at hSw); go_simp <;> (try with_reducible rfl))
      (try simp only [Act.put, List.setIfInBounds_toArray, List.set_cons_zero, List.set_cons_succ])
      refine wpAnyH_take (i := 10) (oi := Oper.mk (some 43) _ _ _ _ _) (v := ?_) rfl (by decide +kernel) (by decide +kernel) (by decide +kernel) (fun _ _ _ h => h) (Or.inl ⟨by rfl, ?_⟩) (by assumption) ?_
      rotate_left
      ·
       (intro w hSw; (try dsimp only at hSw); go_simp <;> (try with_reducible rfl))
      (try simp only [Act.put, List.setIfInBounds_toArray, List.set_cons_zero, List.set_cons_succ])
      refine wpAnyH_take (i := 11) (oi := Oper.mk (some 44) _ _ _ _ _) (v := ?_) rfl (by decide +kernel) (by decide +kernel) (by decide +kernel) (fun _ _ _ h => h) (Or.inl ⟨by rfl, ?_⟩) (by assumption) ?_
      rotate_left
      ·
       (intro w hSw; (try dsimp only at hSw); go_simp <;> (try with_reducible rfl))
      (try simp only [Act.put, List.setIfInBounds_toArray, List.set_cons_zero, List.set_cons_succ])
      refine wpAnyH_ready (rs := [9, 12]) (by decide +kernel) (by simp) ?_
      refine AllReadyH.cons (o := Oper.mk (some 42) _ _ _ _ _) rfl (fun K hK => ?_) (AllReadyH.cons (o := Oper.mk (some 45) _ _ _ _ _) rfl (fun K hK => ?_) AllReadyH.nil)
      ·
       go_simp
       clear hHeld
       refine hK.out _ _ (by (try dsimp only); exact KS.out _ (Below.refl _ _).drew) (fun hHeld => ?_)
       clear hK K
       (try simp only [Act.put, List.setIfInBounds_toArray, List.set_cons_zero, List.set_cons_succ])
       refine wpAnyH_ready (rs := [12]) (by decide +kernel) (by simp) ?_
       refine AllReadyH.cons (o := Oper.mk (some 45) _ _ _ _ _) rfl (fun K hK => ?_) AllReadyH.nil
       go_simp
       (go_at_call 56; refine (pltimes_any n2 n3 ao2 ao3 l2 c2 l3 c3 (dig p i) (dig s k) _ (HI.out.2.1.later (Below.refl _ _).drew) (HI.out.2.2.later (Below.refl _ _).drew) (by omega) (by omega)).mono ?_; rintro e w4 ⟨n4, ao4, l4, c4, rfl, hs4, ho4, hb4'⟩; have hb4 : Below X.heap.size X w4 := bnext (Below.refl _ _).drew hb4'; have HI4 : Hid (IntAt w4 n4 ao4 l4 c4 (dig p i * dig s k) ∧ IntAt w4 n1 ao1 l1 c1 (dig lk (i + k))) := ⟨ho4.int hs4, HI.out.1.later hb4⟩; have hl4 : l4 ≤ 200000 := (by have h1 := (ho4.int hs4).lim; have h2 := lim_mul (dig p i) (dig s k); have h3 := HR.out.2.2.1 i; have h4 := HR.out.2.2.2.1 k; have := HR.out.2.2.2.2.2.2; omega); clear hs4 ho4 hb4'; obtain ⟨t0, t1⟩ : w4.cell? ⟨g, (i + k) * 2, none⟩ = some (.bool n1) ∧ w4.cell? ⟨g, (i + k) * 2 + 1, none⟩ = some (.slice ao1 l1 c1) := ⟨(hb4.cell (p := ⟨g, (i + k) * 2, none⟩) hgX).trans HC.out.1, (hb4.cell (p := ⟨g, (i + k) * 2 + 1, none⟩) hgX).trans HC.out.2⟩)
       (try go_wp2_with fail)
       clear hHeld
       refine hK.out _ _ (by (try dsimp only); exact KS.out _ hb4) (fun hHeld => ?_)
       clear hK K
       (try simp only [Act.put, List.setIfInBounds_toArray, List.set_cons_zero, List.set_cons_succ])
       refine wpAnyH_ready (rs := [13]) (by decide +kernel) (by simp) ?_
       refine AllReadyH.cons (o := Oper.mk (some 46) _ _ _ _ _) rfl (fun K hK => ?_) AllReadyH.nil
       go_simp
       (go_at_call 55; refine (plplus_any n1 n4 ao1 ao4 l1 c1 l4 c4 (dig lk (i + k)) (dig p i * dig s k) w4 HI4.out.2 HI4.out.1 (by omega) (by omega)).mono ?_; rintro e w5 ⟨n5, ao5, l5, c5, rfl, hs5, ho5, hb5⟩; have hb6 : Below X.heap.size X w5 := bnext hb4 hb5; have H5 : Hid (n5 = sgB (dig lk (i + k) + dig p i * dig s k) ∧ Own X.heap.size w5 .u64 60 ao5 l5 c5 (mag (dig lk (i + k) + dig p i * dig s k).natAbs)) := ⟨hs5, ho5.mono hb4.size⟩; clear hs5 ho5 hb5 t0 t1; have HP2 := HPX.out.later hb6 hgX; have hfz := HP2.soft; clear HP2; obtain ⟨r0, r1⟩ : w5.cell? ⟨g, (i + k) * 2, none⟩ = some (.bool n1) ∧ w5.cell? ⟨g, (i + k) * 2 + 1, none⟩ = some (.slice ao1 l1 c1) := ⟨(hb6.cell (p := ⟨g, (i + k) * 2, none⟩) hgX).trans HC.out.1, (hb6.cell (p := ⟨g, (i + k) * 2 + 1, none⟩) hgX).trans HC.out.2⟩)
       (try go_wp2_with fail)
       clear hHeld
       refine hK.out _ _ (by (try dsimp only); exact KS.out _ hb6) (fun hHeld => ?_)
       clear hK K
       (try simp only [Act.put, List.setIfInBounds_toArray, List.set_cons_zero, List.set_cons_succ])
       refine wpAnyH_take (i := 14) (oi := Oper.mk (some 47) _ _ _ _ _) (v := ?_) rfl (by decide +kernel) (by decide +kernel) (by decide +kernel) (fun _ _ _ h => h) (Or.inl ⟨by rfl, ?_⟩) (by assumption) ?_
       rotate_left
       ·
        (intro w hSw; (try dsimp only at hSw); go_simp <;> (try with_reducible rfl))
       (try simp only [Act.put, List.setIfInBounds_toArray, List.set_cons_zero, List.set_cons_succ])
       refine wpAnyH_ready (rs := [15]) (by decide +kernel) (by simp) ?_
       refine AllReadyH.cons (o := Oper.mk none _ _ _ _ _) rfl (fun K hK => ?_) AllReadyH.nil
       go_simp
       clear hHeld
       refine hK.out _ _ (by (try dsimp only); exact K2.out _ _ _ (K2.out _ _ _ (KS.out _ hb6))) (fun hHeld => ?_)
       clear hK K
       (try simp only [Act.put, List.setIfInBounds_toArray, List.set_cons_zero, List.set_cons_succ])
       refine wpAnyH_done (by decide +kernel) ?_ _
       refine NoPanic.normal ?_
       go_wp2
       go_roundw
       case rel => exact ⟨k + 1, lk.set (i + k) (dig lk (i + k) + dig p i * dig s k), by omega, by go_num, ((bnext HT.out.2.2.1 (bnext hXb hb6)).setCell (p := ⟨g, (i + k) * 2, none⟩) HG.out.1 _).setCell (p := ⟨g, (i + k) * 2 + 1, none⟩) HG.out.1 _, by (have := hb6.size; have := hXb.size; simp; omega), HPX.out.put hb6 hgX (Nat.le_trans HT.out.2.2.1.size hXb.size) hikl.out H5.out.1 H5.out.2, HT.out.2.1.step (by rw [← HR.out.2.2.2.2.1]; exact hlt) (by rw [← HR.out.2.2.2.2.2.1]; exact hkl), mul_lims HT.out.2.2.2 (HR.out.2.2.1 i) (HR.out.2.2.2.1 k), by (have := hb6.size; have := HRA.out; have := hXb.size; simp; omega), ⟨by rw [cell_off HNE.out.1, cell_off HNE.out.1]; exact (KS.out _ hb6).1, by rw [cell_off HNE.out.1, cell_off HNE.out.1]; exact (KS.out _ hb6).2.1⟩⟩
       case measure => simp [intOf]; omega
      ·
       go_simp
       (go_at_call 56; refine (pltimes_any n2 n3 ao2 ao3 l2 c2 l3 c3 (dig p i) (dig s k) _ (HI.out.2.1.later (Below.refl _ _).drew) (HI.out.2.2.later (Below.refl _ _).drew) (by omega) (by omega)).mono ?_; rintro e w4 ⟨n4, ao4, l4, c4, rfl, hs4, ho4, hb4'⟩; have hb4 : Below X.heap.size X w4 := bnext (Below.refl _ _).drew hb4'; have HI4 : Hid (IntAt w4 n4 ao4 l4 c4 (dig p i * dig s k) ∧ IntAt w4 n1 ao1 l1 c1 (dig lk (i + k))) := ⟨ho4.int hs4, HI.out.1.later hb4⟩; have hl4 : l4 ≤ 200000 := (by have h1 := (ho4.int hs4).lim; have h2 := lim_mul (dig p i) (dig s k); have h3 := HR.out.2.2.1 i; have h4 := HR.out.2.2.2.1 k; have := HR.out.2.2.2.2.2.2; omega); clear hs4 ho4 hb4'; obtain ⟨t0, t1⟩ : w4.cell? ⟨g, (i + k) * 2, none⟩ = some (.bool n1) ∧ w4.cell? ⟨g, (i + k) * 2 + 1, none⟩ = some (.slice ao1 l1 c1) := ⟨(hb4.cell (p := ⟨g, (i + k) * 2, none⟩) hgX).trans HC.out.1, (hb4.cell (p := ⟨g, (i + k) * 2 + 1, none⟩) hgX).trans HC.out.2⟩)
       (try go_wp2_with fail)
       clear hHeld
       refine hK.out _ _ (by (try dsimp only); exact KS.out _ hb4) (fun hHeld => ?_)
       clear hK K
       (try simp only [Act.put, List.setIfInBounds_toArray, List.set_cons_zero, List.set_cons_succ])
       refine wpAnyH_ready (rs := [9]) (by decide +kernel) (by simp) ?_
       refine AllReadyH.cons (o := Oper.mk (some 42) _ _ _ _ _) rfl (fun K hK => ?_) AllReadyH.nil
       go_simp
       clear hHeld
       refine hK.out _ _ (by (try dsimp only); exact KS.out _ hb4) (fun hHeld => ?_)
       clear hK K
       (try simp only [Act.put, List.setIfInBounds_toArray, List.set_cons_zero, List.set_cons_succ])
       refine wpAnyH_ready (rs := [13]) (by decide +kernel) (by simp) ?_
       refine AllReadyH.cons (o := Oper.mk (some 46) _ _ _ _ _) rfl (fun K hK => ?_) AllReadyH.nil
       go_simp
       (go_at_call 55; refine (plplus_any n1 n4 ao1 ao4 l1 c1 l4 c4 (dig lk (i + k)) (dig p i * dig s k) w4 HI4.out.2 HI4.out.1 (by omega) (by omega)).mono ?_; rintro e w5 ⟨n5, ao5, l5, c5, rfl, hs5, ho5, hb5⟩; have hb6 : Below X.heap.size X w5 := bnext hb4 hb5; have H5 : Hid (n5 = sgB (dig lk (i + k) + dig p i * dig s k) ∧ Own X.heap.size w5 .u64 60 ao5 l5 c5 (mag (dig lk (i + k) + dig p i * dig s k).natAbs)) := ⟨hs5, ho5.mono hb4.size⟩; clear hs5 ho5 hb5 t0 t1; have HP2 := HPX.out.later hb6 hgX; have hfz := HP2.soft; clear HP2; obtain ⟨r0, r1⟩ : w5.cell? ⟨g, (i + k) * 2, none⟩ = some (.bool n1) ∧ w5.cell? ⟨g, (i + k) * 2 + 1, none⟩ = some (.slice ao1 l1 c1) := ⟨(hb6.cell (p := ⟨g, (i + k) * 2, none⟩) hgX).trans HC.out.1, (hb6.cell (p := ⟨g, (i + k) * 2 + 1, none⟩) hgX).trans HC.out.2⟩)
       (try go_wp2_with fail)
       clear hHeld
       refine hK.out _ _ (by (try dsimp only); exact KS.out _ hb6) (fun hHeld => ?_)
       clear hK K
       (try simp only [Act.put, List.setIfInBounds_toArray, List.set_cons_zero, List.set_cons_succ])
       refine wpAnyH_take (i := 14) (oi := Oper.mk (some 47) _ _ _ _ _) (v := ?_) rfl (by decide +kernel) (by decide +kernel) (by decide +kernel) (fun _ _ _ h => h) (Or.inl ⟨by rfl, ?_⟩) (by assumption) ?_
       rotate_left
       ·
        (intro w hSw; (try dsimp only at hSw); go_simp <;> (try with_reducible rfl))
       (try simp only [Act.put, List.setIfInBounds_toArray, List.set_cons_zero, List.set_cons_succ])
       refine wpAnyH_ready (rs := [15]) (by decide +kernel) (by simp) ?_
       refine AllReadyH.cons (o := Oper.mk none _ _ _ _ _) rfl (fun K hK => ?_) AllReadyH.nil
       go_simp
       clear hHeld
       refine hK.out _ _ (by (try dsimp only); exact K2.out _ _ _ (K2.out _ _ _ (KS.out _ hb6))) (fun hHeld => ?_)
       clear hK K
       (try simp only [Act.put, List.setIfInBounds_toArray, List.set_cons_zero, List.set_cons_succ])
       refine wpAnyH_done (by decide +kernel) ?_ _
       refine NoPanic.normal ?_
       go_wp2
       go_roundw
       case rel => exact ⟨k + 1, lk.set (i + k) (dig lk (i + k) + dig p i * dig s k), by omega, by go_num, ((bnext HT.out.2.2.1 (bnext hXb hb6)).setCell (p := ⟨g, (i + k) * 2, none⟩) HG.out.1 _).setCell (p := ⟨g, (i + k) * 2 + 1, none⟩) HG.out.1 _, by (have := hb6.size; have := hXb.size; simp; omega), HPX.out.put hb6 hgX (Nat.le_trans HT.out.2.2.1.size hXb.size) hikl.out H5.out.1 H5.out.2, HT.out.2.1.step (by rw [← HR.out.2.2.2.2.1]; exact hlt) (by rw [← HR.out.2.2.2.2.2.1]; exact hkl), mul_lims HT.out.2.2.2 (HR.out.2.2.1 i) (HR.out.2.2.2.1 k), by (have := hb6.size; have := HRA.out; have := hXb.size; simp; omega), ⟨by rw [cell_off HNE.out.1, cell_off HNE.out.1]; exact (KS.out _ hb6).1, by rw [cell_off HNE.out.1, cell_off HNE.out.1]; exact (KS.out _ hb6).2.1⟩⟩
       case measure => simp [intOf]; omega
     ·
      obtain rfl : k = lb := by omega
      have HO : Hid (PMulSt p s (i + 1) 0 lk) := PMulSt.row (by have := HT.out.2.1; rw [← HR.out.2.2.2.2.2.1]; exact this) (by rw [← HR.out.2.2.2.2.1]; exact hlt)
      go_wp2
      go_roundw
      case rel => exact ⟨i + 1, lk, by omega, by go_num, HT.out.2.2.1, hgk, HT.out.1, HO.out, by rw [Nat.succ_mul]; exact HT.out.2.2.2⟩
      case measure => simp [intOf]; omega
  ·
   obtain rfl : i = la := by omega
   have HD : Hid (l = mulL p s ∧ N = l.length) := by
    have e1 : l = mulL p s := PMulSt.done (by have := HS.out.2.1; rw [← HR.out.2.2.2.2.1]; exact this) (by rw [← HR.out.2.2.2.2.2.1]; exact hlb)
    exact ⟨e1, by rw [HS.out.2.1.1]; exact HN.out.1⟩
   have HPP : Hid (PolyAt wr (some ⟨g, 0, none⟩) N N l) := HS.out.1.blk.poly HD.out.2
   go_wp2_with (go_at_call 97; refine (trimmed_any (some ⟨g, 0, none⟩) N N l _ HPP.out (by omega)).mono ?_; rintro e w1 ⟨ao', m, hm, rfl, h0, h1, hb1⟩; have HO : Hid (POwn w.heap.size w1 ao' m m (trimL (mulL p s))) := (by rw [← HD.out.1]; exact (HS.out.1.later hb1 hgw).trim HG.out.1 (Nat.lt_of_lt_of_le hgw hb1.size) hm h0 h1); clear hm h0 h1)
   go_ret
   exact ⟨_, _, rfl, HO.out, bnext HS.out.2.2.1 hb1⟩
structure PArg (w : World) (ao : Option Addr) (len cap : Nat) (rs : List (Bool × List Int)) (m : Bool) (p : List Int) : Prop where
 raws : RawsAt w ao len cap rs
 short : len ≤ 11
 lims : ∀ t, (rv rs t).2.length ≤ 3
 may : pmayB len rs = m
 good : m = true → PolyAt w ao len cap p ∧ Lead p ∧ Lim 3 p
theorem PArg.later {w w' : World} {ao : Option Addr} {len cap : Nat} {rs : List (Bool × List Int)} {m : Bool} {p : List Int} (h : PArg w ao len cap rs m p) (hb : Below w.heap.size w w') : PArg w' ao len cap rs m p :=
 ⟨h.raws.later hb, h.short, h.lims, h.may, fun e => ⟨(h.good e).1.later hb, (h.good e).2⟩⟩
def PAns (B : Nat) (w : World) (c : Int) (ao : Option Addr) (l : Nat) (L : List Int) : Prop := (c = 0 ∧ POwn B w ao l l L) ∨ (c = 50 ∧ ao = none ∧ l = 0)
def NewAns (w w' : World) (e : Ending) (c : Int) (L : List Int) : Prop := ∃ ao l, e = .returned (.tuple #[.slice ao l l, .int .i64 c]) ∧ PAns w.heap.size w' c ao l L ∧ Below w.heap.size w w'
def bad1 (m : Bool) : Int := if m then 0 else 50
theorem pchecks_is (ao bo : Option Addr) (la ca lb cb : Nat) (rs ts : List (Bool × List Int)) (m k : Bool) (p s : List Int) (w : World) (hp : PArg w ao la ca rs m p) (hs : PArg w bo lb cb ts k s) (c : Int) (hc : bad1 (m && k) = c) :
  Calls Tryz.prog 67 #[.slice ao la ca, .slice bo lb cb] w fun e w' => e = .returned (.int .i64 c) ∧ Below w.heap.size w w' := by
 have HP : Hid (PArg w ao la ca rs m p ∧ PArg w bo lb cb ts k s) := ⟨hp, hs⟩
 have h1 : ∀ d, bad1 m = d → Calls Tryz.prog 27 #[.slice ao la ca] w fun e w' => e = .returned (.int .i64 d) ∧ Below w.heap.size w w' := fun d hd => pcheck_is ao la ca rs w hp.raws (by have := hp.short; omega) (fun t => Nat.le_trans (hp.lims t) (by decide)) d (by rw [hp.may]; exact hd)
 have h2 : ∀ W d, Below w.heap.size w W → bad1 k = d → Calls Tryz.prog 27 #[.slice bo lb cb] W fun e w' => e = .returned (.int .i64 d) ∧ Below W.heap.size W w' := fun W d hb hd => pcheck_is bo lb cb ts W (hs.later hb).raws (by have := hs.short; omega) (fun t => Nat.le_trans (hs.lims t) (by decide)) d (by rw [hs.may]; exact hd)
 clear hp hs
 cases m
 ·
  replace h1 := h1 50 rfl
  obtain rfl : c = 50 := hc.symm
  clear h2 hc
  go_enter Tryz.func67, Tryz.ntmps67
  go_wp2_with (go_at_call 27; refine h1.mono ?_; rintro e w1 ⟨rfl, hb1⟩)
  go_ret
  exact ⟨rfl, hb1⟩
 ·
  replace h1 := h1 0 rfl
  have hc' : bad1 k = c := by rw [← hc]; rfl
  have HK : Hid (bad1 k = c) := hc'
  clear hc hc'
  go_enter Tryz.func67, Tryz.ntmps67
  go_wp2_with (first
   | (go_at_call 27; have _t := hb1; refine (h2 _ c hb1 HK.out).mono ?_; rintro e w2 ⟨rfl, hb2⟩)
   | (go_at_call 27; refine h1.mono ?_; rintro e w1 ⟨rfl, hb1⟩))
  go_ret
  exact ⟨rfl, bnext hb1 hb2⟩
def mulP (p s : List Int) : List Int := if p.length = 0 ∨ s.length = 0 then [] else mulL p s
theorem mulP_trim {p s : List Int} (hp : Lead p) (hs : Lead s) (h1 : 0 < p.length) (h2 : 0 < s.length) : trimL (mulL p s) = mulP p s := by
 unfold mulP
 rw [if_neg (by omega), trimL_of_lead (mul_lead hp hs h1 h2)]
theorem plmul_is (ao bo : Option Addr) (la ca lb cb : Nat) (rs ts : List (Bool × List Int)) (m k : Bool) (p s : List Int) (w : World) (hp : PArg w ao la ca rs m p) (hs : PArg w bo lb cb ts k s) (c : Int) (hc : bad1 (m && k) = c) :
  Calls Tryz.prog 43 #[.slice ao la ca, .slice bo lb cb] w fun e w' => NewAns w w' e c (mulP p s) := by
 have h1 := pchecks_is ao bo la ca lb cb rs ts m k p s w hp hs c hc
 cases hmk : (m && k)
 ·
  obtain rfl : c = 50 := by rw [← hc, hmk]; rfl
  clear hp hs hc hmk
  go_enter Tryz.func43, Tryz.ntmps43
  go_wp2_with (go_at_call 67; refine h1.mono ?_; rintro e w1 ⟨rfl, hb1⟩)
  go_ret2
  exact ⟨_, _, rfl, Or.inr ⟨rfl, rfl, rfl⟩, hb1⟩
 ·
  obtain rfl : c = 0 := by rw [← hc, hmk]; rfl
  obtain ⟨rfl, rfl⟩ : m = true ∧ k = true := by simpa using hmk
  have e1 := (hp.good rfl).1.hlen
  have e2 := (hs.good rfl).1.hlen
  have s1 := hp.short
  have s2 := hs.short
  by_cases ha : la = 0
  ·
   subst ha
   have HZ : Hid (mulP p s = []) := by show mulP p s = []; unfold mulP; rw [if_pos (Or.inl e1.symm)]
   clear hp hs hc hmk e1 e2
   go_enter Tryz.func43, Tryz.ntmps43
   go_wp2_with (go_at_call 67; refine h1.mono ?_; rintro e w1 ⟨rfl, hb1⟩)
   go_ret2
   exact ⟨_, _, rfl, Or.inl ⟨rfl, by rw [HZ.out]; exact POwn.nil _ _⟩, hb1⟩
  ·
   have ha' : ((la : Int) == 0) = false := by simp; omega
   by_cases hb : lb = 0
   ·
    subst hb
    have HZ : Hid (mulP p s = []) := by show mulP p s = []; unfold mulP; rw [if_pos (Or.inr e2.symm)]
    clear hp hs hc hmk e1 e2 ha
    go_enter Tryz.func43, Tryz.ntmps43
    go_wp2_with (go_at_call 67; refine h1.mono ?_; rintro e w1 ⟨rfl, hb1⟩)
    go_ret2
    exact ⟨_, _, rfl, Or.inl ⟨rfl, by rw [HZ.out]; exact POwn.nil _ _⟩, hb1⟩
   ·
    have hb' : ((lb : Int) == 0) = false := by simp; omega
    have hd : ¬ ((1024 : Int) < (la : Int) + (lb : Int) - 2) := by omega
    have h2 : ∀ W, Below w.heap.size w W → Calls Tryz.prog 68 #[.slice ao la ca, .slice bo lb cb] W fun e w' => NewPO W w' e (mulP p s) := fun W hb => by
     have := product_any ao bo la ca lb cb 3 p s W ((hp.later hb).good rfl).1 ((hs.later hb).good rfl).1 (by omega) (by omega) (by omega) (by omega) (by decide) (hp.good rfl).2.2 (hs.good rfl).2.2
     rw [mulP_trim (hp.good rfl).2.1 (hs.good rfl).2.1 (by omega) (by omega)] at this
     exact this
    clear hp hs hc hmk e1 e2 ha hb
    go_enter Tryz.func43, Tryz.ntmps43
    go_wp2_with (first
     | (go_at_call 67; refine h1.mono ?_; rintro e w1 ⟨rfl, hb1⟩)
     | (go_at_call 68; refine (h2 _ hb1).mono ?_; rintro e w2 ⟨ao2, l2, rfl, ho2, hb2⟩))
    go_ret2
    exact ⟨_, _, rfl, Or.inl ⟨rfl, ho2.mono hb1.size⟩, bnext hb1 hb2⟩
theorem add_none2 (g j : Nat) : (⟨g, 0, none⟩ : Addr).add j = ⟨g, j, none⟩ := by simp [Addr.add]; intro h; exact h.symm
theorem eqpoly_of {x y : Value} {w : World} (h : Calls Tryz.prog 69 #[x, y] w fun e w' => e = .returned (.bool true) ∧ Below w.heap.size w w') :
  Calls Tryz.prog 44 #[x, y] w fun e w' => e = .returned (.bool true) ∧ Below w.heap.size w w' := by
 go_enter Tryz.func44, Tryz.ntmps44
 go_wp2_with (go_at_call 69; refine h.mono ?_; rintro e w1 ⟨rfl, hb1⟩)
 go_ret
 exact ⟨rfl, hb1⟩
def Cells (w : World) (r : Nat) (vs : List Value) : Prop := ∀ (j : Nat) (u : Value), vs[j]? = some u → w.cell? ⟨r, j, none⟩ = some u
theorem Cells.later {w w' : World} {r : Nat} {vs : List Value} (h : Cells w r vs) (hb : Below w.heap.size w w') (hr : r < w.heap.size) : Cells w' r vs := fun j u hu => (hb.cell (p := ⟨r, j, none⟩) hr).trans (h j u hu)
theorem Cells.new (w : World) (vs : Array Value) (t : TypeId) : Cells (w.alloc (.cells vs t)) w.heap.size vs.toList := fun j u hu => by
 have h := World.news_of_block (cs := vs) (t := t) (fr := (0, 0)) (heap_alloc_new w _) j u hu
 rw [add_none2] at h
 exact h
theorem one4_any (ao bo co : Option Addr) (la ca lb cb lc cc : Nat) (n n4 n5 n6 : Bool) (o4 p4 o5 p5 o6 p6 : Option Addr) (l4 c4 m4 k4 l5 c5 m5 k5 l6 c6 m6 k6 : Nat) (rs : List (Bool × List Int)) (w : World) (hp : RawsAt w ao la ca rs) (hla : la ≤ 1000) (hlim : ∀ r ∈ rs, r.2.length ≤ 3) (m : Bool) (hm : pmayB la rs = m) (c : Int) (hc : bad1 m = c) :
  Calls Tryz.prog 6 #[.agg #[.slice ao la ca, .slice bo lb cb, .bool n, .slice co lc cc, .bool n4, .slice o4 l4 c4, .slice p4 m4 k4, .bool n5, .slice o5 l5 c5, .slice p5 m5 k5, .bool n6, .slice o6 l6 c6, .slice p6 m6 k6]] w fun e w' => e = .returned (.int .i64 c) ∧ Below w.heap.size w w' := by
 have hA : Below w.heap.size w (w.alloc (.cells #[.slice ao la ca, .slice bo lb cb, .bool n, .slice co lc cc, .bool n4, .slice o4 l4 c4, .slice p4 m4 k4, .bool n5, .slice o5 l5 c5, .slice p5 m5 k5, .bool n6, .slice o6 l6 c6, .slice p6 m6 k6] 34)) := (Below.refl _ _).alloc (Nat.le_refl _) _
 have h1 : Calls Tryz.prog 22 #[.slice ao la ca] (w.alloc (.cells #[.slice ao la ca, .slice bo lb cb, .bool n, .slice co lc cc, .bool n4, .slice o4 l4 c4, .slice p4 m4 k4, .bool n5, .slice o5 l5 c5, .slice p5 m5 k5, .bool n6, .slice o6 l6 c6, .slice p6 m6 k6] 34)) fun e w' => e = .returned (.bool m) ∧ Below (w.alloc (.cells #[.slice ao la ca, .slice bo lb cb, .bool n, .slice co lc cc, .bool n4, .slice o4 l4 c4, .slice p4 m4 k4, .bool n5, .slice o5 l5 c5, .slice p5 m5 k5, .bool n6, .slice o6 l6 c6, .slice p6 m6 k6] 34)).heap.size (w.alloc (.cells #[.slice ao la ca, .slice bo lb cb, .bool n, .slice co lc cc, .bool n4, .slice o4 l4 c4, .slice p4 m4 k4, .bool n5, .slice o5 l5 c5, .slice p5 m5 k5, .bool n6, .slice o6 l6 c6, .slice p6 m6 k6] 34)) w' := pmay_any ao la ca rs _ (hp.later hA) (by omega) (fun r hr => Nat.le_trans (hlim r hr) (by decide)) m hm
 clear hp hlim hm
 cases m
 ·
  obtain rfl : c = 50 := hc.symm
  clear hc
  go_enter Tryz.func6, Tryz.ntmps6
  go_wp2_with (go_at_call 22; refine h1.mono ?_; rintro e w1 ⟨rfl, hb1⟩)
  go_ret
  exact ⟨rfl, bnext hA hb1⟩
 ·
  obtain rfl : c = 0 := hc.symm
  clear hc
  go_enter Tryz.func6, Tryz.ntmps6
  go_wp2_with (go_at_call 22; refine h1.mono ?_; rintro e w1 ⟨rfl, hb1⟩)
  go_ret
  exact ⟨rfl, bnext hA hb1⟩
theorem num4_any (v : Int) (w : World) : Calls Tryz.prog 11 #[.int .i64 v] w fun e w' => e = .returned (.int .i64 v) ∧ Below w.heap.size w w' := by
 go_enter Tryz.func11, Tryz.ntmps11
 go_wp2
 go_ret
 exact ⟨rfl, Below.refl _ _⟩
theorem mayB_int (v : Int) : mayB (sgB v) (mag v.natAbs) = true := by
 by_cases e : v = 0
 ·
  subst e; rfl
 ·
  rw [mayB_last (fun q => lim_pos e (by unfold lim; rw [q]; rfl))]
  have := mag_can v.natAbs
  unfold Can at this
  rw [List.getLast?_eq_getElem?] at this
  simp only [bne_iff_ne, ne_eq]
  intro q
  apply this
  have hl : (mag v.natAbs).length - 1 < (mag v.natAbs).length := by have := lim_pos e; unfold lim at this; omega
  rw [List.getElem?_eq_getElem hl]
  unfold dig at q
  rw [List.getD_eq_getElem?_getD, List.getElem?_eq_getElem hl] at q
  simpa using q
theorem parg_of_poly {w : World} {ao : Option Addr} {len cap : Nat} {p : List Int} (hp : PolyAt w ao len cap p) (hs : len ≤ 11) (hL : Lead p) (hM : Lim 3 p) : PArg w ao len cap (rsOf p) true p := by
 have hrv : ∀ t, (rv (rsOf p) t).2.length ≤ 3 := fun t => by
  by_cases h : t < (rsOf p).length
  ·
   rw [rv_eq h, rsOf_get]; exact hM t
  ·
   unfold rv; rw [List.getD_eq_getElem?_getD, List.getElem?_eq_none (by omega)]; simp
 refine ⟨⟨by rw [rsOf_len]; exact hp.hlen, hp.hcap, hp.hnil, ?_⟩, hs, hrv, ?_, fun _ => ⟨hp, hL, hM⟩⟩
 ·
  rcases hp.hat with h0 | ⟨b, off, h1, h2⟩
  ·
   exact Or.inl h0
  ·
   refine Or.inr ⟨b, off, h1, fun t ht => ?_⟩
   obtain ⟨n, ao', l, c, hc, hi⟩ := h2 t (by rw [hp.hlen, ← rsOf_len]; exact ht)
   rw [rsOf_get]
   exact ⟨ao', l, c, ⟨by rw [← hi.sg]; exact hc.1, hc.2⟩, hi.row, mag_wd _⟩
 ·
  unfold pmayB
  rw [decide_eq_true (show len ≤ 1025 by omega), Bool.true_and, Bool.and_eq_true]
  refine ⟨?_, ?_⟩
  ·
   rw [List.all_eq_true]
   intro r hr
   obtain ⟨v, _, rfl⟩ := List.mem_map.1 hr
   exact mayB_int v
  ·
   by_cases e : len = 0
   ·
    rw [decide_eq_true e]; rfl
   ·
    rw [Bool.or_eq_true]
    right
    have hl : len - 1 < (rsOf p).length := by rw [rsOf_len, ← hp.hlen]; omega
    have e2 : (rsOf p).getD (len - 1) (false, []) = _ := rv_eq hl
    rw [e2, rsOf_get]
    refine decide_eq_true (fun q => ?_)
    have h3 := hL (by rw [← hp.hlen]; omega)
    rw [← hp.hlen] at h3
    exact lim_pos h3 (by unfold lim; rw [show mag (dig p (len - 1)).natAbs = [] from q]; rfl)
def evQ : List Int → Rat → Rat
 | [], _ => 0
 | c :: l, x => (c : Rat) + x * evQ l x
def homo : List Int → Int → Int → Int
 | [], _, _ => 0
 | c :: l, n, d => homo l n d * n + c * d ^ l.length
theorem homo_val (l : List Int) (n d : Int) (x : Rat) (hx : x * (d : Rat) = (n : Rat)) : (homo l n d : Rat) * (d : Rat) = evQ l x * (d : Rat) ^ l.length := by
 induction l with
 | nil => simp [homo, evQ, Rat.zero_mul]
 | cons c l ih =>
  have e1 : (homo (c :: l) n d : Rat) = (homo l n d : Rat) * (n : Rat) + (c : Rat) * (d : Rat) ^ l.length := by
   show ((homo l n d * n + c * d ^ l.length : Int) : Rat) = _
   rw [Rat.intCast_add, Rat.intCast_mul, Rat.intCast_mul, Rat.intCast_pow]
  have e2 : evQ (c :: l) x = (c : Rat) + x * evQ l x := rfl
  rw [e1, e2, List.length_cons, Rat.pow_succ, Rat.add_mul, Rat.add_mul, ← hx]
  have e3 : (homo l n d : Rat) * (x * (d : Rat)) * (d : Rat) = ((homo l n d : Rat) * (d : Rat)) * (x * (d : Rat)) := by grind
  rw [e3, ih]
  grind
theorem homo_drop (p : List Int) (n d : Int) (j : Nat) (h : j < p.length) : homo (p.drop j) n d = homo (p.drop (j + 1)) n d * n + dig p j * d ^ (p.length - (j + 1)) := by
 rw [List.drop_eq_getElem_cons h]
 show homo (p.drop (j + 1)) n d * n + p[j] * d ^ (p.drop (j + 1)).length = _
 rw [List.length_drop]
 congr 2
 unfold dig; rw [List.getD_eq_getElem?_getD, List.getElem?_eq_getElem h]; rfl
theorem lim_pow (d : Int) (m : Nat) (h : lim d ≤ 2) : lim (d ^ m) ≤ 2 * m + 1 := by
 induction m with
 | zero => rw [Int.pow_zero]; decide
 | succ m ih => rw [Int.pow_succ]; have := lim_mul (d ^ m) d; omega
theorem homo_lim (A N : Nat) (n d : Int) (hn : lim n ≤ 2) (hd : lim d ≤ 2) : ∀ l : List Int, Lim A l → l.length ≤ N → lim (homo l n d) ≤ l.length * (A + 2 * N + 5) := by
 intro l
 induction l with
 | nil => intro _ _; show lim 0 ≤ _; rw [lim_zero]; omega
 | cons c l ih =>
  intro hA hN
  have h1 := ih (fun t => by have := hA (t + 1); rw [dig_cons] at this; exact this) (by simp at hN; omega)
  have h2 : lim c ≤ A := by have := hA 0; simpa [dig] using this
  have h3 := lim_mul (homo l n d) n
  have h4 := lim_mul c (d ^ l.length)
  have h5 := lim_pow d l.length hd
  have h6 := lim_add (homo l n d * n) (c * d ^ l.length)
  show lim (homo l n d * n + c * d ^ l.length) ≤ _
  rw [List.length_cons] at hN ⊢
  rw [Nat.succ_mul]
  omega
theorem homo_rat (l : List Int) (a : Rat) (D : Nat) (hD : (D : Int) = (a.den : Int) ^ (l.length - 1)) (h0 : D ≠ 0) : evQ l a = Rat.normalize (homo l a.num (a.den : Int)) D h0 := by
 rw [Rat.normalize_eq_mkRat, Rat.mkRat_eq_div]
 have hd0 : ((a.den : Int) : Rat) ≠ 0 := by
  intro h
  have := a.den_nz
  have h2 : (a.den : Int) = 0 := by exact_mod_cast h
  omega
 have hx : a * ((a.den : Int) : Rat) = (a.num : Rat) := by
  have h1 : (a.num : Rat) / ((a.den : Nat) : Rat) = a := by rw [← Rat.mkRat_eq_div, Rat.mkRat_self]
  have h2 : ((a.den : Nat) : Rat) = ((a.den : Int) : Rat) := by norm_cast
  have h3 : a = (a.num : Rat) * ((a.den : Int) : Rat)⁻¹ := by rw [← h2, ← Rat.div_def]; exact h1.symm
  have h4 := congrArg (· * ((a.den : Int) : Rat)) h3
  simp only [Rat.mul_assoc, Rat.inv_mul_cancel _ hd0, Rat.mul_one] at h4
  exact h4
 have hv := homo_val l a.num (a.den : Int) a hx
 have hDq : ((D : Nat) : Rat) = ((a.den : Int) : Rat) ^ (l.length - 1) := by
  have h1 : ((D : Int) : Rat) = ((a.den : Int) : Rat) ^ (l.length - 1) := by rw [hD, Rat.intCast_pow]
  exact_mod_cast h1
 have hDn : ((D : Nat) : Rat) ≠ 0 := by
  intro h
  exact h0 (by exact_mod_cast h)
 have key : evQ l a * ((D : Nat) : Rat) = (homo l a.num (a.den : Int) : Rat) := by
  cases l with
  | nil => simp [evQ, homo, Rat.zero_mul]
  | cons c l =>
   have e1 : ((a.den : Int) : Rat) ^ (c :: l).length = ((D : Nat) : Rat) * ((a.den : Int) : Rat) := by
    rw [hDq, ← Rat.pow_succ]; congr 1
   rw [e1, ← Rat.mul_assoc] at hv
   have h5 := congrArg (· * ((a.den : Int) : Rat)⁻¹) hv
   simp only [Rat.mul_assoc, Rat.mul_inv_cancel _ hd0, Rat.mul_one] at h5
   exact h5.symm
 rw [← key, Rat.div_def, Rat.mul_assoc, Rat.mul_inv_cancel _ hDn, Rat.mul_one]
theorem Bx.rat {w : World} {r : Nat} {vs ws : List Value} {n : Bool} {o p : Option Addr} {l c m k : Nat} {a : Rat} (h : Bx w r vs) (hn : NoWord vs) (hl : ws.length = vs.length) (hr : RatAt w n o l c p m k a) : RatAt (putl w r 0 ws) n o l c p m k a :=
 ⟨⟨hr.num.sg, h.row hn hl hr.num.row⟩, h.row hn hl hr.den⟩
end Go.Proofs.YthjkdnlbdhhmbaaGreatDoor
