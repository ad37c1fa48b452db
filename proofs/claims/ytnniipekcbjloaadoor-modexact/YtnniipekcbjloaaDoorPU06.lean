/-
  MF: walks: rows of residues in memory: trimmed, one coefficient of a product.
-/
import Derived.Test.YtnniipekcbjloaaDoorPU05
import Derived.Deep.RegionHeld3
namespace Go.Proofs.YtnniipekcbjloaaDoor
open Go.RowKit Go.Shelf
set_option linter.unusedVariables false
set_option linter.unusedSimpArgs false
/-- how long a slice is -/
def slLen : Value → Nat
  | .slice _ n _ => n
  | _ => 0
/-- a row cut behind its last place that is not 0 -/
def MTrim (ao : Option Addr) (len cap : Nat) (zs : List Int) (e : Ending) : Prop :=
  ∃ n, n ≤ len ∧ e = .returned (.slice ao n cap) ∧ Can (zs.take n) ∧ ∀ t, n ≤ t → dig zs t = 0
set_option maxHeartbeats 400000 in
theorem mtrimmed_any (ao : Option Addr) (len cap : Nat) (zs : List Int) (w : World) (hr : RowAt w .u64 ao len cap zs) (hl : cap ≤ 9223372036854775807) :
    Calls Tryd.prog 54 #[.slice ao len cap] w fun e w' => MTrim ao len cap zs e ∧ w' = w := by
  have hcl := hr.hcap
  have HR : Hid (RowAt w .u64 ao len cap zs ∧ len = zs.length) := ⟨hr, hr.hlen⟩
  clear hr
  go_enter Tryd.func54, Tryd.ntmps54
  go_wp2
  go_loop [0] (fun s => ∃ k : Nat, k ≤ len ∧ s = .slice ao k cap ∧ Hid (∀ t, k ≤ t → dig zs t = 0)) (fun s => slLen s)
  case atStart => exact ⟨len, Nat.le_refl _, rfl, fun t h1 => dig_past (by rw [← HR.out.2]; exact h1)⟩
  case round =>
    obtain ⟨k, hk, rfl, HZ⟩ := hrel
    by_cases hk0 : k = 0
    · subst hk0
      go_wp2
      go_ret
      exact ⟨⟨0, Nat.zero_le _, rfl, can_take (Nat.zero_le _) (fun h => absurd h (by omega)), fun t h => HZ.out t h⟩, rfl⟩
    · have hkp : (0 : Int) < (k : Int) := by omega
      obtain ⟨b, off, rfl, hb, hc⟩ := HR.out.1.get (by omega)
      have hcell := hc (k - 1) (by omega)
      have e1 : (k : Int) - 1 = ((k - 1 : Nat) : Int) := by omega
      have e2 : k - 1 < k := by omega
      have e3 : (k : Int) ≤ (cap : Int) := by omega
      have e4 : k - 1 ≤ cap := by omega
      clear hc
      by_cases hd : dig zs (k - 1) = 0
      · rw [hd] at hcell
        have HD : Hid (dig zs (k - 1) = 0) := hd
        clear hd
        go_wp2
        go_round
        case rel => exact ⟨k - 1, by omega, by first | rfl | (congr 1), fun t h2 => by
          by_cases e : t = k - 1
          · subst e; exact HD.out
          · exact HZ.out t (by omega)⟩
        case measure => simp [slLen]; omega
      · have hd' : (dig zs (k - 1) == 0) = false := by simpa using hd
        obtain ⟨z, hz⟩ : ∃ z, dig zs (k - 1) = z := ⟨_, rfl⟩
        rw [hz] at hcell hd'
        have HD : Hid (dig zs (k - 1) ≠ 0) := hd
        clear hd hz
        go_wp2
        go_ret
        exact ⟨⟨k, hk, rfl, can_take (HR.out.2 ▸ hk) (fun _ => HD.out), fun t h1 => HZ.out t h1⟩, rfl⟩
/-- a row of residues -/
structure FRow (p : Int) (w : World) (ao : Option Addr) (len cap : Nat) (zs : List Int) : Prop where
  row : RowAt w .u64 ao len cap zs
  wd : Wd p zs
  short : len ≤ 4194304
theorem FRow.later {p : Int} {w w' : World} {ao : Option Addr} {len cap : Nat} {zs : List Int} (h : FRow p w ao len cap zs) (hb : Below w.heap.size w w') : FRow p w' ao len cap zs := ⟨h.row.later hb, h.wd, h.short⟩
theorem FRow.cell {p : Int} {w : World} {ao : Option Addr} {len cap : Nat} {zs : List Int} (h : FRow p w ao len cap zs) (hp : 0 < p) {k : Nat} (hk : k < len) : ∃ b off, ao = some ⟨b, off, none⟩ ∧ b < w.heap.size ∧ w.cell? ⟨b, off + k, none⟩ = some (.int .u64 (dig zs k)) ∧ 0 ≤ dig zs k ∧ dig zs k < p := by
  obtain ⟨b, off, rfl, hb, hc⟩ := h.row.get (by omega)
  exact ⟨b, off, rfl, hb, hc k hk, (h.wd.dig hp k).1, (h.wd.dig hp k).2⟩
set_option maxRecDepth 100000 in
set_option maxHeartbeats 4000000 in
theorem coefficient_any (p r : Int) (ao bo : Option Addr) (la ca lb cb k : Nat) (f g : List Int) (w : World) (hp : 0 < p ∧ p ≤ 2147483648) (hf : FRow p w ao la ca f) (hg : FRow p w bo lb cb g) (hk : k ≤ 16777216) (hr : dig (mulL f g) k % p = r) :
    Calls Tryd.prog 72 #[.int .u64 p, .slice ao la ca, .slice bo lb cb, .int .i64 (k : Int)] w fun e w' => e = .returned (.int .u64 r) ∧ Below w.heap.size w w' := by
  obtain ⟨hp0, hp1⟩ := hp
  have HF : Hid (FRow p w ao la ca f ∧ FRow p w bo lb cb g ∧ la = f.length ∧ lb = g.length) := ⟨hf, hg, hf.row.hlen, hg.row.hlen⟩
  have HR : Hid (dig (mulL f g) k % p = r) := hr
  have hla := hf.short
  have hlb := hg.short
  clear hf hg hr
  obtain ⟨W, hW⟩ : ∃ W, W = w.alloc (.cells #[.int .u64 0, .int .u64 0] 92) := ⟨_, rfl⟩
  have HW : Hid (Below w.heap.size w W ∧ Blk W w.heap.size .u64 92 [0, 0] ∧ w.heap.size < W.heap.size) := by
    rw [hW]; exact ⟨(Below.refl _ _).alloc (Nat.le_refl _) _, Blk.new w .u64 92 [0, 0], by simp⟩
  obtain ⟨i0, hi0⟩ : ∃ i0 : Nat, i0 = k + 1 - lb := ⟨_, rfl⟩
  obtain ⟨i1, hi1⟩ : ∃ i1 : Nat, i1 = min (k + 1) la := ⟨_, rfl⟩
  have e0 : max (0 : Int) ((k : Int) - (lb : Int) + 1) = (i0 : Int) := by omega
  have e1 : min (k : Int) ((la : Int) - 1) = (i1 : Int) - 1 := by omega
  have HI : Hid (i0 = k + 1 - lb ∧ i1 = min (k + 1) la) := ⟨hi0, hi1⟩
  clear hi0 hi1
  go_enter Tryd.func72, Tryd.ntmps72
  go_wp2
  rw [← hW]
  clear hW e0
  obtain ⟨G, hG⟩ : ∃ G, G = w.heap.size := ⟨_, rfl⟩
  rw [← hG]
  have HG : Hid (G = w.heap.size ∧ Below w.heap.size w W ∧ Blk W G .u64 92 [0, 0] ∧ G < W.heap.size) := by rw [hG]; exact ⟨rfl, HW.out⟩
  clear hG HW
  go_loopw [10] (fun i wr => ∃ (j : Nat) (h l : Int), i = .int .i64 (j : Int) ∧ i0 ≤ j ∧ j ≤ k + 1 ∧ Hid (Blk wr G .u64 92 [h, l] ∧ (0 ≤ h ∧ h < 18446744073709551616) ∧ (0 ≤ l ∧ l < 18446744073709551616) ∧ h * 18446744073709551616 + l = cs f g k j ∧ Below w.heap.size w wr ∧ G < wr.heap.size)) (fun i _ => k + 1 - (intOf i).toNat)
  case atStart => exact ⟨i0, 0, 0, rfl, Nat.le_refl _, by have := HI.out; omega, HG.out.2.2.1, by decide, by decide, by rw [cs_low (by rw [← HF.out.2.2.2]; have := HI.out; omega)]; rfl, HG.out.2.1, HG.out.2.2.2⟩
  case round =>
    obtain ⟨j, h, l, rfl, hij, hjk, HS⟩ := hrel
    have hc0 := HS.out.1.cell (j := 0) (by simp)
    have hc1 := HS.out.1.cell (j := 1) (by simp)
    have hfz := HS.out.1.frozen
    simp only [dig, List.getD_cons_zero, List.getD_cons_succ] at hc0 hc1
    by_cases hj : j < i1
    · have hja : j < la ∧ j ≤ k ∧ k - j < lb := by have := HI.out; omega
      obtain ⟨b1, o1, rfl, hb1, hx, x0, x1⟩ := (HF.out.1.later HS.out.2.2.2.2.1).cell hp0 hja.1
      obtain ⟨b2, o2, rfl, hb2, hy, y0, y1⟩ := (HF.out.2.1.later HS.out.2.2.2.2.1).cell hp0 hja.2.2
      have hcs := cs_bound hp0 hp1 HF.out.1.wd HF.out.2.1.wd k j
      obtain ⟨x, hxe⟩ : ∃ x, dig f j = x := ⟨_, rfl⟩
      obtain ⟨y, hye⟩ : ∃ y, dig g (k - j) = y := ⟨_, rfl⟩
      rw [hxe] at hx x0 x1
      rw [hye] at hy y0 y1
      have hxy : x * y ≤ 2147483648 * 2147483648 := Int.mul_le_mul (by omega) (by omega) y0 (by decide)
      have HCW : Hid (∀ W', Calls Tryd.prog 69 #[.agg #[.int .u64 h, .int .u64 l], .int .u64 x, .int .u64 y] W' fun e w' => WithAns W' w' e (h * 18446744073709551616 + l + x * y)) :=
        fun W' => twith_any h l x y W' HS.out.2.1 HS.out.2.2.1 ⟨x0, by omega⟩ ⟨y0, by omega⟩ (by
          rw [HS.out.2.2.2.1]
          have : (j : Int) * 4611686018427387904 ≤ 16777217 * 4611686018427387904 := Int.mul_le_mul_of_nonneg_right (by omega) (by decide)
          omega)
      have HE : Hid (h * 18446744073709551616 + l + x * y = cs f g k (j + 1)) := by show _ = _; rw [HS.out.2.2.2.1, cs, hxe, hye]
      have hb1' : Hid (b1 < wr.heap.size ∧ b2 < wr.heap.size) := ⟨hb1, hb2⟩
      have KS : Hid (∀ w', Below wr.heap.size wr w' → w'.cell? ⟨b1, o1 + j, none⟩ = some (.int .u64 x) ∧ w'.cell? ⟨b2, o2 + (k - j), none⟩ = some (.int .u64 y)) := fun w' hb => ⟨(hb.cell (p := ⟨b1, o1 + j, none⟩) hb1).trans hx, (hb.cell (p := ⟨b2, o2 + (k - j), none⟩) hb2).trans hy⟩
      have hbg : b1 ≠ G ∧ b2 ≠ G := by
        constructor
        · intro e; subst e
          obtain ⟨b, off, e1, e2, _⟩ := HF.out.1.cell hp0 hja.1
          simp only [Option.some.injEq, Addr.mk.injEq] at e1
          have := HG.out.1; omega
        · intro e; subst e
          obtain ⟨b, off, e1, e2, _⟩ := HF.out.2.1.cell hp0 hja.2.2
          simp only [Option.some.injEq, Addr.mk.injEq] at e1
          have := HG.out.1; omega
      have KS2 : Hid (∀ (w' : World) (z : Nat) (v : Value), (w'.cell? ⟨b1, o1 + j, none⟩ = some (.int .u64 x) ∧ w'.cell? ⟨b2, o2 + (k - j), none⟩ = some (.int .u64 y)) → ((w'.setCell ⟨G, z, none⟩ v).cell? ⟨b1, o1 + j, none⟩ = some (.int .u64 x) ∧ (w'.setCell ⟨G, z, none⟩ v).cell? ⟨b2, o2 + (k - j), none⟩ = some (.int .u64 y))) := fun w' z v h => ⟨by rw [setCell_ne (fun e => hbg.1 e.1)]; exact h.1, by rw [setCell_ne (fun e => hbg.2 e.1)]; exact h.2⟩
      clear hxe hye hcs hxy hb1 hb2 x0 x1 y0 y1 hbg
      have z0 : (0 : Int) ≤ (j : Int) := by omega
      have z1 : (j : Int) < (la : Int) := by omega
      have z2 : (j : Int) ≤ (i1 : Int) - 1 := by omega
      have z3 : IntKind.i64.wrap ((k : Int) - (j : Int)) = (k : Int) - (j : Int) := by rw [IntKind.wrap_i64]; omega
      have z4 : ((k : Int) - (j : Int)).toNat = k - j := by omega
      have z5 : (0 : Int) ≤ (k : Int) - (j : Int) := by omega
      have z6 : (k : Int) - (j : Int) < (lb : Int) := by omega
      have z7 : j ≤ k := hja.2.1
      clear hja
      go_wp2
      refine wp_region_noPanic ?_
      refine wp_region_held_drew (S := fun w' => (w'.cell? ⟨b1, o1 + j, none⟩ = some (.int .u64 x) ∧ w'.cell? ⟨b2, o2 + (k - j), none⟩ = some (.int .u64 y))) (by kernel_rfl) (by (try dsimp only); exact KS.out _ (Below.refl _ _).drew) (fun hHeld => ?_)
      refine wpAnyH_take (i := 1) (oi := Oper.mk (some 27) _ _ _ _ _) (v := ?_) rfl (by decide +kernel) (by decide +kernel) (by decide +kernel) (fun _ _ _ h => h) (Or.inl ⟨by rfl, ?_⟩) (by assumption) ?_
      rotate_left
      · (intro w hSw; (try dsimp only at hSw); go_simp <;> (try with_reducible rfl))
      (try simp only [Act.put, List.setIfInBounds_toArray, List.set_cons_zero, List.set_cons_succ])
      refine wpAnyH_take (i := 2) (oi := Oper.mk (some 28) _ _ _ _ _) (v := ?_) rfl (by decide +kernel) (by decide +kernel) (by decide +kernel) (fun _ _ _ h => h) (Or.inl ⟨by rfl, ?_⟩) (by assumption) ?_
      rotate_left
      · (intro w hSw; (try dsimp only at hSw); go_simp <;> (try with_reducible rfl))
      (try simp only [Act.put, List.setIfInBounds_toArray, List.set_cons_zero, List.set_cons_succ])
      refine wpAnyH_take (i := 3) (oi := Oper.mk (some 29) _ _ _ _ _) (v := ?_) rfl (by decide +kernel) (by decide +kernel) (by decide +kernel) (fun _ _ _ h => h) (Or.inl ⟨by rfl, ?_⟩) (by assumption) ?_
      rotate_left
      · (intro w hSw; (try dsimp only at hSw); go_simp <;> (try with_reducible rfl))
      (try simp only [Act.put, List.setIfInBounds_toArray, List.set_cons_zero, List.set_cons_succ])
      refine wpAnyH_take (i := 4) (oi := Oper.mk (some 30) _ _ _ _ _) (v := ?_) rfl (by decide +kernel) (by decide +kernel) (by decide +kernel) (fun _ _ _ h => h) (Or.inl ⟨by rfl, ?_⟩) (by assumption) ?_
      rotate_left
      · (intro w hSw; (try dsimp only at hSw); go_simp <;> (try with_reducible rfl))
      (try simp only [Act.put, List.setIfInBounds_toArray, List.set_cons_zero, List.set_cons_succ])
      refine wpAnyH_take (i := 5) (oi := Oper.mk (some 31) _ _ _ _ _) (v := ?_) rfl (by decide +kernel) (by decide +kernel) (by decide +kernel) (fun _ _ _ h => h) (Or.inl ⟨by rfl, ?_⟩) (by assumption) ?_
      rotate_left
      · (intro w hSw; (try dsimp only at hSw); go_simp <;> (try with_reducible rfl))
      (try simp only [Act.put, List.setIfInBounds_toArray, List.set_cons_zero, List.set_cons_succ])
      refine wpAnyH_take (i := 6) (oi := Oper.mk (some 32) _ _ _ _ _) (v := ?_) rfl (by decide +kernel) (by decide +kernel) (by decide +kernel) (fun _ _ _ h => h) (Or.inl ⟨by rfl, ?_⟩) (by assumption) ?_
      rotate_left
      · (intro w hSw; (try dsimp only at hSw); go_simp <;> (try with_reducible rfl))
      (try simp only [Act.put, List.setIfInBounds_toArray, List.set_cons_zero, List.set_cons_succ])
      refine wpAnyH_take (i := 7) (oi := Oper.mk (some 33) _ _ _ _ _) (v := ?_) rfl (by decide +kernel) (by decide +kernel) (by decide +kernel) (fun _ _ _ h => h) (Or.inl ⟨by rfl, ?_⟩) (by assumption) ?_
      rotate_left
      · (intro w hSw; (try dsimp only at hSw); go_simp <;> (try with_reducible rfl))
      (try simp only [Act.put, List.setIfInBounds_toArray, List.set_cons_zero, List.set_cons_succ])
      refine wpAnyH_take (i := 8) (oi := Oper.mk (some 34) _ _ _ _ _) (v := ?_) rfl (by decide +kernel) (by decide +kernel) (by decide +kernel) (fun _ _ _ h => h) (Or.inl ⟨by rfl, ?_⟩) (by assumption) ?_
      rotate_left
      · (intro w hSw; (try dsimp only at hSw); go_simp <;> (try with_reducible rfl))
      (try simp only [Act.put, List.setIfInBounds_toArray, List.set_cons_zero, List.set_cons_succ])
      refine wpAnyH_take (i := 9) (oi := Oper.mk (some 35) _ _ _ _ _) (v := ?_) rfl (by decide +kernel) (by decide +kernel) (by decide +kernel) (fun _ _ _ h => h) (Or.inl ⟨by rfl, ?_⟩) (by assumption) ?_
      rotate_left
      · (intro w hSw; (try dsimp only at hSw); go_simp <;> (try with_reducible rfl))
      (try simp only [Act.put, List.setIfInBounds_toArray, List.set_cons_zero, List.set_cons_succ])
      refine wpAnyH_take (i := 10) (oi := Oper.mk (some 36) _ _ _ _ _) (v := ?_) rfl (by decide +kernel) (by decide +kernel) (by decide +kernel) (fun _ _ _ h => h) (Or.inl ⟨by rfl, ?_⟩) (by assumption) ?_
      rotate_left
      · (intro w hSw; (try dsimp only at hSw); go_simp <;> (try with_reducible rfl))
      (try simp only [Act.put, List.setIfInBounds_toArray, List.set_cons_zero, List.set_cons_succ])
      refine wpAnyH_ready (rs := [0]) (by decide +kernel) (by simp) ?_
      refine AllReadyH.cons (o := Oper.mk (some 26) _ _ _ _ _) rfl (fun K hK => ?_) AllReadyH.nil
      go_simp
      clear hHeld
      refine hK.out _ _ (by (try dsimp only); exact KS.out _ (Below.refl _ _).drew) (fun hHeld => ?_)
      clear hK K
      (try simp only [Act.put, List.setIfInBounds_toArray, List.set_cons_zero, List.set_cons_succ])
      refine wpAnyH_ready (rs := [11]) (by decide +kernel) (by simp) ?_
      refine AllReadyH.cons (o := Oper.mk (some 37) _ _ _ _ _) rfl (fun K hK => ?_) AllReadyH.nil
      go_simp
      (go_at_call 69; refine (HCW.out _).mono ?_; rintro e w4 ⟨h', l', rfl, hh', hl', he', hb4'⟩; have hb4 : Below wr.heap.size wr w4 := bnext (Below.refl _ _).drew hb4'; clear hb4'; have HB4 : Hid (Blk w4 G .u64 92 [h, l] ∧ Below w.heap.size w w4 ∧ G < w4.heap.size) := (by have q := HS.out; exact ⟨q.1.later hb4 q.2.2.2.2.2, bnext q.2.2.2.2.1 hb4, Nat.lt_of_lt_of_le q.2.2.2.2.2 hb4.size⟩); have r0 := HB4.out.1.cell (j := 0) (by simp); have r1 := HB4.out.1.cell (j := 1) (by simp); have r2 := HB4.out.1.frozen; simp only [dig, List.getD_cons_zero, List.getD_cons_succ] at r0 r1; have HN : Hid ((0 ≤ h' ∧ h' < 18446744073709551616) ∧ (0 ≤ l' ∧ l' < 18446744073709551616) ∧ h' * 18446744073709551616 + l' = cs f g k (j + 1)) := ⟨hh', hl', he'.trans HE.out⟩; clear hh' hl' he')
      (try go_wp2_with fail)
      clear hHeld
      refine hK.out _ _ (by (try dsimp only); exact KS.out _ hb4) (fun hHeld => ?_)
      clear hK K
      (try simp only [Act.put, List.setIfInBounds_toArray, List.set_cons_zero, List.set_cons_succ])
      refine wpAnyH_ready (rs := [12]) (by decide +kernel) (by simp) ?_
      refine AllReadyH.cons (o := Oper.mk none _ _ _ _ _) rfl (fun K hK => ?_) AllReadyH.nil
      go_simp
      clear hHeld
      refine hK.out _ _ (by (try dsimp only); exact KS2.out _ _ _ (KS2.out _ _ _ (KS.out _ hb4))) (fun hHeld => ?_)
      clear hK K
      (try simp only [Act.put, List.setIfInBounds_toArray, List.set_cons_zero, List.set_cons_succ])
      refine wpAnyH_done (by decide +kernel) ?_ _
      refine NoPanic.normal ?_
      go_wp2
      go_roundw
      case rel => exact ⟨j + 1, h', l', by go_num, by omega, by omega, by have q := (HB4.out.1.set 0 h').set 1 l'; simpa using q, HN.out.1, HN.out.2.1, HN.out.2.2, (HB4.out.2.1.setCell (p := ⟨G, 0, none⟩) (by rw [HG.out.1]; exact Nat.le_refl _) _).setCell (p := ⟨G, 1, none⟩) (by rw [HG.out.1]; exact Nat.le_refl _) _, by have := HB4.out.2.2; simp; omega⟩
      case measure => simp [intOf]; omega
    · have HD : Hid ((h * 18446744073709551616 + l) % p = r) := by
        show _ = _
        rw [HS.out.2.2.2.1, cs_end (by rw [← HF.out.2.2.1]; have := HI.out; omega)]; exact HR.out
      have HP : Hid (0 < p ∧ p < 18446744073709551616) := ⟨hp0, by omega⟩
      have z2 : ¬ (j : Int) ≤ (i1 : Int) - 1 := by omega
      clear hj hij hjk
      go_wp2_with (go_at_call 70; refine (trest_any h l p r _ HS.out.2.1 HS.out.2.2.1 HP.out HD.out).mono ?_; rintro e w4 ⟨rfl, hb4⟩)
      go_ret
      exact ⟨rfl, bnext HS.out.2.2.2.2.1 hb4⟩
end Go.Proofs.YtnniipekcbjloaaDoor
/-
  MG: walks: products and sums of rows of residues.
-/
namespace Go.Proofs.YtnniipekcbjloaaDoor
open Go.RowKit Go.Shelf
set_option linter.unusedVariables false
set_option linter.unusedSimpArgs false
/-- a row in memory of the call's own -/
def NewF (w w' : World) (e : Ending) (P : List Int → Prop) : Prop :=
  ∃ ao len cap zs, e = .returned (.slice ao len cap) ∧ Own w.heap.size w' .u64 25 ao len cap zs ∧ P zs ∧ cap ≤ 4194304 ∧ Below w.heap.size w w'
theorem bnextM {B : Nat} {w a b : World} (h : Below w.heap.size w a) (g : Below a.heap.size a b) : Below w.heap.size w b := h.trans (g.mono h.size)
set_option maxRecDepth 100000 in
set_option maxHeartbeats 2000000 in
theorem product_new (p : Int) (ao bo : Option Addr) (la ca lb cb : Nat) (f g : List Int) (w : World) (hp : 0 < p ∧ p ≤ 2147483648) (hf : FRow p w ao la ca f) (hg : FRow p w bo lb cb g) (hla : 0 < la) (hlb : 0 < lb) (hl : la + lb ≤ 4194304) :
    Calls Tryd.prog 53 #[.int .u64 p, .slice ao la ca, .slice bo lb cb] w fun e w' => NewF w w' e fun zs => zs = rmL p (mulL f g) := by
  have HF : Hid (FRow p w ao la ca f ∧ FRow p w bo lb cb g ∧ la = f.length ∧ lb = g.length) := ⟨hf, hg, hf.row.hlen, hg.row.hlen⟩
  obtain ⟨N, hN⟩ : ∃ N : Nat, N + 1 = la + lb := ⟨la + lb - 1, by omega⟩
  have hNI : (la : Int) + (lb : Int) - 1 = (N : Int) := by omega
  have HN : Hid (N = (mulL f g).length ∧ N + 1 = la + lb ∧ (0 < p ∧ p ≤ 2147483648)) := ⟨by rw [mulL_len _ _ (by rw [← hg.row.hlen]; exact hlb)]; have := HF.out.2.2; omega, hN, hp⟩
  have hN4 : N ≤ 4194304 := by omega
  clear hf hg hN hp
  have q1 : ((la : Int) == 0) = false := by simp; omega
  have q2 : ((lb : Int) == 0) = false := by simp; omega
  obtain ⟨i0, hi, hz0, hz1, hz2⟩ := info_parts info64
  have b1 : Hid (i0.bytes * N ≤ 281474976710656) := by show _ ≤ _; rw [hz2]; omega
  have b2 : Hid (N ≤ maxLen) := by show _ ≤ _; unfold maxLen; omega
  go_enter Tryd.func53, Tryd.ntmps53
  go_wp2_with (at_make; refine wpList_make_full _ rfl (.tmp 22) (.tmp 22) 24 rfl w.heap.size 25 i0 (.int .u64 0) 1 Tryd.underlying24 hi hz0 hz1 .i64 .i64 _ _ N rfl rfl rfl rfl b1.out b2.out (Nat.le_refl _) ?_; intro w1 hown1 hgrow1)
  have HM : Hid (Blk w1 w.heap.size .u64 25 (List.replicate N 0) ∧ Below w.heap.size w w1) := ⟨made_blk hown1, grown_below hgrow1⟩
  clear hown1 hgrow1 hNI
  obtain ⟨G, hG⟩ : ∃ G, G = w.heap.size := ⟨_, rfl⟩
  rw [← hG] at HM ⊢
  have HG : Hid (G = w.heap.size) := hG
  clear hG
  go_loopw [26] (fun i wr => ∃ (j : Nat) (L : List Int), i = .int .i64 (j : Int) ∧ j ≤ N ∧ Hid (Blk wr G .u64 25 L ∧ L.length = N ∧ (∀ t, t < j → dig L t = dig (mulL f g) t % p) ∧ Below w.heap.size w wr)) (fun i _ => N - (intOf i).toNat)
  case atStart => exact ⟨0, _, rfl, Nat.zero_le _, HM.out.1, by simp, fun t h => absurd h (by omega), by have := HM.out.2; rwa [HG.out] at this⟩
  case round =>
    obtain ⟨j, L, rfl, hj, HS⟩ := hrel
    by_cases hlt : j < N
    · obtain ⟨r, hr⟩ : ∃ r, dig (mulL f g) j % p = r := ⟨_, rfl⟩
      have HC : Hid (Calls Tryd.prog 72 #[.int .u64 p, .slice ao la ca, .slice bo lb cb, .int .i64 (j : Int)] wr fun e w' => e = .returned (.int .u64 r) ∧ Below wr.heap.size wr w') :=
        coefficient_any p r ao bo la ca lb cb j f g wr HN.out.2.2 (HF.out.1.later HS.out.2.2.2) (HF.out.2.1.later HS.out.2.2.2) (by omega) hr
      have HR : Hid (dig (mulL f g) j % p = r ∧ j < N ∧ j < L.length) := ⟨hr, hlt, by rw [HS.out.2.1]; exact hlt⟩
      have z1 : (j : Int) < (N : Int) := by omega
      have z2 : (0 : Int) ≤ (j : Int) := by omega
      clear hr
      go_wp2_with (go_at_call 72; refine HC.out.mono ?_; rintro e w4 ⟨rfl, hb4⟩; have HB : Hid (Blk w4 G .u64 25 L ∧ Below w.heap.size w w4) := ⟨HS.out.1.all hb4, bnextM (B := 0) HS.out.2.2.2 hb4⟩; have r0 := HB.out.1.cell HR.out.2.2; have r1 := HB.out.1.frozen; clear hb4)
      go_roundw
      case rel => exact ⟨j + 1, L.set j r, by go_num, by omega, HB.out.1.set j r, by rw [List.length_set]; exact HS.out.2.1, fun t ht => by
        rw [dig_set _ HR.out.2.2]
        by_cases e : t = j
        · subst e; rw [if_pos rfl]; exact HR.out.1.symm
        · rw [if_neg e]; exact HS.out.2.2.1 t (by omega), HB.out.2.setCell (p := ⟨G, j, none⟩) (by rw [HG.out]; exact Nat.le_refl _) _⟩
      case measure => simp [intOf]; omega
    · have HL : Hid (L = rmL p (mulL f g)) := dig_ext (by rw [rmL_len, HS.out.2.1]; exact HN.out.1) fun t ht => by rw [rmL_dig]; exact HS.out.2.2.1 t (by rw [HS.out.2.1] at ht; omega)
      go_wp2
      go_ret
      exact ⟨_, _, _, L, rfl, Own.whole HS.out.1 (by rw [HG.out]; exact Nat.le_refl _) HS.out.2.1.symm, HL.out, hN4, HS.out.2.2.2⟩
/-- the product modulo p, of whatever lengths -/
def prodL (p : Int) (f g : List Int) : List Int := if f = [] ∨ g = [] then [] else rmL p (mulL f g)
theorem product_any (p : Int) (ao bo : Option Addr) (la ca lb cb : Nat) (f g : List Int) (w : World) (hp : 0 < p ∧ p ≤ 2147483648) (hf : FRow p w ao la ca f) (hg : FRow p w bo lb cb g) (hl : la + lb ≤ 4194304) :
    Calls Tryd.prog 53 #[.int .u64 p, .slice ao la ca, .slice bo lb cb] w fun e w' => NewF w w' e fun zs => zs = prodL p f g := by
  by_cases h0 : la = 0 ∨ lb = 0
  · have hn : f = [] ∨ g = [] := by
      have h1 := hf.row.hlen; have h2 := hg.row.hlen
      rcases h0 with h | h
      · exact Or.inl (List.eq_nil_of_length_eq_zero (by omega))
      · exact Or.inr (List.eq_nil_of_length_eq_zero (by omega))
    have HN : Hid (NewF w w (.returned (.slice none 0 0)) fun zs => zs = prodL p f g) := ⟨_, _, _, [], rfl, Own.none_, by rw [prodL, if_pos hn], by decide, Below.refl _ _⟩
    clear hn hf hg hp
    by_cases ha : la = 0
    · subst ha
      go_enter Tryd.func53, Tryd.ntmps53
      go_wp2
      go_ret
      exact HN.out
    · have q1 : ((la : Int) == 0) = false := by simp; omega
      have hb : lb = 0 := by omega
      subst hb
      clear h0 ha
      go_enter Tryd.func53, Tryd.ntmps53
      go_wp2
      go_ret
      exact HN.out
  · have hn : ¬ (f = [] ∨ g = []) := by
      have h1 := hf.row.hlen; have h2 := hg.row.hlen
      intro h
      rcases h with h | h <;> subst h <;> simp at h1 h2 <;> omega
    rw [prodL, if_neg hn]
    exact product_new p ao bo la ca lb cb f g w hp hf hg (by omega) (by omega) hl
theorem splice_zero (f : List Int) (N : Nat) (h : f.length ≤ N) : (splice (List.replicate N (0 : Int)) 0 f).length = N ∧ ∀ t, dig (splice (List.replicate N (0 : Int)) 0 f) t = dig f t := by
  constructor
  · simp [splice]; omega
  · intro t
    simp only [splice, List.take_zero, List.nil_append, Nat.zero_add, List.drop_replicate, dig, List.getD_eq_getElem?_getD]
    by_cases ht : t < f.length
    · rw [List.getElem?_append_left ht]
    · rw [List.getElem?_append_right (by omega), List.getElem?_replicate, List.getElem?_eq_none (Nat.le_of_not_lt ht)]
      split <;> rfl
set_option maxRecDepth 100000 in
set_option maxHeartbeats 2000000 in
theorem merged_any (p : Int) (ao bo : Option Addr) (la ca lb cb : Nat) (f g : List Int) (w : World) (hp : 0 < p ∧ p ≤ 2147483648) (hf : FRow p w ao la ca f) (hg : FRow p w bo lb cb g) :
    Calls Tryd.prog 50 #[.slice ao la ca, .slice bo lb cb, .func (.func 46) #[.int .u64 p] #[]] w fun e w' => NewF w w' e fun zs => Pm p zs ∧ EqM p (fun x => ev zs x) (fun x => ev f x + ev g x) ∧ zs.length ≤ max la lb := by
  have HF : Hid (FRow p w ao la ca f ∧ FRow p w bo lb cb g ∧ la = f.length ∧ lb = g.length ∧ (0 < p ∧ p ≤ 2147483648)) := ⟨hf, hg, hf.row.hlen, hg.row.hlen, hp⟩
  obtain ⟨N, hN⟩ : ∃ N : Nat, N = max la lb := ⟨_, rfl⟩
  have hNI : max (la : Int) (lb : Int) = (N : Int) := by omega
  have hN4 : N ≤ 4194304 := by have h1 := hf.short; have h2 := hg.short; omega
  have HN : Hid (N = max la lb ∧ la ≤ N ∧ lb ≤ N) := ⟨hN, by omega, by omega⟩
  clear hf hg hp hN
  obtain ⟨i0, hi, hz0, hz1, hz2⟩ := info_parts info64
  have b1 : Hid (i0.bytes * N ≤ 281474976710656) := by show _ ≤ _; rw [hz2]; omega
  have b2 : Hid (N ≤ maxLen) := by show _ ≤ _; unfold maxLen; omega
  have b3 : Hid ((f.map (Value.int .u64)).length = Nat.min la N) := by show _ = _; rw [List.length_map, ← HF.out.2.2.1]; exact (Nat.min_eq_left HN.out.2.1).symm
  have b4 : Hid (0 + (f.map (Value.int .u64)).length ≤ ((List.replicate N (0 : Int)).map (Value.int .u64)).length) := by show _ ≤ _; simp [← HF.out.2.2.1]; exact HN.out.2.1
  go_enter Tryd.func50, Tryd.ntmps50
  go_wp2_with (first
    | (at_make; refine wpList_make_full _ rfl (.tmp 14) (.tmp 14) 24 rfl w.heap.size 25 i0 (.int .u64 0) 1 Tryd.underlying24 hi hz0 hz1 .i64 .i64 _ _ N rfl rfl rfl rfl b1.out b2.out (Nat.le_refl _) ?_; intro w1 hown1 hgrow1)
    | (have _t := hown1; refine wpList_copy_splice rfl (.tmp 16) (.tmp 17) 24 24 rfl 25 Tryd.underlying24 size64 _ _ _ _ _ _ rfl rfl w.heap.size 0 ((List.replicate N (0 : Int)).map (Value.int .u64)) 25 (made_blk hown1) (f.map (Value.int .u64)) b3.out (fun h => ⟨rfl, (HF.out.1.row.later (grown_below hgrow1)).src (by rw [HF.out.2.2.1]; simpa using h)⟩) b4.out (ints_oneCell _ _) w.heap.size w (grown_below hgrow1) (Nat.le_refl _) ?_; intro w2 hg2 hb2))
  have HM : Hid (Blk w2 w.heap.size .u64 25 (splice (List.replicate N (0 : Int)) 0 f) ∧ Below w.heap.size w w2) := ⟨blk_splice hg2.out, hb2⟩
  clear hown1 hgrow1 hNI _t hg2 hb2
  obtain ⟨G, hG⟩ : ∃ G, G = w.heap.size := ⟨_, rfl⟩
  rw [← hG] at HM ⊢
  have HG : Hid (G = w.heap.size) := hG
  clear hG
  go_loopw [21] (fun i wr => ∃ (j : Nat) (L : List Int), i = .int .i64 (j : Int) ∧ j ≤ N ∧ Hid (Blk wr G .u64 25 L ∧ L.length = N ∧ (∀ t, dig L t = if t < j then (dig f t + dig g t) % p else dig f t) ∧ Below w.heap.size w wr)) (fun i _ => N - (intOf i).toNat)
  case atStart => exact ⟨0, _, rfl, Nat.zero_le _, HM.out.1, (splice_zero f N (by rw [← HF.out.2.2.1]; exact HN.out.2.1)).1, fun t => by rw [if_neg (by omega)]; exact (splice_zero f N (by rw [← HF.out.2.2.1]; exact HN.out.2.1)).2 t, by have := HM.out.2; rwa [HG.out] at this⟩
  case round =>
    obtain ⟨j, L, rfl, hj, HS⟩ := hrel
    by_cases hlt : j < N
    · have hp2 := HF.out.2.2.2.2
      have hfd := HF.out.1.wd.dig hp2.1 j
      have hgd := HF.out.2.1.wd.dig hp2.1 j
      obtain ⟨x, hx⟩ : ∃ x, dig f j = x := ⟨_, rfl⟩
      obtain ⟨y, hy⟩ : ∃ y, dig g j = y := ⟨_, rfl⟩
      obtain ⟨r, hr⟩ : ∃ r, (x + y) % p = r := ⟨_, rfl⟩
      rw [hx] at hfd
      rw [hy] at hgd
      have HC : Hid (∀ W, Calls Tryd.prog 46 #[.int .u64 p, .int .u64 x, .int .u64 y] W fun e w' => e = .returned (.int .u64 r) ∧ w' = W) := fun W => mplus_any p x y r W hp2 hfd hgd hr
      have hLj : j < L.length := by rw [HS.out.2.1]; exact hlt
      have HR : Hid ((dig f j + dig g j) % p = r ∧ j < N ∧ j < L.length) := ⟨by rw [hx, hy]; exact hr, hlt, hLj⟩
      have r0 := HS.out.1.cell hLj
      rw [HS.out.2.2.1 j, if_neg (by omega), hx] at r0
      have r1 := HS.out.1.frozen
      have z1 : (j : Int) < (N : Int) := by omega
      have z2 : (0 : Int) ≤ (j : Int) := by omega
      have HQ : Hid (∀ W, Below wr.heap.size wr W → ∃ L', Blk (W.setCell ⟨G, j, none⟩ (.int .u64 r)) G .u64 25 L' ∧ L'.length = N ∧ (∀ t, dig L' t = if t < j + 1 then (dig f t + dig g t) % p else dig f t) ∧ Below w.heap.size w (W.setCell ⟨G, j, none⟩ (.int .u64 r))) := by
        intro W hb
        refine ⟨L.set j r, (HS.out.1.all hb).set j r, by rw [List.length_set]; exact HS.out.2.1, fun t => ?_, (bnextM (B := 0) HS.out.2.2.2 hb).setCell (p := ⟨G, j, none⟩) (by rw [HG.out]; exact Nat.le_refl _) _⟩
        rw [dig_set _ HR.out.2.2, HS.out.2.2.1 t]
        by_cases e : t = j
        · subst e; rw [if_pos rfl, if_pos (by omega)]; exact HR.out.1.symm
        · rw [if_neg e]
          by_cases e2 : t < j
          · rw [if_pos e2, if_pos (by omega)]
          · rw [if_neg e2, if_neg (by omega)]
      clear hr hx hfd hgd hp2
      by_cases hjb : j < lb
      · obtain ⟨b, off, rfl, hb, hc, _, _⟩ := (HF.out.2.1.later HS.out.2.2.2).cell HF.out.2.2.2.2.1 hjb
        rw [hy] at hc
        have z3 : (j : Int) < (lb : Int) := by omega
        clear hy
        go_wp2_with (go_at_call 46; refine (HC.out _).mono ?_; rintro e w4 ⟨rfl, hw4⟩; replace hw4 := hw4.symm; subst hw4)
        go_roundw
        case rel =>
          obtain ⟨L', h1, h2, h3, h4⟩ := HQ.out wr (Below.refl _ _)
          exact ⟨j + 1, L', by go_num, by omega, h1, h2, h3, h4⟩
        case measure => simp [intOf]; omega
      · have hy0 : y = 0 := by rw [← hy]; exact dig_past (by rw [← HF.out.2.2.2.1]; omega)
        subst hy0
        have z3 : ¬ (j : Int) < (lb : Int) := by omega
        clear hy
        go_wp2_with (go_at_call 46; refine (HC.out _).mono ?_; rintro e w4 ⟨rfl, hw4⟩; replace hw4 := hw4.symm; subst hw4)
        go_roundw
        case rel =>
          obtain ⟨L', h1, h2, h3, h4⟩ := HQ.out wr (Below.refl _ _)
          exact ⟨j + 1, L', by go_num, by omega, h1, h2, h3, h4⟩
        case measure => simp [intOf]; omega
    · have HL : Hid (Wd p L ∧ EqM p (fun x => ev L x) (fun x => ev f x + ev g x)) := by
        have hp2 := HF.out.2.2.2.2
        have hd : ∀ t, dig L t = (dig f t + dig g t) % p := fun t => by
          rw [HS.out.2.2.1 t]
          by_cases e : t < j
          · rw [if_pos e]
          · rw [if_neg e, dig_past (s := f) (by rw [← HF.out.2.2.1]; have := HN.out; omega), dig_past (s := g) (by rw [← HF.out.2.2.2.1]; have := HN.out; omega)]; simp
        constructor
        · intro z hz
          obtain ⟨i, hi, rfl⟩ := List.getElem_of_mem hz
          have : L[i] = dig L i := by simp [dig, hi]
          rw [this, hd i]
          exact ⟨Int.emod_nonneg _ (by omega), Int.emod_lt_of_pos _ hp2.1⟩
        · have h1 : EqM p (fun x => ev L x) (fun x => ev (addTo f g) x) := EqM.of_digs fun t => ⟨_, by rw [hd t, addTo_dig]; exact emod_eq _ _⟩
          exact h1.trans (EqM.of_eq fun x => addTo_ev f g x)
      have HT := mtrimmed_any (some ⟨G, 0, none⟩) N N L wr ⟨HS.out.2.1.symm, Nat.le_refl _, fun h => (by cases h), (by
        by_cases h0 : N = 0
        · exact Or.inl h0
        · exact Or.inr ⟨G, 0, rfl, HS.out.1.lt, fun t ht => by rw [Nat.zero_add]; exact HS.out.1.cell (by rw [HS.out.2.1]; exact ht)⟩)⟩ (by omega)
      go_wp2_with (go_at_call 54; refine HT.mono ?_; rintro e w4 ⟨⟨n, hn, rfl, hcan, hz⟩, hw4⟩; replace hw4 := hw4.symm; subst hw4; have HZ : Hid (n ≤ N ∧ Can (L.take n) ∧ ∀ t, n ≤ t → dig L t = 0) := ⟨hn, hcan, hz⟩; clear hn hcan hz)
      go_ret
      have hz := HZ.out
      exact ⟨_, _, _, L.take n, rfl, (Own.whole HS.out.1 (by rw [HG.out]; exact Nat.le_refl _) HS.out.2.1.symm).take hz.1, ⟨⟨HL.out.1.take n, hz.2.1⟩, (take_eqm p hz.2.2).trans HL.out.2, by rw [List.length_take, ← HN.out.1]; omega⟩, hN4, HS.out.2.2.2⟩
end Go.Proofs.YtnniipekcbjloaaDoor
/-
  MH: walks: a row of residues divided by another one. (gen/mh.py)
-/
namespace Go.Proofs.YtnniipekcbjloaaDoor
open Go.RowKit Go.Shelf
set_option linter.unusedVariables false
set_option linter.unusedSimpArgs false
theorem QSt.can {p : Int} {f g Q : List Int} (h : QSt p f g Q 0) (hp : IsPr p) (hf : Pm p f) (hg : 0 < g.length) : Can Q := by
  have hp2 := hp.two
  refine can_of_dig fun hq e => ?_
  have hl := h.len
  obtain ⟨c, hc⟩ := h.eq (Q.length - 1) (Nat.zero_le _) (by omega)
  rw [← cs_mulL, show Q.length - 1 + (g.length - 1) = Q.length + g.length - 2 by omega, mulL_lead _ _ hq hg, e, Int.zero_mul, Int.zero_add, show Q.length + g.length - 2 = f.length - 1 by omega] at hc
  have h1 := hf.lead (by omega) (by omega)
  exact hp.small h1.1 h1.2 ⟨c, hc⟩
theorem sub_emod (a b p : Int) : (a - b % p) % p = (a - b) % p := by
  have e := emod_eq b p
  rw [e, show a - (b + p * -(b / p)) = a - b + p * (b / p) by rw [Int.mul_neg]; omega, Int.add_mul_emod_self_left]
end Go.Proofs.YtnniipekcbjloaaDoor
/-
  MI: walks: powers modulo a polynomial.
-/
namespace Go.Proofs.YtnniipekcbjloaaDoor
open Go.RowKit Go.Shelf
set_option linter.unusedVariables false
set_option linter.unusedSimpArgs false
/-- what a division leaves is the same modulo the divisor -/
theorem Md.ofDiv {p : Int} {g q r : List Int} {A : Int → Int} (h : EqM p A (fun x => ev q x * ev g x + ev r x)) : Md p g (fun x => ev r x) A := by
  obtain ⟨E, hE, h⟩ := h
  exact ⟨_, _, (IsP.ev q).neg, hE.neg, fun x => by rw [h x]; grind⟩
/-- what is left modulo g, in memory of the call's own -/
def LeftP (p : Int) (g : List Int) (B : Nat) (w : World) (ro : Option Addr) (rl rc : Nat) (r : List Int) (A : Int → Int) : Prop :=
  Own B w .u64 25 ro rl rc r ∧ Pm p r ∧ r.length < g.length ∧ rc ≤ 4194304 ∧ Md p g (fun x => ev r x) A
theorem LeftP.later {p : Int} {g : List Int} {B : Nat} {w w' : World} {ro : Option Addr} {rl rc : Nat} {r : List Int} {A : Int → Int} (h : LeftP p g B w ro rl rc r A) (hb : Below w.heap.size w w') : LeftP p g B w' ro rl rc r A :=
  ⟨h.1.later hb, h.2⟩
theorem LeftP.to {p : Int} {g : List Int} {B : Nat} {w : World} {ro : Option Addr} {rl rc : Nat} {r : List Int} {A C : Int → Int} (h : LeftP p g B w ro rl rc r A) (k : Md p g A C) : LeftP p g B w ro rl rc r C :=
  ⟨h.1, h.2.1, h.2.2.1, h.2.2.2.1, h.2.2.2.2.trans k⟩
end Go.Proofs.YtnniipekcbjloaaDoor
/-
  MJ: walks: modp's faces at what is good: Check, Add, Mul, DivMod, Pow.
-/
namespace Go.Proofs.YtnniipekcbjloaaDoor
open Go.RowKit Go.Shelf
set_option linter.unusedVariables false
set_option linter.unusedSimpArgs false
/-- a prime and the table that its test wants -/
def PrimeT (p : Int) (w : World) : Prop := IsPr p ∧ p < 2147483648 ∧ TabAt 0 Lib.deBruijn64tab w
theorem PrimeT.later {p : Int} {w w' : World} (h : PrimeT p w) (hb : Below w.heap.size w w') : PrimeT p w' := ⟨h.1, h.2.1, mtab_later h.2.2 hb⟩
/-- a polynomial modulo p in memory -/
def GoodF (p : Int) (w : World) (ao : Option Addr) (len cap : Nat) (zs : List Int) : Prop := FRow p w ao len cap zs ∧ Pm p zs ∧ len ≤ 1025
theorem GoodF.later {p : Int} {w w' : World} {ao : Option Addr} {len cap : Nat} {zs : List Int} (h : GoodF p w ao len cap zs) (hb : Below w.heap.size w w') : GoodF p w' ao len cap zs := ⟨h.1.later hb, h.2⟩
set_option maxRecDepth 100000 in
set_option maxHeartbeats 1000000 in
theorem mcheck_any (p : Int) (ao : Option Addr) (len cap : Nat) (zs : List Int) (w : World) (hp : PrimeT p w) (hf : GoodF p w ao len cap zs) :
    Calls Tryd.prog 18 #[.slice ao len cap, .int .u64 p] w fun e w' => e = .returned (.int .i64 0) ∧ Below w.heap.size w w' := by
  have hp0 : 0 < p := by have := hp.1.two; omega
  have HI := isPrime_any p w hp.1 hp.2.1 hp.2.2
  have HF : Hid (GoodF p w ao len cap zs) := hf
  have hl : len ≤ 1025 := hf.2.2
  have hl' : ¬ (1025 : Int) < (len : Int) := by omega
  have hlen : Hid (len = zs.length) := hf.1.row.hlen
  have hloop : ∀ (wr : World) (k : Nat), Below w.heap.size w wr → k < len → ∃ b off z, ao = some ⟨b, off, none⟩ ∧ wr.cell? ⟨b, off + k, none⟩ = some (.int .u64 z) ∧ ¬ p ≤ z ∧ 0 ≤ z := by
    intro wr k hb hk
    obtain ⟨b, off, e, _, hc, h0, h1⟩ := (HF.out.1.later hb).cell hp0 hk
    exact ⟨b, off, _, e, hc, by omega, h0⟩
  have HL : Hid (∀ (wr : World) (k : Nat), Below w.heap.size w wr → k < len → ∃ b off z, ao = some ⟨b, off, none⟩ ∧ wr.cell? ⟨b, off + k, none⟩ = some (.int .u64 z) ∧ ¬ p ≤ z ∧ 0 ≤ z) := hloop
  clear hloop hp
  by_cases h0 : len = 0
  · subst h0
    clear hf
    go_enter Tryd.func18, Tryd.ntmps18
    go_wp2_with (go_at_call 48; refine HI.mono ?_; rintro e w1 ⟨rfl, hb1⟩)
    go_loopw [29] (fun i wr => i = .int .i64 0 ∧ wr = w1) (fun i wr => 0)
    case atStart => exact ⟨rfl, rfl⟩
    case round =>
      obtain ⟨rfl, rfl⟩ := hrel
      go_wp2
      go_ret
      exact ⟨rfl, hb1⟩
  · obtain ⟨b, off, eo, _, hc, c0, c1⟩ := hf.1.cell hp0 (k := len - 1) (by omega)
    subst eo
    have hcan := can_dig hf.2.1.can (by have := hlen.out; omega)
    rw [← hlen.out] at hcan
    obtain ⟨z, hz⟩ : ∃ z, dig zs (len - 1) = z := ⟨_, rfl⟩
    rw [hz] at hc c0 c1 hcan
    have hz0 : (z == 0) = false := by simpa using hcan
    have HCE : Hid (∀ wr, Below w.heap.size w wr → wr.cell? ⟨b, off + (len - 1), none⟩ = some (.int .u64 z)) := fun wr hb => (hb.cell (p := ⟨b, off + (len - 1), none⟩) (cell_lt hc)).trans hc
    have e1 : (len : Int) - 1 = ((len - 1 : Nat) : Int) := by omega
    have e2 : (0 : Int) < (len : Int) := by omega
    have e3 : len - 1 < len := by omega
    clear hf hc hcan hz h0
    go_enter Tryd.func18, Tryd.ntmps18
    go_wp2_with (go_at_call 48; refine HI.mono ?_; rintro e w1 ⟨rfl, hb1⟩; have hcc := HCE.out _ hb1)
    go_loopw [29, 6] (fun i z wr => ∃ k : Nat, k ≤ len ∧ i = .int .i64 (k : Int) ∧ wr = w1) (fun i _ _ => len - (intOf i).toNat)
    case atStart => exact ⟨0, Nat.zero_le _, rfl, rfl⟩
    case round =>
      obtain ⟨k, hk, rfl, rfl⟩ := hrel
      by_cases hlt : k < len
      · obtain ⟨b', off', z', ee, hc', hz1, hz2⟩ := HL.out _ k hb1 hlt
        simp only [Option.some.injEq, Addr.mk.injEq, and_true] at ee
        obtain ⟨rfl, rfl⟩ := ee
        have z1 : (k : Int) < (len : Int) := by omega
        have z2 : (0 : Int) ≤ (k : Int) := by omega
        clear hcc
        go_wp2
        go_roundw
        case rel => exact ⟨k + 1, by omega, by go_num, by first | trivial | rfl⟩
        case measure => simp [intOf]; omega
      · have z1 : ¬ (k : Int) < (len : Int) := by omega
        clear hcc
        go_wp2
        go_ret
        exact ⟨rfl, hb1⟩
/-- two good polynomials and their prime -/
def Good2 (p : Int) (w : World) (ao bo : Option Addr) (la ca lb cb : Nat) (f g : List Int) : Prop := PrimeT p w ∧ GoodF p w ao la ca f ∧ GoodF p w bo lb cb g
theorem Good2.later {p : Int} {w w' : World} {ao bo : Option Addr} {la ca lb cb : Nat} {f g : List Int} (h : Good2 p w ao bo la ca lb cb f g) (hb : Below w.heap.size w w') : Good2 p w' ao bo la ca lb cb f g := ⟨h.1.later hb, h.2.1.later hb, h.2.2.later hb⟩
set_option maxHeartbeats 400000 in
theorem mcheckBoth_any (p : Int) (ao bo : Option Addr) (la ca lb cb : Nat) (f g : List Int) (w : World) (h : Good2 p w ao bo la ca lb cb f g) :
    Calls Tryd.prog 49 #[.slice ao la ca, .slice bo lb cb, .int .u64 p] w fun e w' => e = .returned (.int .i64 0) ∧ Below w.heap.size w w' := by
  have H1 := mcheck_any p ao la ca f w h.1 h.2.1
  have H2 : Hid (∀ W, Below w.heap.size w W → Calls Tryd.prog 18 #[.slice bo lb cb, .int .u64 p] W fun e w' => e = .returned (.int .i64 0) ∧ Below W.heap.size W w') := fun W hb => mcheck_any p bo lb cb g W (h.1.later hb) (h.2.2.later hb)
  clear h
  go_enter Tryd.func49, Tryd.ntmps49
  go_wp2_with (first
    | (go_at_call 18; have _t := hb1; refine (H2.out _ hb1).mono ?_; rintro e w2 ⟨rfl, hb2⟩)
    | (go_at_call 18; refine H1.mono ?_; rintro e w1 ⟨rfl, hb1⟩))
  go_ret
  exact ⟨rfl, bnextM (B := 0) hb1 hb2⟩
/-- what a face hands back: a row of the call's own, and no error -/
def FaceF (w w' : World) (e : Ending) (P : List Int → Prop) : Prop :=
  ∃ ao len cap zs, e = .returned (.tuple #[.slice ao len cap, .int .i64 0]) ∧ Own w.heap.size w' .u64 25 ao len cap zs ∧ P zs ∧ cap ≤ 4194304 ∧ Below w.heap.size w w'
theorem NewF.back {w1 w w' : World} {e : Ending} {P : List Int → Prop} (h : NewF w1 w' e P) (hb : Below w.heap.size w w1) : NewF w w' e P := by
  obtain ⟨ao, len, cap, zs, he, ho, hp, hc, h1⟩ := h
  exact ⟨ao, len, cap, zs, he, ho.mono hb.size, hp, hc, bnextM (B := 0) hb h1⟩
set_option maxHeartbeats 400000 in
theorem mAdd_any (p : Int) (ao bo : Option Addr) (la ca lb cb : Nat) (f g : List Int) (w : World) (h : Good2 p w ao bo la ca lb cb f g) :
    Calls Tryd.prog 19 #[.slice ao la ca, .slice bo lb cb, .int .u64 p] w fun e w' => FaceF w w' e fun zs => Pm p zs ∧ EqM p (fun x => ev zs x) (fun x => ev f x + ev g x) ∧ zs.length ≤ max la lb := by
  have H1 := mcheckBoth_any p ao bo la ca lb cb f g w h
  have H2 : Hid (∀ W, Below w.heap.size w W → Calls Tryd.prog 50 #[.slice ao la ca, .slice bo lb cb, .func (.func 46) #[.int .u64 p] #[]] W fun e w' => NewF W w' e fun zs => Pm p zs ∧ EqM p (fun x => ev zs x) (fun x => ev f x + ev g x) ∧ zs.length ≤ max la lb) := fun W hb =>
    merged_any p ao bo la ca lb cb f g W (by have := h.1.1.two; have := h.1.2.1; omega) (h.2.1.later hb).1 (h.2.2.later hb).1
  have hmf : ∀ (fn : Fn) (first cap : Array Value) (w : World), (Instr.makeFunc fn first cap).run Tryd.prog w = .ok (.func fn first cap) w := fun _ _ _ _ => rfl
  clear h
  go_enter Tryd.func19, Tryd.ntmps19
  go_wp2_with (first
    | (go_at_call 49; refine H1.mono ?_; rintro e w1 ⟨rfl, hb1⟩)
    | (go_at_call 50; refine (H2.out _ hb1).mono ?_; rintro e w2 hn; obtain ⟨zo, zl, zc, zs, rfl, hrest⟩ := hn.back hb1))
  go_ret2
  exact ⟨zo, zl, zc, zs, rfl, hrest⟩
set_option maxHeartbeats 1000000 in
theorem mMul_any (p : Int) (ao bo : Option Addr) (la ca lb cb : Nat) (f g : List Int) (w : World) (h : Good2 p w ao bo la ca lb cb f g) (hl : la + lb ≤ 1026) :
    Calls Tryd.prog 22 #[.slice ao la ca, .slice bo lb cb, .int .u64 p] w fun e w' => FaceF w w' e fun zs => zs = prodL p f g := by
  have H1 := mcheckBoth_any p ao bo la ca lb cb f g w h
  have H2 : Hid (∀ W, Below w.heap.size w W → Calls Tryd.prog 53 #[.int .u64 p, .slice ao la ca, .slice bo lb cb] W fun e w' => NewF W w' e fun zs => zs = prodL p f g) := fun W hb =>
    product_any p ao bo la ca lb cb f g W (by have := h.1.1.two; have := h.1.2.1; omega) (h.2.1.later hb).1 (h.2.2.later hb).1 (by omega)
  clear h
  by_cases ha : la = 0
  · subst ha
    go_enter Tryd.func22, Tryd.ntmps22
    go_wp2_with (first
      | (go_at_call 49; refine H1.mono ?_; rintro e w1 ⟨rfl, hb1⟩)
      | (go_at_call 53; refine (H2.out _ hb1).mono ?_; rintro e w2 hn; obtain ⟨zo, zl, zc, zs, rfl, hrest⟩ := hn.back hb1))
    go_ret2
    exact ⟨zo, zl, zc, zs, rfl, hrest⟩
  · have q1 : (0 : Int) < (la : Int) := by omega
    by_cases hb : lb = 0
    · subst hb
      clear ha
      go_enter Tryd.func22, Tryd.ntmps22
      go_wp2_with (first
        | (go_at_call 49; refine H1.mono ?_; rintro e w1 ⟨rfl, hb1⟩)
        | (go_at_call 53; refine (H2.out _ hb1).mono ?_; rintro e w2 hn; obtain ⟨zo, zl, zc, zs, rfl, hrest⟩ := hn.back hb1))
      go_ret2
      exact ⟨zo, zl, zc, zs, rfl, hrest⟩
    · have q2 : (0 : Int) < (lb : Int) := by omega
      have q3 : ¬ (1024 : Int) < (la : Int) + (lb : Int) - 2 := by omega
      clear ha hb
      go_enter Tryd.func22, Tryd.ntmps22
      go_wp2_with (first
        | (go_at_call 49; refine H1.mono ?_; rintro e w1 ⟨rfl, hb1⟩)
        | (go_at_call 53; refine (H2.out _ hb1).mono ?_; rintro e w2 hn; obtain ⟨zo, zl, zc, zs, rfl, hrest⟩ := hn.back hb1))
      go_ret2
      exact ⟨zo, zl, zc, zs, rfl, hrest⟩
end Go.Proofs.YtnniipekcbjloaaDoor
/-
  MK: walks: the page's own answers on what is good: Prime, May, Trim, form; equal rows; what wakes.
-/
namespace Go.Proofs.YtnniipekcbjloaaDoor
open Go.RowKit Go.Shelf
set_option linter.unusedVariables false
set_option linter.unusedSimpArgs false
theorem bool_of (P : Prop) : ∃ b : Bool, (b = true ↔ P) := by
  by_cases h : P
  · exact ⟨true, ⟨fun _ => h, fun _ => rfl⟩⟩
  · exact ⟨false, ⟨fun e => (by cases e), fun e => absurd e h⟩⟩
theorem bool_no {P : Prop} {b : Bool} (h : b = true ↔ P) (n : ¬ P) : b = false := by
  cases b
  · rfl
  · exact absurd (h.1 rfl) n
set_option maxRecDepth 100000 in
set_option maxHeartbeats 1000000 in
theorem rprimeB_any (p : Int) (b : Bool) (w : World) (hp : 0 ≤ p ∧ p < 18446744073709551616) (hb : b = true ↔ (IsPr p ∧ p < 2147483648)) :
    Calls Tryd.prog 36 #[.int .u64 p] w fun e w' => e = .returned (.bool b) ∧ w' = w := by
  obtain ⟨hp0, hp1⟩ := hp
  by_cases h2 : p < 2
  · obtain rfl : b = false := bool_no hb fun h => by have := h.1.two; omega
    clear hb
    go_enter Tryd.func36, Tryd.ntmps36
    go_wp2
    go_ret
    exact ⟨rfl, rfl⟩
  · by_cases h3 : 2147483648 ≤ p
    · obtain rfl : b = false := bool_no hb fun h => by have := h.2; omega
      clear hb
      go_enter Tryd.func36, Tryd.ntmps36
      go_wp2
      go_ret
      exact ⟨rfl, rfl⟩
    · have HB : Hid (b = true ↔ (IsPr p ∧ p < 2147483648)) := hb
      clear hb
      go_enter Tryd.func36, Tryd.ntmps36
      go_wp2
      go_loop [3] (fun z => ∃ d : Int, z = .int .u64 d ∧ 2 ≤ d ∧ d ≤ 50000 ∧ Hid (∀ c, 2 ≤ c → c < d → c * c ≤ p → p % c ≠ 0)) (fun z => (50001 - intOf z).toNat)
      case atStart => exact ⟨2, rfl, by decide, by decide, fun c h1 h2 => by omega⟩
      case round =>
        obtain ⟨d, rfl, hd2, hd5, HD⟩ := hrel
        obtain ⟨s, hs⟩ : ∃ s, d * d = s := ⟨_, rfl⟩
        have hs1 : 0 ≤ s := by rw [← hs]; exact Int.mul_nonneg (by omega) (by omega)
        have hs2 : s ≤ 50000 * 50000 := by rw [← hs]; exact Int.mul_le_mul (by omega) (by omega) (by omega) (by decide)
        have hs3 : s ≤ 2500000000 := by omega
        have HS : Hid (d * d = s) := hs
        by_cases hle : s ≤ p
        · have hd4 : Hid (d < 50000) := by
            show _ < _
            by_cases hx : d < 50000
            · exact hx
            · have : d = 50000 := by omega
              subst this; omega
          obtain ⟨r, hr⟩ : ∃ r, p % d = r := ⟨_, rfl⟩
          have hr' : p.tmod d = r := by rw [Int.tmod_eq_emod_of_nonneg hp0]; exact hr
          have hd0 : (d == 0) = false := by simp; omega
          have hd1 : ¬ d = 0 := by omega
          by_cases h0 : r = 0
          · subst h0
            obtain rfl : b = false := bool_no HB.out fun h => by
              have h1 : d * 2 ≤ d * d := Int.mul_le_mul_of_nonneg_left hd2 (by omega)
              exact h.1.no d hd2 (by omega) (Int.dvd_of_emod_eq_zero hr)
            clear hs2 HB
            go_wp2
            go_ret
            exact ⟨rfl, rfl⟩
          · have h0' : (r == 0) = false := by simpa using h0
            have HN : Hid (p % d ≠ 0) := by show _ ≠ _; rw [hr]; exact h0
            clear hs2 h0
            go_wp2
            go_round
            case rel => exact ⟨d + 1, by go_num, by omega, by have := hd4.out; omega, fun c h1 h2 h3 => by
              by_cases e : c = d
              · subst e; exact HN.out
              · exact HD.out c h1 (by omega) h3⟩
            case measure => simp [intOf]; omega
        · have hbt : b = true := by
            refine HB.out.2 ⟨IsPr.of_sq (by omega) fun c h1 hc => HD.out c h1 ?_ hc, by omega⟩
            by_cases hx : c < d
            · exact hx
            · exfalso
              have : d * d ≤ c * c := Int.mul_le_mul (by omega) (by omega) (by omega) (by omega)
              have := HS.out; omega
          subst hbt
          clear hs2 HB
          go_wp2
          go_ret
          exact ⟨rfl, rfl⟩
set_option maxRecDepth 100000 in
set_option maxHeartbeats 1000000 in
theorem rmay_any (p : Int) (b : Bool) (ao : Option Addr) (len cap : Nat) (zs : List Int) (w : World) (hp : 0 ≤ p ∧ p < 18446744073709551616) (hr : RowAt w .u64 ao len cap zs) (hw : Wd 18446744073709551616 zs) (hl : len ≤ 9223372036854775807) (hb : b = true ↔ (Pm p zs ∧ len ≤ 1025)) :
    Calls Tryd.prog 37 #[.slice ao len cap, .int .u64 p] w fun e w' => e = .returned (.bool b) ∧ w' = w := by
  obtain ⟨hp0, hp1⟩ := hp
  have HB : Hid ((b = true ↔ (Pm p zs ∧ len ≤ 1025)) ∧ RowAt w .u64 ao len cap zs ∧ Wd 18446744073709551616 zs ∧ len = zs.length) := ⟨hb, hr, hw, hr.hlen⟩
  clear hr hw hb
  by_cases h1 : 1025 < len
  · obtain rfl : b = false := bool_no HB.out.1 fun h => by have := h.2; omega
    have h1' : (1025 : Int) < (len : Int) := by omega
    clear h1 HB
    go_enter Tryd.func37, Tryd.ntmps37
    go_wp2
    go_ret
    exact ⟨rfl, rfl⟩
  · have h1' : ¬ (1025 : Int) < (len : Int) := by omega
    have HLE : Hid (len ≤ 1025) := by show _ ≤ _; omega
    clear h1
    go_enter Tryd.func37, Tryd.ntmps37
    go_wp2
    go_loop [5] (fun i => ∃ k : Nat, k ≤ len ∧ i = .int .i64 k ∧ Hid (∀ t, t < k → dig zs t < p)) (fun i => len - (intOf i).toNat)
    case atStart => exact ⟨0, Nat.zero_le _, rfl, fun t h => absurd h (by omega)⟩
    case round =>
      obtain ⟨k, hk, rfl, HZ⟩ := hrel
      by_cases hlt : k < len
      · obtain ⟨b', off, rfl, _, hc⟩ := HB.out.2.1.get (by omega)
        have hcell := hc k hlt
        obtain ⟨z, hz⟩ : ∃ z, dig zs k = z := ⟨_, rfl⟩
        have hz0 := (HB.out.2.2.1.dig (by decide) k).1
        rw [hz] at hcell hz0
        have z1 : (k : Int) < (len : Int) := by omega
        have z2 : (0 : Int) ≤ (k : Int) := by omega
        clear hc
        by_cases hpz : p ≤ z
        · obtain rfl : b = false := bool_no HB.out.1 fun h => by
            by_cases hp' : 0 < p
            · have := (h.1.wd.dig hp' k).2; omega
            · have hm : dig zs k ∈ zs := by
                have hk' : k < zs.length := by have := HB.out.2.2.2; omega
                have : dig zs k = zs[k] := by simp [dig, hk']
                rw [this]; exact List.getElem_mem hk'
              have := h.1.wd _ hm; omega
          clear HB HZ hz
          go_wp2
          go_ret
          exact ⟨rfl, rfl⟩
        · have HN : Hid (dig zs k < p) := by show _ < _; omega
          clear hz
          go_wp2
          go_round
          case rel => exact ⟨k + 1, by omega, by go_num, fun t ht => by
            by_cases e : t = k
            · subst e; exact HN.out
            · exact HZ.out t (by omega)⟩
          case measure => simp [intOf]; omega
      · have hkl : k = len := by omega
        have HW : Hid (Wd p zs) := fun z hz => by
          obtain ⟨i, hi, rfl⟩ := List.getElem_of_mem hz
          have e : zs[i] = dig zs i := by simp [dig, hi]
          have h2 := HB.out.2.2.1 _ hz
          rw [e] at h2 ⊢
          exact ⟨h2.1, HZ.out i (by have := HB.out.2.2.2; omega)⟩
        by_cases h0 : len = 0
        · subst h0
          have hzn : zs = [] := List.eq_nil_of_length_eq_zero HB.out.2.2.2.symm
          obtain rfl : b = true := HB.out.1.2 ⟨⟨HW.out, by rw [hzn]; exact Can.nil⟩, HLE.out⟩
          clear hzn HB HZ HW HLE
          obtain rfl : k = 0 := by omega
          go_wp2
          go_ret
          exact ⟨rfl, rfl⟩
        · obtain ⟨b', off, rfl, _, hc⟩ := HB.out.2.1.get (by omega)
          have hcell := hc (len - 1) (by omega)
          obtain ⟨z, hz⟩ : ∃ z, dig zs (len - 1) = z := ⟨_, rfl⟩
          rw [hz] at hcell
          have e1 : (len : Int) - 1 = ((len - 1 : Nat) : Int) := by omega
          have e2 : ((len : Int) == 0) = false := by simp; omega
          have e3 : len - 1 < len := by omega
          have z1 : ¬ (k : Int) < (len : Int) := by omega
          clear hc
          have hbz : b = (z != 0) := by
            by_cases hz0 : z = 0
            · subst hz0
              refine (bool_no HB.out.1 fun h => ?_).trans (by decide)
              exact can_dig h.1.can (by have := HB.out.2.2.2; omega) (by rw [← HB.out.2.2.2]; exact hz)
            · have : (z != 0) = true := by simpa using hz0
              rw [this]
              exact HB.out.1.2 ⟨⟨HW.out, can_of_dig fun _ => by rw [← HB.out.2.2.2, hz]; exact hz0⟩, HLE.out⟩
          have HBZ : Hid (b = (z != 0)) := hbz
          clear hbz HB HZ HW HLE hz
          go_wp2
          go_ret
          exact ⟨by rw [HBZ.out]; rfl, rfl⟩
end Go.Proofs.YtnniipekcbjloaaDoor
