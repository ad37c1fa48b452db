/-
  NB: walks: two lists of exponents compared (mpoly's and the page's).
-/
import Derived.Test.YtiemgadnnnhmkaaGreatPO01
import Derived.Deep.RegionHeld3
namespace Go.Proofs.YtiemgadnnnhmkaaGreat
open Go.RowKit
set_option linter.unusedVariables false
set_option linter.unusedSimpArgs false
set_option maxHeartbeats 400000 in
theorem cmpInt_any (a b : Int) (w : World) :
    Calls Tryz.prog 26 #[.int .i64 a, .int .i64 b] w fun e w' => e = .returned (.int .i64 (cmpI a b)) ∧ w' = w := by
  have HC : Hid (cmpI a b = if a < b then -1 else if b < a then 1 else 0) := rfl
  have hn : ∀ (z : Int) (W : World), Calls Tryz.prog 43 #[.int .i64 z] W fun e w' => e = .returned (.bool false) ∧ w' = W := fun z W => by
    go_enter Tryz.func43, Tryz.ntmps43
    go_wp2
    go_ret
    exact ⟨by first | rfl | simp, rfl⟩
  rcases Int.lt_trichotomy a b with h | h | h
  · have e : Hid (cmpI a b = -1) := cmpI_lt h
    go_enter Tryz.func26, Tryz.ntmps26
    go_wp2_with (go_at_call 43; refine (hn _ _).mono ?_; rintro e w1 ⟨rfl, hw1⟩; replace hw1 := hw1.symm; subst hw1)
    go_ret
    exact ⟨ret_int e.out.symm, rfl⟩
  · subst h
    have e : Hid (cmpI a a = 0) := cmpI_eq rfl
    have h1 : ¬ a < a := by omega
    go_enter Tryz.func26, Tryz.ntmps26
    go_wp2_with (go_at_call 43; refine (hn _ _).mono ?_; rintro e w1 ⟨rfl, hw1⟩; replace hw1 := hw1.symm; subst hw1)
    go_ret
    exact ⟨ret_int e.out.symm, rfl⟩
  · have e : Hid (cmpI a b = 1) := cmpI_gt h
    have h1 : ¬ a < b := by omega
    go_enter Tryz.func26, Tryz.ntmps26
    go_wp2_with (go_at_call 43; refine (hn _ _).mono ?_; rintro e w1 ⟨rfl, hw1⟩; replace hw1 := hw1.symm; subst hw1)
    go_ret
    exact ⟨ret_int e.out.symm, rfl⟩
/-- a list of numbers that are an int each -/
structure ExpAt (w : World) (eo : Option Addr) (el ec : Nat) (E : List Int) : Prop where
  row : RowAt w .i64 eo el ec E
  short : el ≤ 4611686018427387904
theorem ExpAt.later {w w' : World} {eo : Option Addr} {el ec : Nat} {E : List Int} (h : ExpAt w eo el ec E) (hb : Below w.heap.size w w') : ExpAt w' eo el ec E := ⟨h.row.later hb, h.short⟩
set_option maxRecDepth 100000 in
set_option maxHeartbeats 2000000 in
theorem compareExps_any (ao bo : Option Addr) (la ca lb cb : Nat) (x y : List Int) (c : Int) (w : World) (hx : ExpAt w ao la ca x) (hy : ExpAt w bo lb cb y) (hl : la = lb) (hc : ordE x y = c) :
    Calls Tryz.prog 24 #[.slice ao la ca, .slice bo lb cb] w fun e w' => e = .returned (.int .i64 c) ∧ ∃ n, w' = w.drewN n := by
  subst hl
  have HX : Hid (RowAt w .i64 ao la ca x ∧ RowAt w .i64 bo la cb y ∧ la = x.length ∧ la = y.length ∧ ordE x y = c) := ⟨hx.row, hy.row, hx.row.hlen, hy.row.hlen, hc⟩
  have hl := hx.short
  clear hx hy hc
  go_enter Tryz.func24, Tryz.ntmps24
  go_wp2
  go_loopw [5] (fun i wr => ∃ k : Nat, k ≤ la ∧ i = .int .i64 ((k : Int) - 1) ∧ (∃ nq, wr = w.drewN nq) ∧ Hid (∀ t, k ≤ t → dig x t = dig y t)) (fun i _ => (intOf i + 1).toNat)
  case atStart => exact ⟨la, Nat.le_refl _, rfl, ⟨0, rfl⟩, fun t h => by
    rw [show dig x t = 0 by simp [dig, List.getElem?_eq_none (show x.length ≤ t by have := HX.out; omega)], show dig y t = 0 by simp [dig, List.getElem?_eq_none (show y.length ≤ t by have := HX.out; omega)]]⟩
  case round =>
    obtain ⟨k, hk, rfl, ⟨nq, rfl⟩, HZ⟩ := hrel
    rcases k with _ | k
    · have HE : Hid (c = 0) := by
        show _ = _
        rw [← HX.out.2.2.2.2, (ordE_ordr.zero x y).2 (dig_ext (by have := HX.out; omega) fun t _ => HZ.out t (Nat.zero_le _))]
      go_wp2
      go_ret
      exact ⟨ret_int HE.out.symm, _, rfl⟩
    · obtain ⟨b, off, rfl, hb, hcx⟩ := HX.out.1.get (by omega)
      obtain ⟨b', off', rfl, hb', hcy⟩ := HX.out.2.1.get (by omega)
      have h1 := hcx k (by omega)
      have h2 := hcy k (by omega)
      have z1 : (k : Int) < (la : Int) := by omega
      have z2 : (0 : Int) ≤ (k : Int) := by omega
      obtain ⟨u, hu⟩ : ∃ u, dig x k = u := ⟨_, rfl⟩
      obtain ⟨v, hv⟩ : ∃ v, dig y k = v := ⟨_, rfl⟩
      rw [hu] at h1
      rw [hv] at h2
      have HU : Hid (dig x k = u ∧ dig y k = v) := ⟨hu, hv⟩
      clear hcx hcy hu hv
      by_cases he : u = v
      · subst he
        go_wp2
        go_quiet (fail)
        go_wp2
        go_roundw
        case rel => exact ⟨k, by omega, by first | rfl | go_num, ⟨_, rfl⟩, fun t ht => by
          by_cases e : t = k
          · subst e; rw [HU.out.1, HU.out.2]
          · exact HZ.out t (by omega)⟩
        case measure => simp [intOf]
      · have he' : (u != v) = true := by simpa using he
        have HE : Hid (cmpI u v = c) := by
          show _ = _
          rw [← HX.out.2.2.2.2, ordE_at (k := k) (by have := HX.out; omega) (by have := HX.out; omega) (fun t ht => HZ.out t ht) (by rw [HU.out.1, HU.out.2]; exact he), HU.out.1, HU.out.2]
        have hcc := cmpInt_any u v
        clear he
        go_wp2
        go_quiet (fail)
        go_wp2
        refine wp_region_noPanic ?_
        refine wp_region_held_drew (S := fun w' => (w'.cell? ⟨b, off + k, none⟩ = some (.int .i64 u) ∧ w'.cell? ⟨b', off' + k, none⟩ = some (.int .i64 v))) (by kernel_rfl) (by (try dsimp only); exact ⟨h1, h2⟩) (fun hHeld => ?_)
        refine wpAnyH_take (i := 0) (oi := Oper.mk (some 22) _ _ _ _ _) (v := ?_) rfl (by decide +kernel) (by decide +kernel) (by decide +kernel) (fun _ _ _ h => h) (Or.inl ⟨by rfl, ?_⟩) (by assumption) ?_
        rotate_left
        · (intro w hSw; (try dsimp only at hSw); go_simp <;> (try with_reducible rfl))
        (try simp only [Act.put, List.setIfInBounds_toArray, List.set_cons_zero, List.set_cons_succ])
        refine wpAnyH_take (i := 1) (oi := Oper.mk (some 23) _ _ _ _ _) (v := ?_) rfl (by decide +kernel) (by decide +kernel) (by decide +kernel) (fun _ _ _ h => h) (Or.inl ⟨by rfl, ?_⟩) (by assumption) ?_
        rotate_left
        · (intro w hSw; (try dsimp only at hSw); go_simp <;> (try with_reducible rfl))
        (try simp only [Act.put, List.setIfInBounds_toArray, List.set_cons_zero, List.set_cons_succ])
        refine wpAnyH_take (i := 2) (oi := Oper.mk (some 24) _ _ _ _ _) (v := ?_) rfl (by decide +kernel) (by decide +kernel) (by decide +kernel) (fun _ _ _ h => h) (Or.inl ⟨by rfl, ?_⟩) (by assumption) ?_
        rotate_left
        · (intro w hSw; (try dsimp only at hSw); go_simp <;> (try with_reducible rfl))
        (try simp only [Act.put, List.setIfInBounds_toArray, List.set_cons_zero, List.set_cons_succ])
        refine wpAnyH_take (i := 3) (oi := Oper.mk (some 25) _ _ _ _ _) (v := ?_) rfl (by decide +kernel) (by decide +kernel) (by decide +kernel) (fun _ _ _ h => h) (Or.inl ⟨by rfl, ?_⟩) (by assumption) ?_
        rotate_left
        · (intro w hSw; (try dsimp only at hSw); go_simp <;> (try with_reducible rfl))
        (try simp only [Act.put, List.setIfInBounds_toArray, List.set_cons_zero, List.set_cons_succ])
        refine wpAnyH_take (i := 4) (oi := Oper.mk (some 26) _ _ _ _ _) (v := ?_) rfl (by decide +kernel) (by decide +kernel) (by decide +kernel) (fun _ _ _ h => h) (Or.inl ⟨by rfl, ?_⟩) (by assumption) ?_
        rotate_left
        · (intro w hSw; (try dsimp only at hSw); go_simp <;> (try with_reducible rfl))
        (try simp only [Act.put, List.setIfInBounds_toArray, List.set_cons_zero, List.set_cons_succ])
        refine wpAnyH_take (i := 5) (oi := Oper.mk (some 27) _ _ _ _ _) (v := ?_) rfl (by decide +kernel) (by decide +kernel) (by decide +kernel) (fun _ _ _ h => h) (Or.inl ⟨by rfl, ?_⟩) (by assumption) ?_
        rotate_left
        · (intro w hSw; (try dsimp only at hSw); go_simp <;> (try with_reducible rfl))
        (try simp only [Act.put, List.setIfInBounds_toArray, List.set_cons_zero, List.set_cons_succ])
        refine wpAnyH_take (i := 6) (oi := Oper.mk (some 28) _ _ _ _ _) (v := ?_) rfl (by decide +kernel) (by decide +kernel) (by decide +kernel) (fun _ _ _ h => h) (Or.inl ⟨by rfl, ?_⟩) (by assumption) ?_
        rotate_left
        · (intro w hSw; (try dsimp only at hSw); go_simp <;> (try with_reducible rfl))
        (try simp only [Act.put, List.setIfInBounds_toArray, List.set_cons_zero, List.set_cons_succ])
        refine wpAnyH_take (i := 7) (oi := Oper.mk (some 29) _ _ _ _ _) (v := ?_) rfl (by decide +kernel) (by decide +kernel) (by decide +kernel) (fun _ _ _ h => h) (Or.inl ⟨by rfl, ?_⟩) (by assumption) ?_
        rotate_left
        · (intro w hSw; (try dsimp only at hSw); go_simp <;> (try with_reducible rfl))
        (try simp only [Act.put, List.setIfInBounds_toArray, List.set_cons_zero, List.set_cons_succ])
        refine wpAnyH_ready (rs := [8]) (by decide +kernel) (by simp) ?_
        refine AllReadyH.cons (o := Oper.mk (some 30) _ _ _ _ _) rfl (fun K hK => ?_) AllReadyH.nil
        go_simp
        (go_at_call 26; refine (hcc _).mono ?_; rintro e w4 ⟨rfl, hw4⟩; subst hw4)
        (try go_wp2_with fail)
        clear hHeld
        refine hK.out _ _ (by (try dsimp only); exact ⟨h1, h2⟩) (fun hHeld => ?_)
        clear hK K
        (try simp only [Act.put, List.setIfInBounds_toArray, List.set_cons_zero, List.set_cons_succ])
        refine wpAnyH_take (i := 9) (oi := Oper.mk (some 4) _ _ _ _ _) (v := ?_) rfl (by decide +kernel) (by decide +kernel) (by decide +kernel) (fun _ _ _ h => h) (Or.inl ⟨by rfl, ?_⟩) (by assumption) ?_
        rotate_left
        · (intro w hSw; (try dsimp only at hSw); go_simp <;> (try with_reducible rfl))
        (try simp only [Act.put, List.setIfInBounds_toArray, List.set_cons_zero, List.set_cons_succ])
        refine wpAnyH_done (by decide +kernel) ?_ _
        refine NoPanic.normal ?_
        go_wp2
        go_ret
        exact ⟨ret_int HE.out, _, rfl⟩
end Go.Proofs.YtiemgadnnnhmkaaGreat
/-
  W5, W6, W7, W8, W1, W9.
-/
/- Walks: addInto, subInto. -/
namespace Go.Proofs.YtiemgadnnnhmkaaGreat
open Go.RowKit
set_option linter.unusedVariables false
set_option linter.unusedSimpArgs false
/-- of what was there only block g may have turned -/
structure Touch (g : Nat) (w w' : World) : Prop where
  os : w'.os = w.os
  tape : w'.tape = w.tape
  output : w'.output = w.output
  size : w'.heap.size = w.heap.size
  block : ∀ k, k ≠ g → w'.heap[k]? = w.heap[k]?
theorem Touch.refl (g : Nat) (w : World) : Touch g w w := ⟨rfl, rfl, rfl, rfl, fun _ _ => rfl⟩
theorem Touch.set {g : Nat} {a w : World} (h : Touch g a w) (j : Nat) (v : Value) : Touch g a (w.setCell ⟨g, j, none⟩ v) :=
  ⟨h.os, h.tape, h.output, by simpa [World.setCell] using h.size, fun k hk => by rw [Below.heap_setCell _ _ _ _ hk]; exact h.block k hk⟩
theorem Touch.drewN {g : Nat} {a w : World} (h : Touch g a w) (n : Nat) : Touch g a (w.drewN n) := ⟨h.os, h.tape, h.output, h.size, h.block⟩
theorem Touch.drew {g : Nat} {a w : World} (h : Touch g a w) : Touch g a w.drew := ⟨h.os, h.tape, h.output, h.size, h.block⟩
theorem Touch.below {g B : Nat} {a w : World} (h : Touch g a w) (hB : B ≤ g) : Below B a w := ⟨h.os, h.tape, h.output, Nat.le_of_eq h.size.symm, fun k hk => h.block k (by omega)⟩
theorem Touch.trans {g : Nat} {a b c : World} (h : Touch g a b) (k : Touch g b c) : Touch g a c := ⟨k.os.trans h.os, k.tape.trans h.tape, k.output.trans h.output, k.size.trans h.size, fun i hi => (k.block i hi).trans (h.block i hi)⟩
/-- the row's cells are none of those that lie in block g from off on, n of them -/
def Apart (bo : Option Addr) (m g off n : Nat) : Prop := ∀ b o, bo = some ⟨b, o, none⟩ → ∀ t, t < m → ∀ k, k < n → b = g → o + t ≠ off + k
theorem row_touch {w wr : World} {bo : Option Addr} {m cb g off n : Nat} {ys L Lk : List Int} {t : TypeId} (hy : RowAt w .u64 bo m cb ys) (hb : Blk w g .u64 t L) (hk : Blk wr g .u64 t Lk) (hto : Touch g w wr) (hap : Apart bo m g off n)
    (hout : ∀ j, j < off ∨ off + n ≤ j → dig Lk j = dig L j) (hl : Lk.length = L.length) : RowAt wr .u64 bo m cb ys := by
  refine ⟨hy.hlen, hy.hcap, hy.hnil, ?_⟩
  rcases hy.hat with h0 | ⟨b, o, rfl, hlt, hc⟩
  · exact Or.inl h0
  · refine Or.inr ⟨b, o, rfl, by rw [hto.size]; exact hlt, fun t ht => ?_⟩
    by_cases e : b = g
    · subst e
      have h1 := hc t ht
      have hlen : o + t < L.length := by
        by_cases h : o + t < L.length
        · exact h
        · exfalso
          unfold Blk at hb
          simp [World.cell?, hb, List.getElem?_eq_none (Nat.le_of_not_lt h)] at h1
      rw [hb.cell hlen] at h1
      rw [hk.cell (by omega), hout (o + t) ?_]
      · exact h1
      · have := fun k hk => hap b o rfl t ht k hk rfl
        by_cases h2 : o + t < off
        · exact Or.inl h2
        · by_cases h3 : off + n ≤ o + t
          · exact Or.inr h3
          · exact absurd rfl (fun e : o + t = o + t => (this (o + t - off) (by omega)) (by omega))
    · rw [World.cell?_of_block (w := w) (hto.block b e)]; exact hc t ht
/-- what addInto and subInto leave -/
def Summed (s : Int) (w w' : World) (e : Ending) (g off n : Nat) (L ys : List Int) : Prop :=
  ∃ c L', e = .returned (.int .u64 c) ∧ Blk w' g .u64 80 L' ∧ L'.length = L.length ∧ Wd 18446744073709551616 L' ∧ (∀ j, j < off ∨ off + n ≤ j → dig L' j = dig L j) ∧ 0 ≤ c ∧ c ≤ 1 ∧
    V 18446744073709551616 L' off n + s * (c * 18446744073709551616 ^ n) = V 18446744073709551616 L off n + s * val 18446744073709551616 ys ∧ Touch g w w'
set_option maxRecDepth 100000 in
set_option maxHeartbeats 1600000 in
theorem addInto_any (g off n cap : Nat) (bo : Option Addr) (m cb : Nat) (L ys : List Int) (w : World) (hb : Blk w g .u64 80 L) (hW : Wd 18446744073709551616 L) (hn : off + n ≤ L.length) (hnc : n ≤ cap) (hcap : cap ≤ 4611686018427387904)
    (hy : RowAt w .u64 bo m cb ys) (hyW : Wd 18446744073709551616 ys) (hm : m ≤ n) (hap : Apart bo m g off n) :
    Calls Tryz.prog 110 #[.slice (some ⟨g, off, none⟩) n cap, .slice bo m cb] w fun e w' => Summed 1 w w' e g off n L ys := by
  have HY : Hid (m = ys.length) := hy.hlen
  have HH : Hid (Blk w g .u64 80 L ∧ Wd 18446744073709551616 L ∧ off + n ≤ L.length ∧ Wd 18446744073709551616 ys ∧ Apart bo m g off n) := ⟨hb, hW, hn, hyW, hap⟩
  clear hb hW hn hyW hap
  go_enter Tryz.func110, Tryz.ntmps110
  go_wp2
  go_loopw [6, 16] (fun c i wr => ∃ (k : Nat) (cv : Int) (Lk : List Int), k ≤ m ∧ i = .int .i64 k ∧ c = .int .u64 cv ∧ St 1 18446744073709551616 L ys off k cv Lk ∧ Blk wr g .u64 80 Lk ∧ Touch g w wr) (fun _ i _ => m - (intOf i).toNat)
  case atStart => exact ⟨0, 0, L, Nat.zero_le _, rfl, rfl, St.start off HH.out.2.1, HH.out.1, Touch.refl _ _⟩
  case round =>
    obtain ⟨k, cv, Lk, hk, rfl, rfl, hst, hbl, hto⟩ := hrel
    have HS : Hid (St 1 18446744073709551616 L ys off k cv Lk ∧ Blk wr g .u64 80 Lk ∧ Touch g w wr) := ⟨hst, hbl, hto⟩
    by_cases hlt : k < m
    · have hyr : RowAt wr .u64 bo m cb ys := row_touch hy HH.out.1 hbl hto HH.out.2.2.2.2 (fun j hj => hst.out j (by omega)) hst.len
      obtain ⟨b', o', rfl, hb', hc'⟩ := hyr.get (by omega)
      have hcy := hc' k hlt
      have hcz := hbl.cell (j := off + k) (by have := hst.len; have := HH.out.2.2.1; omega)
      have hfz := hbl.frozen (off + k)
      have hgs : g < wr.heap.size := hbl.lt
      obtain ⟨d, c', hrun, hd, hcc, he⟩ := add64_ex (dig Lk (off + k)) (dig ys k) cv (hst.wd.dig (by decide) _) (HH.out.2.2.2.1.dig (by decide) _) hst.c0 hst.c1
      have HD : Hid ((0 ≤ d ∧ d < 18446744073709551616) ∧ (0 ≤ c' ∧ c' ≤ 1) ∧ d + 1 * (c' * 18446744073709551616) = dig Lk (off + k) + 1 * (dig ys k + cv)) := ⟨hd, hcc, he⟩
      clear hd hcc he hst hbl hto hyr hy hc'
      go_wp2_with (simp only [hrun])
      go_roundw
      case rel => exact ⟨k + 1, c', Lk.set (off + k) d, by omega, by go_num, rfl, HS.out.1.step (by have := HH.out.2.2.1; omega) HD.out.1 HD.out.2.1 (by have := HD.out.2.2; rw [HS.out.1.out (off + k) (by omega)] at this; exact this), HS.out.2.1.set _ _, HS.out.2.2.set _ _⟩
      case measure => simp [intOf]; omega
    · obtain rfl : k = m := by omega
      clear hst hbl hto
      go_wp2
      obtain ⟨wo, rfl⟩ : ∃ wo : World, wo = wr := ⟨_, rfl⟩
      go_loopw [6, 9] (fun c i wr => ∃ (j : Nat) (cv : Int) (Lk : List Int), k ≤ j ∧ j ≤ n ∧ i = .int .i64 j ∧ c = .int .u64 cv ∧ St 1 18446744073709551616 L ys off j cv Lk ∧ Blk wr g .u64 80 Lk ∧ Touch g w wr) (fun _ i _ => n - (intOf i).toNat)
      case atStart => exact ⟨k, cv, Lk, Nat.le_refl _, hm, rfl, rfl, HS.out.1, HS.out.2.1, HS.out.2.2⟩
      case round =>
        clear HS
        obtain ⟨j, cv, Lk, hj1, hj2, rfl, rfl, hst, hbl, hto⟩ := hrel
        have HS : Hid (St 1 18446744073709551616 L ys off j cv Lk ∧ Blk wr g .u64 80 Lk ∧ Touch g w wr) := ⟨hst, hbl, hto⟩
        have hc0 := hst.c0
        have hc1 := hst.c1
        by_cases hz : cv = 0
        · subst hz
          clear hst hbl hto hy
          go_wp2
          go_ret
          exact ⟨0, Lk, rfl, HS.out.2.1, HS.out.1.len, HS.out.1.wd, fun i hi => HS.out.1.out i (by omega), by decide, by decide, HS.out.1.finish hj2 (by have := HY.out; omega) (Or.inr rfl), HS.out.2.2⟩
        · have hne : (cv != 0) = true := by simpa using hz
          by_cases hlt2 : j < n
          · have hcz := hbl.cell (j := off + j) (by have := hst.len; have := HH.out.2.2.1; omega)
            have hfz := hbl.frozen (off + j)
            have hgs : g < wr.heap.size := hbl.lt
            obtain ⟨d, c', hrun, hd, hcc, he⟩ := add64_ex (dig Lk (off + j)) 0 cv (hst.wd.dig (by decide) _) (by decide) hst.c0 hst.c1
            have HD : Hid ((0 ≤ d ∧ d < 18446744073709551616) ∧ (0 ≤ c' ∧ c' ≤ 1) ∧ d + 1 * (c' * 18446744073709551616) = dig Lk (off + j) + 1 * (0 + cv)) := ⟨hd, hcc, he⟩
            clear hd hcc he hst hbl hto hy
            go_wp2_with (simp only [hrun])
            go_roundw
            case rel => exact ⟨j + 1, c', Lk.set (off + j) d, by omega, by omega, by go_num, rfl, HS.out.1.step (by have := HH.out.2.2.1; omega) HD.out.1 HD.out.2.1 (by have := HD.out.2.2; rw [HS.out.1.out (off + j) (by omega)] at this; rw [show dig ys j = 0 by (have := HY.out; simp [dig, List.getElem?_eq_none (show ys.length ≤ j by omega)])]; exact this), HS.out.2.1.set _ _, HS.out.2.2.set _ _⟩
            case measure => simp [intOf]; omega
          · obtain rfl : j = n := by omega
            clear hst hbl hto hy
            go_wp2
            go_ret
            exact ⟨cv, Lk, rfl, HS.out.2.1, HS.out.1.len, HS.out.1.wd, fun i hi => HS.out.1.out i (by omega), hc0, hc1, HS.out.1.finish hj2 (by have := HY.out; omega) (Or.inl rfl), HS.out.2.2⟩
set_option maxRecDepth 100000 in
set_option maxHeartbeats 1600000 in
theorem subInto_any (g off n cap : Nat) (bo : Option Addr) (m cb : Nat) (L ys : List Int) (w : World) (hb : Blk w g .u64 80 L) (hW : Wd 18446744073709551616 L) (hn : off + n ≤ L.length) (hnc : n ≤ cap) (hcap : cap ≤ 4611686018427387904)
    (hy : RowAt w .u64 bo m cb ys) (hyW : Wd 18446744073709551616 ys) (hm : m ≤ n) (hap : Apart bo m g off n) :
    Calls Tryz.prog 111 #[.slice (some ⟨g, off, none⟩) n cap, .slice bo m cb] w fun e w' => Summed (-1) w w' e g off n L ys := by
  have HY : Hid (m = ys.length) := hy.hlen
  have HH : Hid (Blk w g .u64 80 L ∧ Wd 18446744073709551616 L ∧ off + n ≤ L.length ∧ Wd 18446744073709551616 ys ∧ Apart bo m g off n) := ⟨hb, hW, hn, hyW, hap⟩
  clear hb hW hn hyW hap
  go_enter Tryz.func111, Tryz.ntmps111
  go_wp2
  go_loopw [6, 16] (fun c i wr => ∃ (k : Nat) (cv : Int) (Lk : List Int), k ≤ m ∧ i = .int .i64 k ∧ c = .int .u64 cv ∧ St (-1) 18446744073709551616 L ys off k cv Lk ∧ Blk wr g .u64 80 Lk ∧ Touch g w wr) (fun _ i _ => m - (intOf i).toNat)
  case atStart => exact ⟨0, 0, L, Nat.zero_le _, rfl, rfl, St.start off HH.out.2.1, HH.out.1, Touch.refl _ _⟩
  case round =>
    obtain ⟨k, cv, Lk, hk, rfl, rfl, hst, hbl, hto⟩ := hrel
    have HS : Hid (St (-1) 18446744073709551616 L ys off k cv Lk ∧ Blk wr g .u64 80 Lk ∧ Touch g w wr) := ⟨hst, hbl, hto⟩
    by_cases hlt : k < m
    · have hyr : RowAt wr .u64 bo m cb ys := row_touch hy HH.out.1 hbl hto HH.out.2.2.2.2 (fun j hj => hst.out j (by omega)) hst.len
      obtain ⟨b', o', rfl, hb', hc'⟩ := hyr.get (by omega)
      have hcy := hc' k hlt
      have hcz := hbl.cell (j := off + k) (by have := hst.len; have := HH.out.2.2.1; omega)
      have hfz := hbl.frozen (off + k)
      have hgs : g < wr.heap.size := hbl.lt
      obtain ⟨d, c', hrun, hd, hcc, he⟩ := sub64_ex (dig Lk (off + k)) (dig ys k) cv (hst.wd.dig (by decide) _) (HH.out.2.2.2.1.dig (by decide) _) hst.c0 hst.c1
      have HD : Hid ((0 ≤ d ∧ d < 18446744073709551616) ∧ (0 ≤ c' ∧ c' ≤ 1) ∧ d + (-1) * (c' * 18446744073709551616) = dig Lk (off + k) + (-1) * (dig ys k + cv)) := ⟨hd, hcc, he⟩
      clear hd hcc he hst hbl hto hyr hy hc'
      go_wp2_with (simp only [hrun])
      go_roundw
      case rel => exact ⟨k + 1, c', Lk.set (off + k) d, by omega, by go_num, rfl, HS.out.1.step (by have := HH.out.2.2.1; omega) HD.out.1 HD.out.2.1 (by have := HD.out.2.2; rw [HS.out.1.out (off + k) (by omega)] at this; exact this), HS.out.2.1.set _ _, HS.out.2.2.set _ _⟩
      case measure => simp [intOf]; omega
    · obtain rfl : k = m := by omega
      clear hst hbl hto
      go_wp2
      obtain ⟨wo, rfl⟩ : ∃ wo : World, wo = wr := ⟨_, rfl⟩
      go_loopw [6, 9] (fun c i wr => ∃ (j : Nat) (cv : Int) (Lk : List Int), k ≤ j ∧ j ≤ n ∧ i = .int .i64 j ∧ c = .int .u64 cv ∧ St (-1) 18446744073709551616 L ys off j cv Lk ∧ Blk wr g .u64 80 Lk ∧ Touch g w wr) (fun _ i _ => n - (intOf i).toNat)
      case atStart => exact ⟨k, cv, Lk, Nat.le_refl _, hm, rfl, rfl, HS.out.1, HS.out.2.1, HS.out.2.2⟩
      case round =>
        clear HS
        obtain ⟨j, cv, Lk, hj1, hj2, rfl, rfl, hst, hbl, hto⟩ := hrel
        have HS : Hid (St (-1) 18446744073709551616 L ys off j cv Lk ∧ Blk wr g .u64 80 Lk ∧ Touch g w wr) := ⟨hst, hbl, hto⟩
        have hc0 := hst.c0
        have hc1 := hst.c1
        by_cases hz : cv = 0
        · subst hz
          clear hst hbl hto hy
          go_wp2
          go_ret
          exact ⟨0, Lk, rfl, HS.out.2.1, HS.out.1.len, HS.out.1.wd, fun i hi => HS.out.1.out i (by omega), by decide, by decide, HS.out.1.finish hj2 (by have := HY.out; omega) (Or.inr rfl), HS.out.2.2⟩
        · have hne : (cv != 0) = true := by simpa using hz
          by_cases hlt2 : j < n
          · have hcz := hbl.cell (j := off + j) (by have := hst.len; have := HH.out.2.2.1; omega)
            have hfz := hbl.frozen (off + j)
            have hgs : g < wr.heap.size := hbl.lt
            obtain ⟨d, c', hrun, hd, hcc, he⟩ := sub64_ex (dig Lk (off + j)) 0 cv (hst.wd.dig (by decide) _) (by decide) hst.c0 hst.c1
            have HD : Hid ((0 ≤ d ∧ d < 18446744073709551616) ∧ (0 ≤ c' ∧ c' ≤ 1) ∧ d + (-1) * (c' * 18446744073709551616) = dig Lk (off + j) + (-1) * (0 + cv)) := ⟨hd, hcc, he⟩
            clear hd hcc he hst hbl hto hy
            go_wp2_with (simp only [hrun])
            go_roundw
            case rel => exact ⟨j + 1, c', Lk.set (off + j) d, by omega, by omega, by go_num, rfl, HS.out.1.step (by have := HH.out.2.2.1; omega) HD.out.1 HD.out.2.1 (by have := HD.out.2.2; rw [HS.out.1.out (off + j) (by omega)] at this; rw [show dig ys j = 0 by (have := HY.out; simp [dig, List.getElem?_eq_none (show ys.length ≤ j by omega)])]; exact this), HS.out.2.1.set _ _, HS.out.2.2.set _ _⟩
            case measure => simp [intOf]; omega
          · obtain rfl : j = n := by omega
            clear hst hbl hto hy
            go_wp2
            go_ret
            exact ⟨cv, Lk, rfl, HS.out.2.1, HS.out.1.len, HS.out.1.wd, fun i hi => HS.out.1.out i (by omega), hc0, hc1, HS.out.1.finish hj2 (by have := HY.out; omega) (Or.inl rfl), HS.out.2.2⟩
end Go.Proofs.YtiemgadnnnhmkaaGreat
/- Walks: plus, minus. -/
namespace Go.Proofs.YtiemgadnnnhmkaaGreat
open Go.RowKit
set_option linter.unusedVariables false
set_option linter.unusedSimpArgs false
/-- a whole block summed into: nothing is carried out of it -/
def SumAll (w w' : World) (e : Ending) (g n : Nat) (T : Int) : Prop :=
  ∃ c L', e = .returned (.int .u64 c) ∧ Blk w' g .u64 80 L' ∧ L'.length = n ∧ Wd 18446744073709551616 L' ∧ val 18446744073709551616 L' = T ∧ Touch g w w'
theorem Summed.all {s : Int} {w w' : World} {e : Ending} {g n : Nat} {L ys : List Int} {T : Int} (h : Summed s w w' e g 0 n L ys) (hs : s = 1 ∨ s = -1) (hn : n = L.length) (hT : T = val 18446744073709551616 L + s * val 18446744073709551616 ys) (h0 : 0 ≤ T) (h1 : T < 18446744073709551616 ^ n) : SumAll w w' e g n T := by
  obtain ⟨c, L', he, hb, hl, hw, _, hc0, hc1, hV, hto⟩ := h
  refine ⟨c, L', he, hb, by omega, hw, ?_, hto⟩
  rw [V_all _ (by omega), V_all _ hn] at hV
  have a1 := val_nonneg (q := 18446744073709551616) (by decide) hw
  have a2 := val_lt (q := 18446744073709551616) (by decide) hw
  have e1 : L'.length = n := by omega
  rw [e1] at a2
  rw [← hT] at hV
  have hc : c = 0 ∨ c = 1 := by omega
  obtain ⟨Q, hQ⟩ : ∃ Q : Int, (18446744073709551616 : Int) ^ n = Q := ⟨_, rfl⟩
  rw [hQ] at hV a2 h1
  rcases hc with rfl | rfl <;> rcases hs with rfl | rfl <;> omega
theorem mag_len_lt {n : Nat} {l : Nat} (h : l = (mag n).length) : (n : Int) < 18446744073709551616 ^ l := by
  have := val_lt (q := 18446744073709551616) (by decide) (mag_wd n)
  rw [mag_val, ← h] at this; exact this
theorem mag_len_mono {a b : Nat} (h : b ≤ a) : (mag b).length ≤ (mag a).length := by
  by_cases hlt : (mag a).length < (mag b).length
  · have := val_lt_of_len (q := 18446744073709551616) (by decide) (mag_wd a) (mag_wd b) (mag_can b) hlt
    rw [mag_val, mag_val] at this; omega
  · omega
theorem mag_len_le {n k : Nat} (h : (n : Int) < 18446744073709551616 ^ k) : (mag n).length ≤ k := by
  by_cases e : mag n = []
  · rw [e]; exact Nat.zero_le _
  · have h1 := val_ge (q := 18446744073709551616) (by decide) (mag_wd n) (mag_can n) e
    rw [mag_val] at h1
    by_cases hk : (mag n).length ≤ k
    · exact hk
    · have h2 := pow_mono' (q := 18446744073709551616) (by decide) (show k ≤ (mag n).length - 1 by omega)
      omega
theorem mag_len_add (a b : Nat) : (mag (a + b)).length ≤ (mag a).length + (mag b).length + 1 := by
  have h1 := mag_len_lt (n := a) rfl
  have h2 := mag_len_lt (n := b) rfl
  apply mag_len_le
  have h3 := pow_mono' (q := 18446744073709551616) (by decide) (show (mag a).length ≤ (mag a).length + (mag b).length by omega)
  have h4 := pow_mono' (q := 18446744073709551616) (by decide) (show (mag b).length ≤ (mag a).length + (mag b).length by omega)
  rw [Int.pow_succ]; omega
theorem Trimmed.natOwn {w0 w : World} {ao : Option Addr} {n cap : Nat} {L : List Int} {e : Ending} {N : Nat} (h : Trimmed w .u64 ao n cap L e) (ho : Own w0.heap.size w .u64 80 ao n cap L) (hW : Wd 18446744073709551616 L) (hv : val 18446744073709551616 L = N) (hB : Below w0.heap.size w0 w) : NewNat w0 w e N := by
  obtain ⟨ao', k, cap', hk, he, hr, hc, hval, hor⟩ := h
  have hm : mag N = L.take k := mag_of (hW.take k) hc (by rw [hval, hv])
  refine ⟨ao', k, cap', he, ?_, hB⟩
  rw [hm]
  rcases hor with ⟨rfl, rfl⟩ | ⟨rfl, rfl⟩
  · exact ho.take hk
  · exact Or.inl ⟨rfl, rfl, hr.hnil rfl, by simp⟩
theorem Trimmed.nat {w0 w : World} {g n : Nat} {L : List Int} {e : Ending} {N : Nat} (h : Trimmed w .u64 (some ⟨g, 0, none⟩) n n L e) (hb : Blk w g .u64 80 L) (hn : n = L.length) (hg : w0.heap.size ≤ g) (hW : Wd 18446744073709551616 L) (hv : val 18446744073709551616 L = N) (hB : Below w0.heap.size w0 w) : NewNat w0 w e N := by
  obtain ⟨ao', k, cap', hk, he, hr, hc, hval, hor⟩ := h
  have hm : mag N = L.take k := mag_of (hW.take k) hc (by rw [hval, hv])
  refine ⟨ao', k, cap', he, ?_, hB⟩
  rw [hm]
  rcases hor with ⟨rfl, rfl⟩ | ⟨rfl, rfl⟩
  · exact (Own.whole hb hg hn).take hk
  · refine Or.inl ⟨rfl, rfl, ?_, by simp⟩
    exact hr.hnil rfl
theorem apart_new {w : World} {k : IntKind} {bo : Option Addr} {m cb g : Nat} {ys : List Int} (h : RowAt w k bo m cb ys) (hg : w.heap.size ≤ g) {off n : Nat} : Apart bo m g off n := by
  intro b o hbo t ht k hk e
  obtain ⟨b', o', h1, h2, _⟩ := h.get (by omega)
  rw [h1] at hbo
  simp only [Option.some.injEq, Addr.mk.injEq] at hbo
  omega
end Go.Proofs.YtiemgadnnnhmkaaGreat
/- Walks: signed, sum, Add, From, EqInt. -/
namespace Go.Proofs.YtiemgadnnnhmkaaGreat
open Go.RowKit
set_option linter.unusedVariables false
set_option linter.unusedSimpArgs false
set_option maxRecDepth 100000 in
set_option maxHeartbeats 400000 in
theorem signed_any (neg : Bool) (ao : Option Addr) (len cap : Nat) (w : World) (hl : len ≤ 4611686018427387904) :
    Calls Tryz.prog 46 #[.bool neg, .slice ao len cap] w fun e w' => e = .returned (.agg #[.bool (neg && decide (0 < len)), .slice ao len cap]) ∧ Below w.heap.size w w' := by
  cases neg
  · go_enter Tryz.func46, Tryz.ntmps46
    go_wp2
    exact bodyPost_ret (v := .agg #[.bool false, .slice ao len cap]) (by simp [results, Tryz.results46, go_sem]) rfl ⟨rfl, (Below.refl _ _).alloc (Nat.le_refl _) _⟩
  · by_cases h : 0 < len
    · rw [decide_eq_true h]
      go_enter Tryz.func46, Tryz.ntmps46
      go_wp2
      exact bodyPost_ret (v := .agg #[.bool true, .slice ao len cap]) (by simp [results, Tryz.results46, go_sem]) rfl ⟨rfl, (Below.refl _ _).alloc (Nat.le_refl _) _⟩
    · rw [decide_eq_false h]
      go_enter Tryz.func46, Tryz.ntmps46
      go_wp2
      exact bodyPost_ret (v := .agg #[.bool false, .slice ao len cap]) (by simp [results, Tryz.results46, go_sem]) rfl ⟨rfl, (Below.refl _ _).alloc (Nat.le_refl _) _⟩
theorem Own.setOther {B : Nat} {w : World} {k : IntKind} {t : TypeId} {ao : Option Addr} {len cap : Nat} {zs : List Int} (h : Own B w k t ao len cap zs) {a : Addr} (ha : a.block < B) (v : Value) : Own B (w.setCell a v) k t ao len cap zs := by
  rcases h with h | ⟨g, off, L, h1, h2, h3, h4⟩
  · exact Or.inl h
  · exact Or.inr ⟨g, off, L, h1, h2, by rw [Below.heap_setCell _ _ _ _ (by omega)]; exact h3, h4⟩
theorem NewInt.ret {w w' : World} {B : Nat} {neg : Bool} {n l c : Nat} {ao : Option Addr} {v : Int} (ho : Own B w' .u64 80 ao l c (mag n)) (hB : w.heap.size ≤ B) (hv : v = sgn neg n) (hb : Below w.heap.size w w') : NewInt w w' (.returned (.agg #[.bool (neg && decide (0 < l)), .slice ao l c])) v := by
  subst hv
  refine ⟨_, _, _, _, rfl, ?_, ?_, hb⟩
  · rw [sgB_sgn, ho.row.hlen]
  · rw [natAbs_sgn]; exact ho.mono hB
theorem compare_at (ao bo : Option Addr) (la ca lb cb a b : Nat) (w : World) (hx : RowAt w .u64 ao la ca (mag a)) (hy : RowAt w .u64 bo lb cb (mag b)) (hl : la ≤ 4294967296) (hl' : lb ≤ 4294967296) (c : Int) (hc : cmpI a b = c) :
    Calls Tryz.prog 42 #[.slice ao la ca, .slice bo lb cb] w fun e w' => e = .returned (.int .i64 c) ∧ Below w.heap.size w w' := by
  refine (compare_any ao bo la ca lb cb (mag a) (mag b) w hx hy (mag_wd _) (mag_wd _) (mag_can _) (mag_can _) (by omega) (by omega)).mono fun e w' h => ?_
  rw [mag_val, mag_val, hc] at h; exact h
end Go.Proofs.YtiemgadnnnhmkaaGreat
/- Walks: sum. -/
namespace Go.Proofs.YtiemgadnnnhmkaaGreat
open Go.RowKit
set_option linter.unusedVariables false
set_option linter.unusedSimpArgs false
end Go.Proofs.YtiemgadnnnhmkaaGreat
/- Walks: is it a number? (Check, NMay, May) -/
namespace Go.Proofs.YtiemgadnnnhmkaaGreat
open Go.RowKit
set_option linter.unusedVariables false
set_option linter.unusedSimpArgs false
theorem mayB_len {neg : Bool} {zs : List Int} {len : Nat} (hl : len = zs.length) (hp : 0 < len) : mayB neg zs = (dig zs (len - 1) != 0) := by
  subst hl; exact mayB_last (List.length_pos_iff.1 hp)
/-- the magnitude alone -/
def nmayB (zs : List Int) : Bool := mayB false zs
theorem nmayB_len {zs : List Int} {len : Nat} (hl : len = zs.length) (hp : 0 < len) : nmayB zs = (dig zs (len - 1) != 0) := mayB_len hl hp
set_option maxRecDepth 100000 in
set_option maxHeartbeats 400000 in
theorem check_any (neg : Bool) (ao : Option Addr) (len cap : Nat) (zs : List Int) (w : World) (hr : RowAt w .u64 ao len cap zs) (hl : len ≤ 4611686018427387904) :
    Calls Tryz.prog 64 #[.agg #[.bool neg, .slice ao len cap]] w fun e w' => e = .returned (.int .i64 (if mayB neg zs then 0 else 10)) ∧ Below w.heap.size w w' := by
  by_cases hp : 0 < len
  · obtain ⟨b, off, rfl, hlt, hc⟩ := hr.get hp
    have hcell := hc (len - 1) (by omega)
    rw [mayB_len hr.hlen hp]
    clear hc hr
    obtain ⟨z, hz⟩ : ∃ z, dig zs (len - 1) = z := ⟨_, rfl⟩
    rw [hz] at hcell ⊢
    clear hz
    by_cases h0 : z = 0
    · subst h0
      go_enter Tryz.func64, Tryz.ntmps64
      go_wp2
      go_ret
      exact ⟨rfl, (Below.refl _ _).alloc (Nat.le_refl _) _⟩
    · have h1 : (z == 0) = false := by simpa using h0
      have h2 : (z != 0) = true := by simpa using h0
      rw [h2]
      go_enter Tryz.func64, Tryz.ntmps64
      go_wp2
      go_ret
      exact ⟨rfl, (Below.refl _ _).alloc (Nat.le_refl _) _⟩
  · obtain rfl : len = 0 := by omega
    obtain rfl : zs = [] := List.eq_nil_of_length_eq_zero hr.hlen.symm
    cases neg
    all_goals
      go_enter Tryz.func64, Tryz.ntmps64
      go_wp2
      go_ret
      exact ⟨rfl, (Below.refl _ _).alloc (Nat.le_refl _) _⟩
set_option maxRecDepth 100000 in
set_option maxHeartbeats 400000 in
theorem nmay_any (ao : Option Addr) (len cap : Nat) (zs : List Int) (w : World) (hr : RowAt w .u64 ao len cap zs) (hl : len ≤ 4611686018427387904) :
    Calls Tryz.prog 63 #[.slice ao len cap] w fun e w' => e = .returned (.bool (nmayB zs)) ∧ w' = w := by
  by_cases hp : 0 < len
  · obtain ⟨b, off, rfl, hlt, hc⟩ := hr.get hp
    have hcell := hc (len - 1) (by omega)
    rw [nmayB_len hr.hlen hp]
    clear hc hr
    obtain ⟨z, hz⟩ : ∃ z, dig zs (len - 1) = z := ⟨_, rfl⟩
    rw [hz] at hcell ⊢
    clear hz
    have hl0 : ((len : Int) == 0) = false := by simp; omega
    go_enter Tryz.func63, Tryz.ntmps63
    go_wp2
    go_ret
    exact ⟨rfl, rfl⟩
  · obtain rfl : len = 0 := by omega
    obtain rfl : zs = [] := List.eq_nil_of_length_eq_zero hr.hlen.symm
    go_enter Tryz.func63, Tryz.ntmps63
    go_wp2
    go_ret
    exact ⟨rfl, rfl⟩
end Go.Proofs.YtiemgadnnnhmkaaGreat
/- Walks: small functions of numbers. -/
namespace Go.Proofs.YtiemgadnnnhmkaaGreat
open Go.RowKit
set_option linter.unusedVariables false
set_option linter.unusedSimpArgs false
/-- one call behind another -/
theorem bnext {w W w' : World} (h : Below w.heap.size w W) (k : Below W.heap.size W w') : Below w.heap.size w w' := h.trans (k.mono h.size)
set_option maxRecDepth 100000 in
set_option maxHeartbeats 400000 in
theorem may_any (neg : Bool) (ao : Option Addr) (len cap : Nat) (zs : List Int) (w : World) (hr : RowAt w .u64 ao len cap zs) (hl : len ≤ 4611686018427387904) :
    Calls Tryz.prog 38 #[.agg #[.bool neg, .slice ao len cap]] w fun e w' => e = .returned (.bool (mayB neg zs)) ∧ Below w.heap.size w w' := by
  have hn : Hid (mayB neg zs = (nmayB zs && (decide (0 < len) || !neg))) := by
    show _ = _
    by_cases hp : 0 < len
    · rw [mayB_len hr.hlen hp, nmayB_len hr.hlen hp, decide_eq_true hp]; simp
    · obtain rfl : zs = [] := List.eq_nil_of_length_eq_zero (by have := hr.hlen; omega)
      rw [decide_eq_false hp]; cases neg <;> rfl
  obtain ⟨m, hm⟩ : ∃ m, nmayB zs = m := ⟨_, rfl⟩
  have hcon := nmay_any ao len cap zs (w.alloc (.cells #[.bool neg, .slice ao len cap] 30)) (hr.later ((Below.refl _ _).alloc (Nat.le_refl _) _)) hl
  rw [hm] at hcon
  rw [hn.out, hm]
  clear hn hm hr
  cases m
  · go_enter Tryz.func38, Tryz.ntmps38
    go_wp2_with (go_at_call 63; refine hcon.mono ?_; rintro e w' ⟨rfl, rfl⟩)
    go_ret
    exact ⟨rfl, (Below.refl _ _).alloc (Nat.le_refl _) _⟩
  · by_cases hp : 0 < len
    · rw [decide_eq_true hp]
      go_enter Tryz.func38, Tryz.ntmps38
      go_wp2_with (go_at_call 63; refine hcon.mono ?_; rintro e w' ⟨rfl, rfl⟩)
      go_ret
      exact ⟨rfl, (Below.refl _ _).alloc (Nat.le_refl _) _⟩
    · rw [decide_eq_false hp]
      obtain rfl : len = 0 := by omega
      cases neg
      all_goals
        go_enter Tryz.func38, Tryz.ntmps38
        go_wp2_with (go_at_call 63; refine hcon.mono ?_; rintro e w' ⟨rfl, rfl⟩)
        go_ret
        exact ⟨rfl, (Below.refl _ _).alloc (Nat.le_refl _) _⟩
set_option maxRecDepth 100000 in
set_option maxHeartbeats 400000 in
theorem made_any (neg : Bool) (ao : Option Addr) (len cap : Nat) (w : World) (hl : len ≤ 4611686018427387904) :
    Calls Tryz.prog 60 #[.bool neg, .slice ao len cap] w fun e w' => e = .returned (.agg #[.bool (neg && decide (0 < len)), .slice ao len cap]) ∧ Below w.heap.size w w' := by
  cases neg
  · go_enter Tryz.func60, Tryz.ntmps60
    go_wp2
    exact bodyPost_ret (v := .agg #[.bool false, .slice ao len cap]) (by simp [results, Tryz.results60, go_sem]) rfl ⟨rfl, (Below.refl _ _).alloc (Nat.le_refl _) _⟩
  · by_cases h : 0 < len
    · rw [decide_eq_true h]
      go_enter Tryz.func60, Tryz.ntmps60
      go_wp2
      exact bodyPost_ret (v := .agg #[.bool true, .slice ao len cap]) (by simp [results, Tryz.results60, go_sem]) rfl ⟨rfl, (Below.refl _ _).alloc (Nat.le_refl _) _⟩
    · rw [decide_eq_false h]
      go_enter Tryz.func60, Tryz.ntmps60
      go_wp2
      exact bodyPost_ret (v := .agg #[.bool false, .slice ao len cap]) (by simp [results, Tryz.results60, go_sem]) rfl ⟨rfl, (Below.refl _ _).alloc (Nat.le_refl _) _⟩
/-- whatever stands there as signs and words: are they alike? -/
theorem eqint_any (na nb : Bool) (ao bo : Option Addr) (la ca lb cb : Nat) (x y : List Int) (w : World) (hx : RowAt w .u64 ao la ca x) (hy : RowAt w .u64 bo lb cb y) (hl : la ≤ 4611686018427387904) :
    Calls Tryz.prog 45 #[.agg #[.bool na, .slice ao la ca], .agg #[.bool nb, .slice bo lb cb]] w fun e w' => e = .returned (.bool (decide (na = nb) && decide (x = y))) ∧ Below w.heap.size w w' := by
  by_cases hs : na = nb
  · subst hs
    rw [decide_eq_true rfl, Bool.true_and]
    have hbW : Below w.heap.size w ((w.alloc (.cells #[.bool na, .slice ao la ca] 30)).alloc (.cells #[.bool na, .slice bo lb cb] 30)) := ((Below.refl _ _).alloc (Nat.le_refl _) _).alloc (by simp) _
    have hcon := eqwords_any ao bo la ca lb cb x y _ (hx.later hbW) (hy.later hbW) hl
    have HB : Hid _ := hbW
    clear hx hy hbW
    go_enter Tryz.func45, Tryz.ntmps45
    go_wp2_with (go_at_call 66; refine hcon.mono ?_; rintro e w' ⟨rfl, hb⟩)
    go_ret
    exact ⟨rfl, bnext HB.out hb⟩
  · have hs' : (na == nb) = false := by simpa using hs
    rw [decide_eq_false hs, Bool.false_and]
    go_enter Tryz.func45, Tryz.ntmps45
    go_wp2
    go_ret
    exact ⟨rfl, ((Below.refl _ _).alloc (Nat.le_refl _) _).alloc (by simp) _⟩
set_option maxRecDepth 100000 in
set_option maxHeartbeats 400000 in
theorem ofLimb_any (n : Nat) (w : World) (hn : n < 18446744073709551616) :
    Calls Tryz.prog 47 #[.int .u64 n] w fun e w' => NewNat w w' e n := by
  by_cases h0 : n = 0
  · subst h0
    go_enter Tryz.func47, Tryz.ntmps47
    go_wp2
    go_ret
    exact ⟨_, _, _, rfl, Own.none_, Below.refl _ _⟩
  · have h1 : ((n : Int) == 0) = false := by simp; omega
    have hm : Hid (mag n = [(n : Int)]) := mag_of (Wd.one (by omega)) (by simp [Can]; omega) (by simp [val])
    have hb : Hid (Blk (w.alloc (.cells #[.int .u64 (n : Int)] 80)) w.heap.size .u64 80 [(n : Int)]) := Blk.new w .u64 80 [(n : Int)]
    clear h0
    go_enter Tryz.func47, Tryz.ntmps47
    go_wp2
    go_ret
    exact ⟨_, _, _, rfl, by rw [hm.out]; exact Own.whole hb.out (Nat.le_refl _) rfl, (Below.refl _ _).alloc (Nat.le_refl _) _⟩
set_option maxRecDepth 100000 in
set_option maxHeartbeats 400000 in
theorem nof_any (n : Nat) (w : World) (hn : n < 18446744073709551616) :
    Calls Tryz.prog 61 #[.int .u64 n] w fun e w' => NewNat w w' e n := by
  have hb : Hid (Blk (w.alloc (.cells #[.int .u64 (n : Int)] 80)) w.heap.size .u64 80 [(n : Int)]) := Blk.new w .u64 80 [(n : Int)]
  have hcon := ntrim_any (some ⟨w.heap.size, 0, none⟩) 1 1 [(n : Int)] _ (Own.whole hb.out (Nat.le_refl _) rfl).row (by decide)
  go_enter Tryz.func61, Tryz.ntmps61
  go_wp2_with (go_at_call 78; refine hcon.mono ?_; rintro e w4 ⟨hT, rfl⟩; obtain ⟨ao', n', cap', hn', rfl, hrest⟩ := hT)
  go_ret
  exact Trimmed.nat (L := [(n : Int)]) ⟨ao', n', cap', hn', rfl, hrest⟩ hb.out rfl (Nat.le_refl _) (Wd.one (by omega)) (by simp [val]) ((Below.refl _ _).alloc (Nat.le_refl _) _)
end Go.Proofs.YtiemgadnnnhmkaaGreat
