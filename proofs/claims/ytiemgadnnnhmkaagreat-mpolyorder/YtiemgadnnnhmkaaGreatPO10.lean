/-
  NF: walks: the page's mayTerm and May: of whatever lies there: what is told true is a good polynomial. (gen/nf.py)
-/
import Derived.Test.YtiemgadnnnhmkaaGreatPO05
import Derived.Test.YtiemgadnnnhmkaaGreatPO09
namespace Go.Proofs.YtiemgadnnnhmkaaGreat
open Go.RowKit
set_option linter.unusedVariables false
set_option linter.unusedSimpArgs false
/-- a call tells a bit, of which P holds -/
def Tells (P : Bool → Prop) (w : World) (e : Ending) (w' : World) : Prop := ∃ b, e = .returned (.bool b) ∧ P b ∧ Below w.heap.size w w'
theorem Tells.no {P : Prop} {w w' : World} (h : Below w.heap.size w w') : Tells (fun b => b = true → P) w (.returned (.bool false)) w' := ⟨false, rfl, fun e => (by cases e), h⟩
theorem Tells.yes {P : Prop} {w w' : World} (hp : P) (h : Below w.heap.size w w') : Tells (fun b => b = true → P) w (.returned (.bool true)) w' := ⟨true, rfl, fun _ => hp, h⟩
theorem Tells.nay {P : Prop} {w w' : World} (hp : P) (h : Below w.heap.size w w') : Tells (fun b => b = false → P) w (.returned (.bool false)) w' := ⟨false, rfl, fun _ => hp, h⟩
theorem Tells.much {P : Prop} {w w' : World} (h : Below w.heap.size w w') : Tells (fun b => b = false → P) w (.returned (.bool true)) w' := ⟨true, rfl, fun e => (by cases e), h⟩
theorem dig_mem {E : List Int} {e : Int} (h : e ∈ E) : ∃ k, k < E.length ∧ dig E k = e := by
  obtain ⟨k, hk, he⟩ := List.mem_iff_getElem.1 h
  exact ⟨k, hk, by simp [dig, hk, he]⟩
set_option maxRecDepth 100000 in
set_option maxHeartbeats 4000000 in
theorem rmayTerm_any (n : Int) (E : List Int) (neg : Bool) (zs : List Int) (eo : Option Addr) (el ec : Nat) (ao : Option Addr) (la ca : Nat) (w : World) (he : ExpAt w eo el ec E) (hr : RowAt w .u64 ao la ca zs) (hl : la ≤ 4611686018427387904) :
    Calls Tryz.prog 21 #[.agg #[.slice eo el ec, .bool neg, .slice ao la ca], .int .i64 n] w (Tells (fun b => b = true → GoodT n (E, neg, zs)) w) := by
  obtain ⟨W, hW⟩ : ∃ W, W = w.alloc (.cells #[.slice eo el ec, .bool neg, .slice ao la ca] 56) := ⟨_, rfl⟩
  have HW : Hid (Below w.heap.size w W) := by rw [hW]; exact (Below.refl _ _).alloc (Nat.le_refl _) _
  obtain ⟨m, hm⟩ : ∃ m, mayB neg zs = m := ⟨_, rfl⟩
  obtain ⟨c, hc⟩ : ∃ c, ((la : Int) == 0) = c := ⟨_, rfl⟩
  have HC : Hid (∀ W', Below w.heap.size w W' → Calls Tryz.prog 38 #[.agg #[.bool neg, .slice ao la ca]] W' fun e w' => e = .returned (.bool m) ∧ Below W'.heap.size W' w') := fun W' hb => by
    rw [← hm]; exact may_any neg ao la ca zs W' (hr.later hb) hl
  have HS : Hid (∀ W', Calls Tryz.prog 39 #[.agg #[.bool neg, .slice ao la ca]] W' fun e w' => e = .returned (.bool c) ∧ Below W'.heap.size W' w') := fun W' => rzero_any neg ao la ca W' c hc
  have HE : Hid (ExpAt w eo el ec E ∧ mayB neg zs = m ∧ ((la : Int) == 0) = c ∧ la = zs.length ∧ el = E.length) := ⟨he, hm, hc, hr.hlen, he.row.hlen⟩
  have KC : Hid (∀ w', Below W.heap.size W w' → w'.cell? ⟨w.heap.size, 0, none⟩ = some (.slice eo el ec) ∧ w'.cell? ⟨w.heap.size, 1, none⟩ = some (.bool neg) ∧ w'.cell? ⟨w.heap.size, 2, none⟩ = some (.slice ao la ca)) := fun w' h => by
    rw [hW] at h
    have hk : ∀ j v, [Value.slice eo el ec, .bool neg, .slice ao la ca][j]? = some v → w'.cell? ⟨w.heap.size, j, none⟩ = some v := fun j v hj => by
      rw [h.cell (p := ⟨w.heap.size, j, none⟩) (by simp)]
      simpa [go_sem] using hj
    exact ⟨hk 0 _ rfl, hk 1 _ rfl, hk 2 _ rfl⟩
  have HWE : Hid (W = w.alloc (.cells #[.slice eo el ec, .bool neg, .slice ao la ca] 56)) := hW
  have hel9 := he.short
  clear hW hm hc he hr hl
  by_cases hel : (el : Int) = n
  · subst hel
    cases m
    · go_enter Tryz.func21, Tryz.ntmps21
      go_wp2_with (go_at_call 38; rw [← HWE.out]; refine (HC.out _ HW.out).mono ?_; rintro e w1 ⟨rfl, hb1⟩; have HB1 : Hid (Below W.heap.size W w1 ∧ Below w.heap.size w w1) := ⟨hb1, bnext HW.out hb1⟩; obtain ⟨p0, p1, p2⟩ := KC.out _ hb1; clear hb1)
      go_ret
      exact Tells.no HB1.out.2
    · cases c
      · go_enter Tryz.func21, Tryz.ntmps21
        go_wp2_with (first
          | (go_at_call 39; refine (HS.out _).mono ?_; rintro e w2 ⟨rfl, hb2⟩; have HB2 : Hid (Below W.heap.size W w2 ∧ Below w.heap.size w w2) := ⟨bnext HB1.out.1 hb2, bnext HB1.out.2 hb2⟩; obtain ⟨q0, q1, q2⟩ := KC.out _ HB2.out.1; clear hb2 p0 p1 p2)
          | (go_at_call 38; rw [← HWE.out]; refine (HC.out _ HW.out).mono ?_; rintro e w1 ⟨rfl, hb1⟩; have HB1 : Hid (Below W.heap.size W w1 ∧ Below w.heap.size w w1) := ⟨hb1, bnext HW.out hb1⟩; obtain ⟨p0, p1, p2⟩ := KC.out _ hb1; clear hb1))
        go_loopw [5] (fun i wr => ∃ k : Nat, k ≤ el ∧ i = .int .i64 (k : Int) ∧ wr = w2 ∧ Hid (∀ t, t < k → 0 ≤ dig E t ∧ dig E t ≤ 1024)) (fun i _ => el - (intOf i).toNat)
        case atStart => exact ⟨0, Nat.zero_le _, rfl, rfl, fun t ht => absurd ht (Nat.not_lt_zero _)⟩
        case round =>
          obtain ⟨k, hk, rfl, rfl, HD⟩ := hrel
          by_cases hlt : k < el
          · obtain ⟨b, off, rfl, _, hc⟩ := (HE.out.1.later HB2.out.2).row.get (by omega)
            have h1 := hc k hlt
            obtain ⟨z, hz⟩ : ∃ z, dig E k = z := ⟨_, rfl⟩
            rw [hz] at h1
            have HZ : Hid (dig E k = z) := hz
            have z1 : (k : Int) < (el : Int) := by omega
            have z2 : (0 : Int) ≤ (k : Int) := by omega
            clear hc hz
            by_cases z3 : z < 0
            · go_wp2
              go_ret
              exact Tells.no HB2.out.2
            · by_cases z4 : 1024 < z
              · go_wp2
                go_ret
                exact Tells.no HB2.out.2
              · go_wp2
                go_roundw
                case rel => exact ⟨k + 1, by omega, by go_num, (by first | trivial | rfl), fun t ht => by
                  by_cases e : t = k
                  · subst e; rw [HZ.out]; omega
                  · exact HD.out t (by omega)⟩
                case measure => simp [intOf]; omega
          · have z1 : ¬ (k : Int) < (el : Int) := by omega
            go_wp2
            go_ret
            refine Tells.yes ⟨?_, HE.out.2.1, ?_, fun e hm => ?_⟩ HB2.out.2
            · have := HE.out.2.2.2.2; simp; omega
            · intro h0
              have h1 := HE.out.2.2.1
              have h2 := HE.out.2.2.2.1
              dsimp only at h0
              subst h0
              simp [h2] at h1
            · obtain ⟨t, ht, he⟩ := dig_mem hm
              have := HD.out t (by have := HE.out.2.2.2.2; dsimp only at ht; omega)
              rw [he] at this
              exact this
      · go_enter Tryz.func21, Tryz.ntmps21
        go_wp2_with (first
          | (go_at_call 39; refine (HS.out _).mono ?_; rintro e w2 ⟨rfl, hb2⟩; have HB2 : Hid (Below W.heap.size W w2 ∧ Below w.heap.size w w2) := ⟨bnext HB1.out.1 hb2, bnext HB1.out.2 hb2⟩; obtain ⟨q0, q1, q2⟩ := KC.out _ HB2.out.1; clear hb2 p0 p1 p2)
          | (go_at_call 38; rw [← HWE.out]; refine (HC.out _ HW.out).mono ?_; rintro e w1 ⟨rfl, hb1⟩; have HB1 : Hid (Below W.heap.size W w1 ∧ Below w.heap.size w w1) := ⟨hb1, bnext HW.out hb1⟩; obtain ⟨p0, p1, p2⟩ := KC.out _ hb1; clear hb1))
        go_ret
        exact Tells.no HB2.out.2
  · have e1 : ((el : Int) != n) = true := by simpa using hel
    have e2 : ((el : Int) == n) = false := by simpa using hel
    go_enter Tryz.func21, Tryz.ntmps21
    go_wp2
    go_ret
    exact Tells.no (by have := HW.out; rw [HWE.out] at this; exact this)
set_option maxRecDepth 100000 in
set_option maxHeartbeats 8000000 in
theorem rmmay_any (n : Int) (tp : Option Addr) (tl tc : Nat) (T : List (List Int × Bool × List Int)) (w : World) (h : TermsAt w tp tl tc T) :
    Calls Tryz.prog 12 #[.agg #[.int .i64 n, .slice tp tl tc]] w (Tells (fun b => b = true → GoodM n T) w) := by
  obtain ⟨W, hW⟩ : ∃ W, W = w.alloc (.cells #[.int .i64 n, .slice tp tl tc] 25) := ⟨_, rfl⟩
  have HW : Hid (Below w.heap.size w W) := by rw [hW]; exact (Below.refl _ _).alloc (Nat.le_refl _) _
  have HP : Hid (TermsAt w tp tl tc T) := h
  have HN : Hid (tl = T.length) := h.hlen
  have KC : Hid (∀ w', Below W.heap.size W w' → w'.cell? ⟨w.heap.size, 0, none⟩ = some (.int .i64 n) ∧ w'.cell? ⟨w.heap.size, 1, none⟩ = some (.slice tp tl tc)) := fun w' h => by
    rw [hW] at h
    have hk : ∀ j v, [Value.int .i64 n, .slice tp tl tc][j]? = some v → w'.cell? ⟨w.heap.size, j, none⟩ = some v := fun j v hj => by
      rw [h.cell (p := ⟨w.heap.size, j, none⟩) (by simp)]
      simpa [go_sem] using hj
    exact ⟨hk 0 _ rfl, hk 1 _ rfl⟩
  have HWE : Hid (W = w.alloc (.cells #[.int .i64 n, .slice tp tl tc] 25)) := hW
  clear hW h
  have HNO : Hid (Below w.heap.size w (w.alloc (.cells #[.int .i64 n, .slice tp tl tc] 25))) := by have := HW.out; rw [HWE.out] at this; exact this
  by_cases hn0 : n < 0
  · go_enter Tryz.func12, Tryz.ntmps12
    go_wp2
    go_ret
    exact Tells.no HNO.out
  by_cases hn8 : 8 < n
  · go_enter Tryz.func12, Tryz.ntmps12
    go_wp2
    go_ret
    exact Tells.no HNO.out
  by_cases htl : (4096 : Int) < (tl : Int)
  · go_enter Tryz.func12, Tryz.ntmps12
    go_wp2
    go_ret
    exact Tells.no HNO.out
  have hta : tl ≤ 4096 := by omega
  have HV : Hid (0 ≤ n ∧ n ≤ 8) := ⟨by omega, by omega⟩
  go_enter Tryz.func12, Tryz.ntmps12
  go_wp2
  rw [← HWE.out]
  obtain ⟨W0, hW0⟩ : ∃ W0, W0 = W := ⟨_, rfl⟩
  go_loopw [3] (fun i wr => ∃ k : Nat, k ≤ tl ∧ i = .int .i64 (k : Int) ∧ Hid (Below W.heap.size W wr) ∧ Hid ((∀ t, (ht : t < T.length) → t < k → GoodT n T[t]) ∧ (∀ t, (ht : t + 1 < T.length) → t + 1 < k → 0 < ordE (T[t]'(by omega)).1 T[t + 1].1))) (fun i _ => tl - (intOf i).toNat)
  case atStart => exact ⟨0, Nat.zero_le _, rfl, Below.refl _ _, fun t _ ht => absurd ht (Nat.not_lt_zero _), fun t _ ht => absurd ht (Nat.not_lt_zero _)⟩
  case round =>
    clear hW0 W0
    obtain ⟨k, hk, rfl, HS, HG⟩ := hrel
    obtain ⟨c0, c1⟩ := KC.out wr HS.out
    by_cases hlt : k < tl
    · have hkp : k < T.length := by have := HN.out; omega
      obtain ⟨b, off, eo, el, ec, n1, ao, la, ca, rfl, hb, ⟨a0, a1, a2⟩, hn1, he1, hr1, hw1, hl1⟩ := (HP.out.later (bnext HW.out HS.out)).get hkp
      have z1 : (k : Int) < (tl : Int) := by omega
      have z2 : (0 : Int) ≤ (k : Int) := by omega
      have HT : Hid (∀ W', Below wr.heap.size wr W' → Calls Tryz.prog 21 #[.agg #[.slice eo el ec, .bool n1, .slice ao la ca], .int .i64 n] W' (Tells (fun b => b = true → GoodT n T[k]) W')) := fun W' hb => by
        rw [hn1]
        exact rmayTerm_any n T[k].1 T[k].2.1 T[k].2.2 eo el ec ao la ca W' (he1.later hb) (hr1.later hb) hl1
      have KU : Hid (∀ w', Below wr.heap.size wr w' → w'.cell? ⟨w.heap.size, 0, none⟩ = some (.int .i64 n) ∧ w'.cell? ⟨w.heap.size, 1, none⟩ = some (.slice (some ⟨b, off, none⟩) tl tc) ∧ w'.cell? ⟨b, off + k * 3, none⟩ = some (.slice eo el ec) ∧ w'.cell? ⟨b, off + k * 3 + 1, none⟩ = some (.bool n1) ∧ w'.cell? ⟨b, off + k * 3 + 2, none⟩ = some (.slice ao la ca)) := fun w' h => by
        have hc := KC.out w' (bnext HS.out h)
        exact ⟨hc.1, hc.2, (h.cell (p := ⟨b, off + k * 3, none⟩) hb).trans a0, (h.cell (p := ⟨b, off + k * 3 + 1, none⟩) hb).trans a1, (h.cell (p := ⟨b, off + k * 3 + 2, none⟩) hb).trans a2⟩
      clear hn1
      by_cases e0 : k = 0
      · subst e0
        have KU0 : Hid (∀ w', Below wr.heap.size wr w' → w'.cell? ⟨w.heap.size, 0, none⟩ = some (.int .i64 n) ∧ w'.cell? ⟨w.heap.size, 1, none⟩ = some (.slice (some ⟨b, off, none⟩) tl tc) ∧ w'.cell? ⟨b, off, none⟩ = some (.slice eo el ec) ∧ w'.cell? ⟨b, off + 1, none⟩ = some (.bool n1) ∧ w'.cell? ⟨b, off + 2, none⟩ = some (.slice ao la ca)) := fun w' h => by simpa only [Nat.zero_mul, Nat.add_zero] using KU.out w' h
        clear KU a0 a1 a2 he1 hr1 hw1 hl1 hb
        go_wp2
        clear c0 c1
        refine wp_region_noPanic ?_
        refine wp_region_held_drew (S := fun w' => (w'.cell? ⟨w.heap.size, 0, none⟩ = some (.int .i64 n) ∧ w'.cell? ⟨w.heap.size, 1, none⟩ = some (.slice (some ⟨b, off, none⟩) tl tc) ∧ w'.cell? ⟨b, off, none⟩ = some (.slice eo el ec) ∧ w'.cell? ⟨b, off + 1, none⟩ = some (.bool n1) ∧ w'.cell? ⟨b, off + 2, none⟩ = some (.slice ao la ca))) (by kernel_rfl) (by (try dsimp only); exact KU0.out _ (Below.refl _ _).drew) (fun hHeld => ?_)
        refine wpAnyH_take (i := 0) (oi := Oper.mk (some 25) _ _ _ _ _) (v := ?_) rfl (by decide +kernel) (by decide +kernel) (by decide +kernel) (fun _ _ _ h => h) (Or.inl ⟨by rfl, ?_⟩) (by assumption) ?_
        rotate_left
        · (intro w hSw; (try dsimp only at hSw); go_simp <;> (try with_reducible rfl))
        (try simp only [Act.put, List.setIfInBounds_toArray, List.set_cons_zero, List.set_cons_succ])
        refine wpAnyH_take (i := 1) (oi := Oper.mk (some 26) _ _ _ _ _) (v := ?_) rfl (by decide +kernel) (by decide +kernel) (by decide +kernel) (fun _ _ _ h => h) (Or.inl ⟨by rfl, ?_⟩) (by assumption) ?_
        rotate_left
        · (intro w hSw; (try dsimp only at hSw); go_simp <;> (try with_reducible rfl))
        (try simp only [Act.put, List.setIfInBounds_toArray, List.set_cons_zero, List.set_cons_succ])
        refine wpAnyH_take (i := 2) (oi := Oper.mk (some 27) _ _ _ _ _) (v := ?_) rfl (by decide +kernel) (by decide +kernel) (by decide +kernel) (fun _ _ _ h => h) (Or.inl ⟨by rfl, ?_⟩) (by assumption) ?_
        rotate_left
        · (intro w hSw; (try dsimp only at hSw); go_simp <;> (try with_reducible rfl))
        (try simp only [Act.put, List.setIfInBounds_toArray, List.set_cons_zero, List.set_cons_succ])
        refine wpAnyH_take (i := 3) (oi := Oper.mk (some 28) _ _ _ _ _) (v := ?_) rfl (by decide +kernel) (by decide +kernel) (by decide +kernel) (fun _ _ _ h => h) (Or.inl ⟨by rfl, ?_⟩) (by assumption) ?_
        rotate_left
        · (intro w hSw; (try dsimp only at hSw); go_simp <;> (try with_reducible rfl))
        (try simp only [Act.put, List.setIfInBounds_toArray, List.set_cons_zero, List.set_cons_succ])
        refine wpAnyH_take (i := 4) (oi := Oper.mk (some 29) _ _ _ _ _) (v := ?_) rfl (by decide +kernel) (by decide +kernel) (by decide +kernel) (fun _ _ _ h => h) (Or.inl ⟨by rfl, ?_⟩) (by assumption) ?_
        rotate_left
        · (intro w hSw; (try dsimp only at hSw); go_simp <;> (try with_reducible rfl))
        (try simp only [Act.put, List.setIfInBounds_toArray, List.set_cons_zero, List.set_cons_succ])
        refine wpAnyH_take (i := 5) (oi := Oper.mk (some 30) _ _ _ _ _) (v := ?_) rfl (by decide +kernel) (by decide +kernel) (by decide +kernel) (fun _ _ _ h => h) (Or.inl ⟨by rfl, ?_⟩) (by assumption) ?_
        rotate_left
        · (intro w hSw; (try dsimp only at hSw); go_simp <;> (try with_reducible rfl))
        (try simp only [Act.put, List.setIfInBounds_toArray, List.set_cons_zero, List.set_cons_succ])
        refine wpAnyH_take (i := 6) (oi := Oper.mk (some 31) _ _ _ _ _) (v := ?_) rfl (by decide +kernel) (by decide +kernel) (by decide +kernel) (fun _ _ _ h => h) (Or.inl ⟨by rfl, ?_⟩) (by assumption) ?_
        rotate_left
        · (intro w hSw; (try dsimp only at hSw); go_simp <;> (try with_reducible rfl))
        (try simp only [Act.put, List.setIfInBounds_toArray, List.set_cons_zero, List.set_cons_succ])
        refine wpAnyH_ready (rs := [7]) (by decide +kernel) (by simp) ?_
        refine AllReadyH.cons (o := Oper.mk (some 32) _ _ _ _ _) rfl (fun K hK => ?_) AllReadyH.nil
        go_simp
        (go_at_call 21; refine (HT.out _ (Below.refl _ _).drew).mono ?_; rintro e w4 ⟨bb, rfl, hbb, hb4'⟩; have HBB : Hid (bb = true → GoodT n T[0]) := hbb; have HB1 : Hid (Below wr.heap.size wr w4) := bnext (Below.refl _ _).drew hb4'; clear hb4' hbb)
        (try go_wp2_with fail)
        clear hHeld
        refine hK.out _ _ (by (try dsimp only); exact KU0.out _ HB1.out) (fun hHeld => ?_)
        clear hK K
        (try simp only [Act.put, List.setIfInBounds_toArray, List.set_cons_zero, List.set_cons_succ])
        cases bb
        · clear HBB
          refine wpAnyH_take (i := 8) (oi := Oper.mk (some 33) _ _ _ _ _) (v := ?_) rfl (by decide +kernel) (by decide +kernel) (by decide +kernel) (fun _ _ _ h => h) (Or.inl ⟨by rfl, ?_⟩) (by assumption) ?_
          rotate_left
          · (intro w hSw; (try dsimp only at hSw); go_simp <;> (try with_reducible rfl))
          (try simp only [Act.put, List.setIfInBounds_toArray, List.set_cons_zero, List.set_cons_succ])
          refine wpAnyH_take (i := 9) (oi := Oper.mk (some 34) _ _ _ _ _) (v := ?_) rfl (by decide +kernel) (by decide +kernel) (by decide +kernel) (fun _ _ _ h => h) (Or.inl ⟨by rfl, ?_⟩) (by assumption) ?_
          rotate_left
          · (intro w hSw; (try dsimp only at hSw); go_simp <;> (try with_reducible rfl))
          (try simp only [Act.put, List.setIfInBounds_toArray, List.set_cons_zero, List.set_cons_succ])
          refine wpAnyH_take (i := 10) (oi := Oper.mk (some 35) _ _ _ _ _) (v := undef) rfl (by decide +kernel) (by decide +kernel) (by decide +kernel) (fun _ _ _ h => h) (Or.inr ⟨by rfl, rfl⟩) (by assumption) ?_
          (try simp only [Act.put, List.setIfInBounds_toArray, List.set_cons_zero, List.set_cons_succ])
          refine wpAnyH_take (i := 11) (oi := Oper.mk (some 36) _ _ _ _ _) (v := undef) rfl (by decide +kernel) (by decide +kernel) (by decide +kernel) (fun _ _ _ h => h) (Or.inr ⟨by rfl, rfl⟩) (by assumption) ?_
          (try simp only [Act.put, List.setIfInBounds_toArray, List.set_cons_zero, List.set_cons_succ])
          refine wpAnyH_take (i := 12) (oi := Oper.mk (some 37) _ _ _ _ _) (v := undef) rfl (by decide +kernel) (by decide +kernel) (by decide +kernel) (fun _ _ _ h => h) (Or.inr ⟨by rfl, rfl⟩) (by assumption) ?_
          (try simp only [Act.put, List.setIfInBounds_toArray, List.set_cons_zero, List.set_cons_succ])
          refine wpAnyH_take (i := 13) (oi := Oper.mk (some 38) _ _ _ _ _) (v := undef) rfl (by decide +kernel) (by decide +kernel) (by decide +kernel) (fun _ _ _ h => h) (Or.inr ⟨by rfl, rfl⟩) (by assumption) ?_
          (try simp only [Act.put, List.setIfInBounds_toArray, List.set_cons_zero, List.set_cons_succ])
          refine wpAnyH_take (i := 14) (oi := Oper.mk (some 39) _ _ _ _ _) (v := undef) rfl (by decide +kernel) (by decide +kernel) (by decide +kernel) (fun _ _ _ h => h) (Or.inr ⟨by rfl, rfl⟩) (by assumption) ?_
          (try simp only [Act.put, List.setIfInBounds_toArray, List.set_cons_zero, List.set_cons_succ])
          refine wpAnyH_take (i := 15) (oi := Oper.mk (some 40) _ _ _ _ _) (v := undef) rfl (by decide +kernel) (by decide +kernel) (by decide +kernel) (fun _ _ _ h => h) (Or.inr ⟨by rfl, rfl⟩) (by assumption) ?_
          (try simp only [Act.put, List.setIfInBounds_toArray, List.set_cons_zero, List.set_cons_succ])
          refine wpAnyH_take (i := 16) (oi := Oper.mk (some 41) _ _ _ _ _) (v := undef) rfl (by decide +kernel) (by decide +kernel) (by decide +kernel) (fun _ _ _ h => h) (Or.inr ⟨by rfl, rfl⟩) (by assumption) ?_
          (try simp only [Act.put, List.setIfInBounds_toArray, List.set_cons_zero, List.set_cons_succ])
          refine wpAnyH_take (i := 17) (oi := Oper.mk (some 42) _ _ _ _ _) (v := undef) rfl (by decide +kernel) (by decide +kernel) (by decide +kernel) (fun _ _ _ h => h) (Or.inr ⟨by rfl, rfl⟩) (by assumption) ?_
          (try simp only [Act.put, List.setIfInBounds_toArray, List.set_cons_zero, List.set_cons_succ])
          refine wpAnyH_take (i := 18) (oi := Oper.mk (some 43) _ _ _ _ _) (v := undef) rfl (by decide +kernel) (by decide +kernel) (by decide +kernel) (fun _ _ _ h => h) (Or.inr ⟨by rfl, rfl⟩) (by assumption) ?_
          (try simp only [Act.put, List.setIfInBounds_toArray, List.set_cons_zero, List.set_cons_succ])
          refine wpAnyH_take (i := 19) (oi := Oper.mk (some 44) _ _ _ _ _) (v := undef) rfl (by decide +kernel) (by decide +kernel) (by decide +kernel) (fun _ _ _ h => h) (Or.inr ⟨by rfl, rfl⟩) (by assumption) ?_
          (try simp only [Act.put, List.setIfInBounds_toArray, List.set_cons_zero, List.set_cons_succ])
          refine wpAnyH_take (i := 20) (oi := Oper.mk (some 45) _ _ _ _ _) (v := undef) rfl (by decide +kernel) (by decide +kernel) (by decide +kernel) (fun _ _ _ h => h) (Or.inr ⟨by rfl, rfl⟩) (by assumption) ?_
          (try simp only [Act.put, List.setIfInBounds_toArray, List.set_cons_zero, List.set_cons_succ])
          refine wpAnyH_take (i := 21) (oi := Oper.mk (some 46) _ _ _ _ _) (v := undef) rfl (by decide +kernel) (by decide +kernel) (by decide +kernel) (fun _ _ _ h => h) (Or.inr ⟨by rfl, rfl⟩) (by assumption) ?_
          (try simp only [Act.put, List.setIfInBounds_toArray, List.set_cons_zero, List.set_cons_succ])
          refine wpAnyH_take (i := 22) (oi := Oper.mk (some 47) _ _ _ _ _) (v := undef) rfl (by decide +kernel) (by decide +kernel) (by decide +kernel) (fun _ _ _ h => h) (Or.inr ⟨by rfl, rfl⟩) (by assumption) ?_
          (try simp only [Act.put, List.setIfInBounds_toArray, List.set_cons_zero, List.set_cons_succ])
          refine wpAnyH_take (i := 23) (oi := Oper.mk (some 48) _ _ _ _ _) (v := undef) rfl (by decide +kernel) (by decide +kernel) (by decide +kernel) (fun _ _ _ h => h) (Or.inr ⟨by rfl, rfl⟩) (by assumption) ?_
          (try simp only [Act.put, List.setIfInBounds_toArray, List.set_cons_zero, List.set_cons_succ])
          refine wpAnyH_take (i := 24) (oi := Oper.mk (some 49) _ _ _ _ _) (v := undef) rfl (by decide +kernel) (by decide +kernel) (by decide +kernel) (fun _ _ _ h => h) (Or.inr ⟨by rfl, rfl⟩) (by assumption) ?_
          (try simp only [Act.put, List.setIfInBounds_toArray, List.set_cons_zero, List.set_cons_succ])
          refine wpAnyH_take (i := 25) (oi := Oper.mk (some 50) _ _ _ _ _) (v := undef) rfl (by decide +kernel) (by decide +kernel) (by decide +kernel) (fun _ _ _ h => h) (Or.inr ⟨by rfl, rfl⟩) (by assumption) ?_
          (try simp only [Act.put, List.setIfInBounds_toArray, List.set_cons_zero, List.set_cons_succ])
          refine wpAnyH_take (i := 26) (oi := Oper.mk (some 51) _ _ _ _ _) (v := undef) rfl (by decide +kernel) (by decide +kernel) (by decide +kernel) (fun _ _ _ h => h) (Or.inr ⟨by rfl, rfl⟩) (by assumption) ?_
          (try simp only [Act.put, List.setIfInBounds_toArray, List.set_cons_zero, List.set_cons_succ])
          refine wpAnyH_take (i := 27) (oi := Oper.mk (some 52) _ _ _ _ _) (v := undef) rfl (by decide +kernel) (by decide +kernel) (by decide +kernel) (fun _ _ _ h => h) (Or.inr ⟨by rfl, rfl⟩) (by assumption) ?_
          (try simp only [Act.put, List.setIfInBounds_toArray, List.set_cons_zero, List.set_cons_succ])
          refine wpAnyH_take (i := 28) (oi := Oper.mk (some 53) _ _ _ _ _) (v := undef) rfl (by decide +kernel) (by decide +kernel) (by decide +kernel) (fun _ _ _ h => h) (Or.inr ⟨by rfl, rfl⟩) (by assumption) ?_
          (try simp only [Act.put, List.setIfInBounds_toArray, List.set_cons_zero, List.set_cons_succ])
          refine wpAnyH_take (i := 29) (oi := Oper.mk (some 54) _ _ _ _ _) (v := ?_) rfl (by decide +kernel) (by decide +kernel) (by decide +kernel) (fun _ _ _ h => h) (Or.inl ⟨by rfl, ?_⟩) (by assumption) ?_
          rotate_left
          · (intro w hSw; (try dsimp only at hSw); go_simp <;> (try with_reducible rfl))
          (try simp only [Act.put, List.setIfInBounds_toArray, List.set_cons_zero, List.set_cons_succ])
          refine wpAnyH_done (by decide +kernel) ?_ _
          refine NoPanic.normal ?_
          go_wp2
          go_ret
          exact Tells.no (bnext HW.out (bnext HS.out HB1.out))
        · have HG1 : Hid (GoodT n T[0]) := HBB.out rfl
          clear HBB
          refine wpAnyH_take (i := 8) (oi := Oper.mk (some 33) _ _ _ _ _) (v := ?_) rfl (by decide +kernel) (by decide +kernel) (by decide +kernel) (fun _ _ _ h => h) (Or.inl ⟨by rfl, ?_⟩) (by assumption) ?_
          rotate_left
          · (intro w hSw; (try dsimp only at hSw); go_simp <;> (try with_reducible rfl))
          (try simp only [Act.put, List.setIfInBounds_toArray, List.set_cons_zero, List.set_cons_succ])
          refine wpAnyH_take (i := 9) (oi := Oper.mk (some 34) _ _ _ _ _) (v := ?_) rfl (by decide +kernel) (by decide +kernel) (by decide +kernel) (fun _ _ _ h => h) (Or.inl ⟨by rfl, ?_⟩) (by assumption) ?_
          rotate_left
          · (intro w hSw; (try dsimp only at hSw); go_simp <;> (try with_reducible rfl))
          (try simp only [Act.put, List.setIfInBounds_toArray, List.set_cons_zero, List.set_cons_succ])
          refine wpAnyH_take (i := 10) (oi := Oper.mk (some 35) _ _ _ _ _) (v := ?_) rfl (by decide +kernel) (by decide +kernel) (by decide +kernel) (fun _ _ _ h => h) (Or.inl ⟨by rfl, ?_⟩) (by assumption) ?_
          rotate_left
          · (intro w hSw; (try dsimp only at hSw); go_simp <;> (try with_reducible rfl))
          (try simp only [Act.put, List.setIfInBounds_toArray, List.set_cons_zero, List.set_cons_succ])
          refine wpAnyH_take (i := 11) (oi := Oper.mk (some 36) _ _ _ _ _) (v := ?_) rfl (by decide +kernel) (by decide +kernel) (by decide +kernel) (fun _ _ _ h => h) (Or.inl ⟨by rfl, ?_⟩) (by assumption) ?_
          rotate_left
          · (intro w hSw; (try dsimp only at hSw); go_simp <;> (try with_reducible rfl))
          (try simp only [Act.put, List.setIfInBounds_toArray, List.set_cons_zero, List.set_cons_succ])
          refine wpAnyH_take (i := 12) (oi := Oper.mk (some 37) _ _ _ _ _) (v := ?_) rfl (by decide +kernel) (by decide +kernel) (by decide +kernel) (fun _ _ _ h => h) (Or.inl ⟨by rfl, ?_⟩) (by assumption) ?_
          rotate_left
          · (intro w hSw; (try dsimp only at hSw); go_simp <;> (try with_reducible rfl))
          (try simp only [Act.put, List.setIfInBounds_toArray, List.set_cons_zero, List.set_cons_succ])
          refine wpAnyH_take (i := 13) (oi := Oper.mk (some 38) _ _ _ _ _) (v := undef) rfl (by decide +kernel) (by decide +kernel) (by decide +kernel) (fun _ _ _ h => h) (Or.inr ⟨by rfl, rfl⟩) (by assumption) ?_
          (try simp only [Act.put, List.setIfInBounds_toArray, List.set_cons_zero, List.set_cons_succ])
          refine wpAnyH_take (i := 14) (oi := Oper.mk (some 39) _ _ _ _ _) (v := undef) rfl (by decide +kernel) (by decide +kernel) (by decide +kernel) (fun _ _ _ h => h) (Or.inr ⟨by rfl, rfl⟩) (by assumption) ?_
          (try simp only [Act.put, List.setIfInBounds_toArray, List.set_cons_zero, List.set_cons_succ])
          refine wpAnyH_take (i := 15) (oi := Oper.mk (some 40) _ _ _ _ _) (v := undef) rfl (by decide +kernel) (by decide +kernel) (by decide +kernel) (fun _ _ _ h => h) (Or.inr ⟨by rfl, rfl⟩) (by assumption) ?_
          (try simp only [Act.put, List.setIfInBounds_toArray, List.set_cons_zero, List.set_cons_succ])
          refine wpAnyH_take (i := 16) (oi := Oper.mk (some 41) _ _ _ _ _) (v := undef) rfl (by decide +kernel) (by decide +kernel) (by decide +kernel) (fun _ _ _ h => h) (Or.inr ⟨by rfl, rfl⟩) (by assumption) ?_
          (try simp only [Act.put, List.setIfInBounds_toArray, List.set_cons_zero, List.set_cons_succ])
          refine wpAnyH_take (i := 17) (oi := Oper.mk (some 42) _ _ _ _ _) (v := undef) rfl (by decide +kernel) (by decide +kernel) (by decide +kernel) (fun _ _ _ h => h) (Or.inr ⟨by rfl, rfl⟩) (by assumption) ?_
          (try simp only [Act.put, List.setIfInBounds_toArray, List.set_cons_zero, List.set_cons_succ])
          refine wpAnyH_take (i := 18) (oi := Oper.mk (some 43) _ _ _ _ _) (v := undef) rfl (by decide +kernel) (by decide +kernel) (by decide +kernel) (fun _ _ _ h => h) (Or.inr ⟨by rfl, rfl⟩) (by assumption) ?_
          (try simp only [Act.put, List.setIfInBounds_toArray, List.set_cons_zero, List.set_cons_succ])
          refine wpAnyH_take (i := 19) (oi := Oper.mk (some 44) _ _ _ _ _) (v := undef) rfl (by decide +kernel) (by decide +kernel) (by decide +kernel) (fun _ _ _ h => h) (Or.inr ⟨by rfl, rfl⟩) (by assumption) ?_
          (try simp only [Act.put, List.setIfInBounds_toArray, List.set_cons_zero, List.set_cons_succ])
          refine wpAnyH_take (i := 20) (oi := Oper.mk (some 45) _ _ _ _ _) (v := undef) rfl (by decide +kernel) (by decide +kernel) (by decide +kernel) (fun _ _ _ h => h) (Or.inr ⟨by rfl, rfl⟩) (by assumption) ?_
          (try simp only [Act.put, List.setIfInBounds_toArray, List.set_cons_zero, List.set_cons_succ])
          refine wpAnyH_take (i := 21) (oi := Oper.mk (some 46) _ _ _ _ _) (v := undef) rfl (by decide +kernel) (by decide +kernel) (by decide +kernel) (fun _ _ _ h => h) (Or.inr ⟨by rfl, rfl⟩) (by assumption) ?_
          (try simp only [Act.put, List.setIfInBounds_toArray, List.set_cons_zero, List.set_cons_succ])
          refine wpAnyH_take (i := 22) (oi := Oper.mk (some 47) _ _ _ _ _) (v := undef) rfl (by decide +kernel) (by decide +kernel) (by decide +kernel) (fun _ _ _ h => h) (Or.inr ⟨by rfl, rfl⟩) (by assumption) ?_
          (try simp only [Act.put, List.setIfInBounds_toArray, List.set_cons_zero, List.set_cons_succ])
          refine wpAnyH_take (i := 23) (oi := Oper.mk (some 48) _ _ _ _ _) (v := undef) rfl (by decide +kernel) (by decide +kernel) (by decide +kernel) (fun _ _ _ h => h) (Or.inr ⟨by rfl, rfl⟩) (by assumption) ?_
          (try simp only [Act.put, List.setIfInBounds_toArray, List.set_cons_zero, List.set_cons_succ])
          refine wpAnyH_take (i := 24) (oi := Oper.mk (some 49) _ _ _ _ _) (v := undef) rfl (by decide +kernel) (by decide +kernel) (by decide +kernel) (fun _ _ _ h => h) (Or.inr ⟨by rfl, rfl⟩) (by assumption) ?_
          (try simp only [Act.put, List.setIfInBounds_toArray, List.set_cons_zero, List.set_cons_succ])
          refine wpAnyH_take (i := 25) (oi := Oper.mk (some 50) _ _ _ _ _) (v := undef) rfl (by decide +kernel) (by decide +kernel) (by decide +kernel) (fun _ _ _ h => h) (Or.inr ⟨by rfl, rfl⟩) (by assumption) ?_
          (try simp only [Act.put, List.setIfInBounds_toArray, List.set_cons_zero, List.set_cons_succ])
          refine wpAnyH_take (i := 26) (oi := Oper.mk (some 51) _ _ _ _ _) (v := undef) rfl (by decide +kernel) (by decide +kernel) (by decide +kernel) (fun _ _ _ h => h) (Or.inr ⟨by rfl, rfl⟩) (by assumption) ?_
          (try simp only [Act.put, List.setIfInBounds_toArray, List.set_cons_zero, List.set_cons_succ])
          refine wpAnyH_take (i := 27) (oi := Oper.mk (some 52) _ _ _ _ _) (v := undef) rfl (by decide +kernel) (by decide +kernel) (by decide +kernel) (fun _ _ _ h => h) (Or.inr ⟨by rfl, rfl⟩) (by assumption) ?_
          (try simp only [Act.put, List.setIfInBounds_toArray, List.set_cons_zero, List.set_cons_succ])
          refine wpAnyH_take (i := 28) (oi := Oper.mk (some 53) _ _ _ _ _) (v := ?_) rfl (by decide +kernel) (by decide +kernel) (by decide +kernel) (fun _ _ _ h => h) (Or.inl ⟨by rfl, ?_⟩) (by assumption) ?_
          rotate_left
          · (intro w hSw; (try dsimp only at hSw); go_simp <;> (try with_reducible rfl))
          (try simp only [Act.put, List.setIfInBounds_toArray, List.set_cons_zero, List.set_cons_succ])
          refine wpAnyH_take (i := 29) (oi := Oper.mk (some 54) _ _ _ _ _) (v := ?_) rfl (by decide +kernel) (by decide +kernel) (by decide +kernel) (fun _ _ _ h => h) (Or.inl ⟨by rfl, ?_⟩) (by assumption) ?_
          rotate_left
          · (intro w hSw; (try dsimp only at hSw); go_simp <;> (try with_reducible rfl))
          (try simp only [Act.put, List.setIfInBounds_toArray, List.set_cons_zero, List.set_cons_succ])
          refine wpAnyH_done (by decide +kernel) ?_ _
          refine NoPanic.normal ?_
          go_wp2
          go_roundw
          case rel => exact ⟨1, by omega, by go_num, bnext HS.out HB1.out, fun t _ ht => (by obtain rfl : t = 0 := (by omega); exact HG1.out), fun t _ ht => (by omega)⟩
          case measure => simp [intOf]; omega
      · obtain ⟨j, hj⟩ : ∃ j, k = j + 1 := ⟨k - 1, by omega⟩
        have HJ : Hid (k = j + 1) := hj
        have hjp : j < T.length := by omega
        obtain ⟨b9, off9, eo9, el9, ec9, n9, ao9, la9, ca9, hbb, hb9, ⟨g0, g1, g2⟩, hn9, he9, hr9, hw9, hl9⟩ := (HP.out.later (bnext HW.out HS.out)).get hjp
        simp only [Option.some.injEq, Addr.mk.injEq, and_true] at hbb
        obtain ⟨rfl, rfl⟩ := hbb
        obtain ⟨c, hc⟩ : ∃ c, ordE T[j].1 T[k].1 = c := ⟨_, rfl⟩
        have HC0 : Hid (ordE T[j].1 T[k].1 = c) := hc
        have z5 : 0 < (k : Int) := by omega
        have z6 : (j : Int) < (tl : Int) := by omega
        have z7 : (0 : Int) ≤ (j : Int) := by omega
        have z8 : (k : Int) - 1 = (j : Int) := by omega
        have z10 : decide (0 < (k : Int)) = true := by simpa using z5
        have z11 : decide (0 < k) = true := by simp; omega
        have z12 : IntKind.i64.wrap (j : Int) = (j : Int) := by rw [IntKind.wrap_i64]; omega
        have HCE : Hid (∀ W', Below wr.heap.size wr W' → GoodT n T[k] → Calls Tryz.prog 22 #[.slice eo9 el9 ec9, .slice eo el ec] W' fun e w' => e = .returned (.int .i64 c) ∧ Below W'.heap.size W' w') := fun W' hb hgk =>
          (rorder_any eo9 eo el9 ec9 el ec _ _ c W' (he9.later hb) (he1.later hb) (by have h1 := (HG.out.1 j hjp (by omega)).len; have h2 := hgk.len; have h3 := he9.row.hlen; have h4 := he1.row.hlen; omega) hc).mono fun e w' h => ⟨h.1, by obtain ⟨q, hq⟩ := h.2; rw [hq]; exact below_drewN (Below.refl _ _) _⟩
        have KU9 : Hid (∀ w', Below wr.heap.size wr w' → w'.cell? ⟨w.heap.size, 0, none⟩ = some (.int .i64 n) ∧ w'.cell? ⟨w.heap.size, 1, none⟩ = some (.slice (some ⟨b, off, none⟩) tl tc) ∧ w'.cell? ⟨b, off + k * 3, none⟩ = some (.slice eo el ec) ∧ w'.cell? ⟨b, off + k * 3 + 1, none⟩ = some (.bool n1) ∧ w'.cell? ⟨b, off + k * 3 + 2, none⟩ = some (.slice ao la ca) ∧ w'.cell? ⟨b, off + j * 3, none⟩ = some (.slice eo9 el9 ec9)) := fun w' h => by
          obtain ⟨k0, k1, k2, k3, k4⟩ := KU.out w' h
          exact ⟨k0, k1, k2, k3, k4, (h.cell (p := ⟨b, off + j * 3, none⟩) hb9).trans g0⟩
        clear KU he1 hr1 hw1 hl1 a0 a1 a2 hb hj hb9 g0 g1 g2 hn9 he9 hr9 hw9 hl9 hc e0
        go_wp2
        clear c0 c1
        refine wp_region_noPanic ?_
        refine wp_region_held_drew (S := fun w' => (w'.cell? ⟨w.heap.size, 0, none⟩ = some (.int .i64 n) ∧ w'.cell? ⟨w.heap.size, 1, none⟩ = some (.slice (some ⟨b, off, none⟩) tl tc) ∧ w'.cell? ⟨b, off + k * 3, none⟩ = some (.slice eo el ec) ∧ w'.cell? ⟨b, off + k * 3 + 1, none⟩ = some (.bool n1) ∧ w'.cell? ⟨b, off + k * 3 + 2, none⟩ = some (.slice ao la ca) ∧ w'.cell? ⟨b, off + j * 3, none⟩ = some (.slice eo9 el9 ec9))) (by kernel_rfl) (by (try dsimp only); exact KU9.out _ (Below.refl _ _).drew) (fun hHeld => ?_)
        refine wpAnyH_take (i := 0) (oi := Oper.mk (some 25) _ _ _ _ _) (v := ?_) rfl (by decide +kernel) (by decide +kernel) (by decide +kernel) (fun _ _ _ h => h) (Or.inl ⟨by rfl, ?_⟩) (by assumption) ?_
        rotate_left
        · (intro w hSw; (try dsimp only at hSw); go_simp <;> (try with_reducible rfl))
        (try simp only [Act.put, List.setIfInBounds_toArray, List.set_cons_zero, List.set_cons_succ])
        refine wpAnyH_take (i := 1) (oi := Oper.mk (some 26) _ _ _ _ _) (v := ?_) rfl (by decide +kernel) (by decide +kernel) (by decide +kernel) (fun _ _ _ h => h) (Or.inl ⟨by rfl, ?_⟩) (by assumption) ?_
        rotate_left
        · (intro w hSw; (try dsimp only at hSw); go_simp <;> (try with_reducible rfl))
        (try simp only [Act.put, List.setIfInBounds_toArray, List.set_cons_zero, List.set_cons_succ])
        refine wpAnyH_take (i := 2) (oi := Oper.mk (some 27) _ _ _ _ _) (v := ?_) rfl (by decide +kernel) (by decide +kernel) (by decide +kernel) (fun _ _ _ h => h) (Or.inl ⟨by rfl, ?_⟩) (by assumption) ?_
        rotate_left
        · (intro w hSw; (try dsimp only at hSw); go_simp <;> (try with_reducible rfl))
        (try simp only [Act.put, List.setIfInBounds_toArray, List.set_cons_zero, List.set_cons_succ])
        refine wpAnyH_take (i := 3) (oi := Oper.mk (some 28) _ _ _ _ _) (v := ?_) rfl (by decide +kernel) (by decide +kernel) (by decide +kernel) (fun _ _ _ h => h) (Or.inl ⟨by rfl, ?_⟩) (by assumption) ?_
        rotate_left
        · (intro w hSw; (try dsimp only at hSw); go_simp <;> (try with_reducible rfl))
        (try simp only [Act.put, List.setIfInBounds_toArray, List.set_cons_zero, List.set_cons_succ])
        refine wpAnyH_take (i := 4) (oi := Oper.mk (some 29) _ _ _ _ _) (v := ?_) rfl (by decide +kernel) (by decide +kernel) (by decide +kernel) (fun _ _ _ h => h) (Or.inl ⟨by rfl, ?_⟩) (by assumption) ?_
        rotate_left
        · (intro w hSw; (try dsimp only at hSw); go_simp <;> (try with_reducible rfl))
        (try simp only [Act.put, List.setIfInBounds_toArray, List.set_cons_zero, List.set_cons_succ])
        refine wpAnyH_take (i := 5) (oi := Oper.mk (some 30) _ _ _ _ _) (v := ?_) rfl (by decide +kernel) (by decide +kernel) (by decide +kernel) (fun _ _ _ h => h) (Or.inl ⟨by rfl, ?_⟩) (by assumption) ?_
        rotate_left
        · (intro w hSw; (try dsimp only at hSw); go_simp <;> (try with_reducible rfl))
        (try simp only [Act.put, List.setIfInBounds_toArray, List.set_cons_zero, List.set_cons_succ])
        refine wpAnyH_take (i := 6) (oi := Oper.mk (some 31) _ _ _ _ _) (v := ?_) rfl (by decide +kernel) (by decide +kernel) (by decide +kernel) (fun _ _ _ h => h) (Or.inl ⟨by rfl, ?_⟩) (by assumption) ?_
        rotate_left
        · (intro w hSw; (try dsimp only at hSw); go_simp <;> (try with_reducible rfl))
        (try simp only [Act.put, List.setIfInBounds_toArray, List.set_cons_zero, List.set_cons_succ])
        refine wpAnyH_ready (rs := [7]) (by decide +kernel) (by simp) ?_
        refine AllReadyH.cons (o := Oper.mk (some 32) _ _ _ _ _) rfl (fun K hK => ?_) AllReadyH.nil
        go_simp
        (go_at_call 21; refine (HT.out _ (Below.refl _ _).drew).mono ?_; rintro e w4 ⟨bb, rfl, hbb, hb4'⟩; have HBB : Hid (bb = true → GoodT n T[k]) := hbb; have HB1 : Hid (Below wr.heap.size wr w4) := bnext (Below.refl _ _).drew hb4'; clear hb4' hbb)
        (try go_wp2_with fail)
        clear hHeld
        refine hK.out _ _ (by (try dsimp only); exact KU9.out _ HB1.out) (fun hHeld => ?_)
        clear hK K
        (try simp only [Act.put, List.setIfInBounds_toArray, List.set_cons_zero, List.set_cons_succ])
        cases bb
        · clear HBB
          refine wpAnyH_take (i := 8) (oi := Oper.mk (some 33) _ _ _ _ _) (v := ?_) rfl (by decide +kernel) (by decide +kernel) (by decide +kernel) (fun _ _ _ h => h) (Or.inl ⟨by rfl, ?_⟩) (by assumption) ?_
          rotate_left
          · (intro w hSw; (try dsimp only at hSw); go_simp <;> (try with_reducible rfl))
          (try simp only [Act.put, List.setIfInBounds_toArray, List.set_cons_zero, List.set_cons_succ])
          refine wpAnyH_take (i := 9) (oi := Oper.mk (some 34) _ _ _ _ _) (v := ?_) rfl (by decide +kernel) (by decide +kernel) (by decide +kernel) (fun _ _ _ h => h) (Or.inl ⟨by rfl, ?_⟩) (by assumption) ?_
          rotate_left
          · (intro w hSw; (try dsimp only at hSw); go_simp <;> (try with_reducible rfl))
          (try simp only [Act.put, List.setIfInBounds_toArray, List.set_cons_zero, List.set_cons_succ])
          refine wpAnyH_take (i := 10) (oi := Oper.mk (some 35) _ _ _ _ _) (v := undef) rfl (by decide +kernel) (by decide +kernel) (by decide +kernel) (fun _ _ _ h => h) (Or.inr ⟨by rfl, rfl⟩) (by assumption) ?_
          (try simp only [Act.put, List.setIfInBounds_toArray, List.set_cons_zero, List.set_cons_succ])
          refine wpAnyH_take (i := 11) (oi := Oper.mk (some 36) _ _ _ _ _) (v := undef) rfl (by decide +kernel) (by decide +kernel) (by decide +kernel) (fun _ _ _ h => h) (Or.inr ⟨by rfl, rfl⟩) (by assumption) ?_
          (try simp only [Act.put, List.setIfInBounds_toArray, List.set_cons_zero, List.set_cons_succ])
          refine wpAnyH_take (i := 12) (oi := Oper.mk (some 37) _ _ _ _ _) (v := undef) rfl (by decide +kernel) (by decide +kernel) (by decide +kernel) (fun _ _ _ h => h) (Or.inr ⟨by rfl, rfl⟩) (by assumption) ?_
          (try simp only [Act.put, List.setIfInBounds_toArray, List.set_cons_zero, List.set_cons_succ])
          refine wpAnyH_take (i := 13) (oi := Oper.mk (some 38) _ _ _ _ _) (v := undef) rfl (by decide +kernel) (by decide +kernel) (by decide +kernel) (fun _ _ _ h => h) (Or.inr ⟨by rfl, rfl⟩) (by assumption) ?_
          (try simp only [Act.put, List.setIfInBounds_toArray, List.set_cons_zero, List.set_cons_succ])
          refine wpAnyH_take (i := 14) (oi := Oper.mk (some 39) _ _ _ _ _) (v := undef) rfl (by decide +kernel) (by decide +kernel) (by decide +kernel) (fun _ _ _ h => h) (Or.inr ⟨by rfl, rfl⟩) (by assumption) ?_
          (try simp only [Act.put, List.setIfInBounds_toArray, List.set_cons_zero, List.set_cons_succ])
          refine wpAnyH_take (i := 15) (oi := Oper.mk (some 40) _ _ _ _ _) (v := undef) rfl (by decide +kernel) (by decide +kernel) (by decide +kernel) (fun _ _ _ h => h) (Or.inr ⟨by rfl, rfl⟩) (by assumption) ?_
          (try simp only [Act.put, List.setIfInBounds_toArray, List.set_cons_zero, List.set_cons_succ])
          refine wpAnyH_take (i := 16) (oi := Oper.mk (some 41) _ _ _ _ _) (v := undef) rfl (by decide +kernel) (by decide +kernel) (by decide +kernel) (fun _ _ _ h => h) (Or.inr ⟨by rfl, rfl⟩) (by assumption) ?_
          (try simp only [Act.put, List.setIfInBounds_toArray, List.set_cons_zero, List.set_cons_succ])
          refine wpAnyH_take (i := 17) (oi := Oper.mk (some 42) _ _ _ _ _) (v := undef) rfl (by decide +kernel) (by decide +kernel) (by decide +kernel) (fun _ _ _ h => h) (Or.inr ⟨by rfl, rfl⟩) (by assumption) ?_
          (try simp only [Act.put, List.setIfInBounds_toArray, List.set_cons_zero, List.set_cons_succ])
          refine wpAnyH_take (i := 18) (oi := Oper.mk (some 43) _ _ _ _ _) (v := undef) rfl (by decide +kernel) (by decide +kernel) (by decide +kernel) (fun _ _ _ h => h) (Or.inr ⟨by rfl, rfl⟩) (by assumption) ?_
          (try simp only [Act.put, List.setIfInBounds_toArray, List.set_cons_zero, List.set_cons_succ])
          refine wpAnyH_take (i := 19) (oi := Oper.mk (some 44) _ _ _ _ _) (v := undef) rfl (by decide +kernel) (by decide +kernel) (by decide +kernel) (fun _ _ _ h => h) (Or.inr ⟨by rfl, rfl⟩) (by assumption) ?_
          (try simp only [Act.put, List.setIfInBounds_toArray, List.set_cons_zero, List.set_cons_succ])
          refine wpAnyH_take (i := 20) (oi := Oper.mk (some 45) _ _ _ _ _) (v := undef) rfl (by decide +kernel) (by decide +kernel) (by decide +kernel) (fun _ _ _ h => h) (Or.inr ⟨by rfl, rfl⟩) (by assumption) ?_
          (try simp only [Act.put, List.setIfInBounds_toArray, List.set_cons_zero, List.set_cons_succ])
          refine wpAnyH_take (i := 21) (oi := Oper.mk (some 46) _ _ _ _ _) (v := undef) rfl (by decide +kernel) (by decide +kernel) (by decide +kernel) (fun _ _ _ h => h) (Or.inr ⟨by rfl, rfl⟩) (by assumption) ?_
          (try simp only [Act.put, List.setIfInBounds_toArray, List.set_cons_zero, List.set_cons_succ])
          refine wpAnyH_take (i := 22) (oi := Oper.mk (some 47) _ _ _ _ _) (v := undef) rfl (by decide +kernel) (by decide +kernel) (by decide +kernel) (fun _ _ _ h => h) (Or.inr ⟨by rfl, rfl⟩) (by assumption) ?_
          (try simp only [Act.put, List.setIfInBounds_toArray, List.set_cons_zero, List.set_cons_succ])
          refine wpAnyH_take (i := 23) (oi := Oper.mk (some 48) _ _ _ _ _) (v := undef) rfl (by decide +kernel) (by decide +kernel) (by decide +kernel) (fun _ _ _ h => h) (Or.inr ⟨by rfl, rfl⟩) (by assumption) ?_
          (try simp only [Act.put, List.setIfInBounds_toArray, List.set_cons_zero, List.set_cons_succ])
          refine wpAnyH_take (i := 24) (oi := Oper.mk (some 49) _ _ _ _ _) (v := undef) rfl (by decide +kernel) (by decide +kernel) (by decide +kernel) (fun _ _ _ h => h) (Or.inr ⟨by rfl, rfl⟩) (by assumption) ?_
          (try simp only [Act.put, List.setIfInBounds_toArray, List.set_cons_zero, List.set_cons_succ])
          refine wpAnyH_take (i := 25) (oi := Oper.mk (some 50) _ _ _ _ _) (v := undef) rfl (by decide +kernel) (by decide +kernel) (by decide +kernel) (fun _ _ _ h => h) (Or.inr ⟨by rfl, rfl⟩) (by assumption) ?_
          (try simp only [Act.put, List.setIfInBounds_toArray, List.set_cons_zero, List.set_cons_succ])
          refine wpAnyH_take (i := 26) (oi := Oper.mk (some 51) _ _ _ _ _) (v := undef) rfl (by decide +kernel) (by decide +kernel) (by decide +kernel) (fun _ _ _ h => h) (Or.inr ⟨by rfl, rfl⟩) (by assumption) ?_
          (try simp only [Act.put, List.setIfInBounds_toArray, List.set_cons_zero, List.set_cons_succ])
          refine wpAnyH_take (i := 27) (oi := Oper.mk (some 52) _ _ _ _ _) (v := undef) rfl (by decide +kernel) (by decide +kernel) (by decide +kernel) (fun _ _ _ h => h) (Or.inr ⟨by rfl, rfl⟩) (by assumption) ?_
          (try simp only [Act.put, List.setIfInBounds_toArray, List.set_cons_zero, List.set_cons_succ])
          refine wpAnyH_take (i := 28) (oi := Oper.mk (some 53) _ _ _ _ _) (v := undef) rfl (by decide +kernel) (by decide +kernel) (by decide +kernel) (fun _ _ _ h => h) (Or.inr ⟨by rfl, rfl⟩) (by assumption) ?_
          (try simp only [Act.put, List.setIfInBounds_toArray, List.set_cons_zero, List.set_cons_succ])
          refine wpAnyH_take (i := 29) (oi := Oper.mk (some 54) _ _ _ _ _) (v := ?_) rfl (by decide +kernel) (by decide +kernel) (by decide +kernel) (fun _ _ _ h => h) (Or.inl ⟨by rfl, ?_⟩) (by assumption) ?_
          rotate_left
          · (intro w hSw; (try dsimp only at hSw); go_simp <;> (try with_reducible rfl))
          (try simp only [Act.put, List.setIfInBounds_toArray, List.set_cons_zero, List.set_cons_succ])
          refine wpAnyH_done (by decide +kernel) ?_ _
          refine NoPanic.normal ?_
          go_wp2
          go_ret
          exact Tells.no (bnext HW.out (bnext HS.out HB1.out))
        · have HG1 : Hid (GoodT n T[k]) := HBB.out rfl
          clear HBB
          refine wpAnyH_take (i := 8) (oi := Oper.mk (some 33) _ _ _ _ _) (v := ?_) rfl (by decide +kernel) (by decide +kernel) (by decide +kernel) (fun _ _ _ h => h) (Or.inl ⟨by rfl, ?_⟩) (by assumption) ?_
          rotate_left
          · (intro w hSw; (try dsimp only at hSw); go_simp <;> (try with_reducible rfl))
          (try simp only [Act.put, List.setIfInBounds_toArray, List.set_cons_zero, List.set_cons_succ])
          refine wpAnyH_take (i := 9) (oi := Oper.mk (some 34) _ _ _ _ _) (v := ?_) rfl (by decide +kernel) (by decide +kernel) (by decide +kernel) (fun _ _ _ h => h) (Or.inl ⟨by rfl, ?_⟩) (by assumption) ?_
          rotate_left
          · (intro w hSw; (try dsimp only at hSw); go_simp <;> (try with_reducible rfl))
          (try simp only [Act.put, List.setIfInBounds_toArray, List.set_cons_zero, List.set_cons_succ])
          refine wpAnyH_take (i := 10) (oi := Oper.mk (some 35) _ _ _ _ _) (v := ?_) rfl (by decide +kernel) (by decide +kernel) (by decide +kernel) (fun _ _ _ h => h) (Or.inl ⟨by rfl, ?_⟩) (by assumption) ?_
          rotate_left
          · (intro w hSw; (try dsimp only at hSw); go_simp <;> (try with_reducible rfl))
          (try simp only [Act.put, List.setIfInBounds_toArray, List.set_cons_zero, List.set_cons_succ])
          refine wpAnyH_take (i := 11) (oi := Oper.mk (some 36) _ _ _ _ _) (v := ?_) rfl (by decide +kernel) (by decide +kernel) (by decide +kernel) (fun _ _ _ h => h) (Or.inl ⟨by rfl, ?_⟩) (by assumption) ?_
          rotate_left
          · (intro w hSw; (try dsimp only at hSw); go_simp <;> (try with_reducible rfl))
          (try simp only [Act.put, List.setIfInBounds_toArray, List.set_cons_zero, List.set_cons_succ])
          refine wpAnyH_take (i := 12) (oi := Oper.mk (some 37) _ _ _ _ _) (v := ?_) rfl (by decide +kernel) (by decide +kernel) (by decide +kernel) (fun _ _ _ h => h) (Or.inl ⟨by rfl, ?_⟩) (by assumption) ?_
          rotate_left
          · (intro w hSw; (try dsimp only at hSw); go_simp <;> (try with_reducible rfl))
          (try simp only [Act.put, List.setIfInBounds_toArray, List.set_cons_zero, List.set_cons_succ])
          refine wpAnyH_take (i := 13) (oi := Oper.mk (some 38) _ _ _ _ _) (v := ?_) rfl (by decide +kernel) (by decide +kernel) (by decide +kernel) (fun _ _ _ h => h) (Or.inl ⟨by rfl, ?_⟩) (by assumption) ?_
          rotate_left
          · (intro w hSw; (try dsimp only at hSw); go_simp <;> (try with_reducible rfl))
          (try simp only [Act.put, List.setIfInBounds_toArray, List.set_cons_zero, List.set_cons_succ])
          refine wpAnyH_take (i := 14) (oi := Oper.mk (some 39) _ _ _ _ _) (v := ?_) rfl (by decide +kernel) (by decide +kernel) (by decide +kernel) (fun _ _ _ h => h) (Or.inl ⟨by rfl, ?_⟩) (by assumption) ?_
          rotate_left
          · (intro w hSw; (try dsimp only at hSw); go_simp <;> (try with_reducible rfl))
          (try simp only [Act.put, List.setIfInBounds_toArray, List.set_cons_zero, List.set_cons_succ])
          refine wpAnyH_take (i := 15) (oi := Oper.mk (some 40) _ _ _ _ _) (v := ?_) rfl (by decide +kernel) (by decide +kernel) (by decide +kernel) (fun _ _ _ h => h) (Or.inl ⟨by rfl, ?_⟩) (by assumption) ?_
          rotate_left
          · (intro w hSw; (try dsimp only at hSw); go_simp <;> (try with_reducible rfl))
          (try simp only [Act.put, List.setIfInBounds_toArray, List.set_cons_zero, List.set_cons_succ])
          refine wpAnyH_take (i := 16) (oi := Oper.mk (some 41) _ _ _ _ _) (v := ?_) rfl (by decide +kernel) (by decide +kernel) (by decide +kernel) (fun _ _ _ h => h) (Or.inl ⟨by rfl, ?_⟩) (by assumption) ?_
          rotate_left
          · (intro w hSw; (try dsimp only at hSw); go_simp <;> (try with_reducible rfl))
          (try simp only [Act.put, List.setIfInBounds_toArray, List.set_cons_zero, List.set_cons_succ])
          refine wpAnyH_take (i := 17) (oi := Oper.mk (some 42) _ _ _ _ _) (v := ?_) rfl (by decide +kernel) (by decide +kernel) (by decide +kernel) (fun _ _ _ h => h) (Or.inl ⟨by rfl, ?_⟩) (by assumption) ?_
          rotate_left
          · (intro w hSw; (try dsimp only at hSw); go_simp <;> (try with_reducible rfl))
          (try simp only [Act.put, List.setIfInBounds_toArray, List.set_cons_zero, List.set_cons_succ])
          refine wpAnyH_take (i := 18) (oi := Oper.mk (some 43) _ _ _ _ _) (v := ?_) rfl (by decide +kernel) (by decide +kernel) (by decide +kernel) (fun _ _ _ h => h) (Or.inl ⟨by rfl, ?_⟩) (by assumption) ?_
          rotate_left
          · (intro w hSw; (try dsimp only at hSw); go_simp <;> (try with_reducible rfl))
          (try simp only [Act.put, List.setIfInBounds_toArray, List.set_cons_zero, List.set_cons_succ])
          refine wpAnyH_take (i := 19) (oi := Oper.mk (some 44) _ _ _ _ _) (v := ?_) rfl (by decide +kernel) (by decide +kernel) (by decide +kernel) (fun _ _ _ h => h) (Or.inl ⟨by rfl, ?_⟩) (by assumption) ?_
          rotate_left
          · (intro w hSw; (try dsimp only at hSw); go_simp <;> (try with_reducible rfl))
          (try simp only [Act.put, List.setIfInBounds_toArray, List.set_cons_zero, List.set_cons_succ])
          refine wpAnyH_take (i := 20) (oi := Oper.mk (some 45) _ _ _ _ _) (v := ?_) rfl (by decide +kernel) (by decide +kernel) (by decide +kernel) (fun _ _ _ h => h) (Or.inl ⟨by rfl, ?_⟩) (by assumption) ?_
          rotate_left
          · (intro w hSw; (try dsimp only at hSw); go_simp <;> (try with_reducible rfl))
          (try simp only [Act.put, List.setIfInBounds_toArray, List.set_cons_zero, List.set_cons_succ])
          refine wpAnyH_take (i := 21) (oi := Oper.mk (some 46) _ _ _ _ _) (v := ?_) rfl (by decide +kernel) (by decide +kernel) (by decide +kernel) (fun _ _ _ h => h) (Or.inl ⟨by rfl, ?_⟩) (by assumption) ?_
          rotate_left
          · (intro w hSw; (try dsimp only at hSw); go_simp <;> (try with_reducible rfl))
          (try simp only [Act.put, List.setIfInBounds_toArray, List.set_cons_zero, List.set_cons_succ])
          refine wpAnyH_take (i := 22) (oi := Oper.mk (some 47) _ _ _ _ _) (v := ?_) rfl (by decide +kernel) (by decide +kernel) (by decide +kernel) (fun _ _ _ h => h) (Or.inl ⟨by rfl, ?_⟩) (by assumption) ?_
          rotate_left
          · (intro w hSw; (try dsimp only at hSw); go_simp <;> (try with_reducible rfl))
          (try simp only [Act.put, List.setIfInBounds_toArray, List.set_cons_zero, List.set_cons_succ])
          refine wpAnyH_take (i := 23) (oi := Oper.mk (some 48) _ _ _ _ _) (v := ?_) rfl (by decide +kernel) (by decide +kernel) (by decide +kernel) (fun _ _ _ h => h) (Or.inl ⟨by rfl, ?_⟩) (by assumption) ?_
          rotate_left
          · (intro w hSw; (try dsimp only at hSw); go_simp <;> (try with_reducible rfl))
          (try simp only [Act.put, List.setIfInBounds_toArray, List.set_cons_zero, List.set_cons_succ])
          refine wpAnyH_take (i := 24) (oi := Oper.mk (some 49) _ _ _ _ _) (v := ?_) rfl (by decide +kernel) (by decide +kernel) (by decide +kernel) (fun _ _ _ h => h) (Or.inl ⟨by rfl, ?_⟩) (by assumption) ?_
          rotate_left
          · (intro w hSw; (try dsimp only at hSw); go_simp <;> (try with_reducible rfl))
          (try simp only [Act.put, List.setIfInBounds_toArray, List.set_cons_zero, List.set_cons_succ])
          refine wpAnyH_take (i := 25) (oi := Oper.mk (some 50) _ _ _ _ _) (v := ?_) rfl (by decide +kernel) (by decide +kernel) (by decide +kernel) (fun _ _ _ h => h) (Or.inl ⟨by rfl, ?_⟩) (by assumption) ?_
          rotate_left
          · (intro w hSw; (try dsimp only at hSw); go_simp <;> (try with_reducible rfl))
          (try simp only [Act.put, List.setIfInBounds_toArray, List.set_cons_zero, List.set_cons_succ])
          refine wpAnyH_ready (rs := [26]) (by decide +kernel) (by simp) ?_
          refine AllReadyH.cons (o := Oper.mk (some 51) _ _ _ _ _) rfl (fun K hK => ?_) AllReadyH.nil
          go_simp
          (go_at_call 22; refine (HCE.out _ HB1.out HG1.out).mono ?_; rintro e w6 ⟨rfl, hb6'⟩; have HB2 : Hid (Below wr.heap.size wr w6) := bnext HB1.out hb6'; clear hb6')
          (try go_wp2_with fail)
          clear hHeld
          refine hK.out _ _ (by (try dsimp only); exact KU9.out _ HB2.out) (fun hHeld => ?_)
          clear hK K
          (try simp only [Act.put, List.setIfInBounds_toArray, List.set_cons_zero, List.set_cons_succ])
          refine wpAnyH_take (i := 27) (oi := Oper.mk (some 52) _ _ _ _ _) (v := ?_) rfl (by decide +kernel) (by decide +kernel) (by decide +kernel) (fun _ _ _ h => h) (Or.inl ⟨by rfl, ?_⟩) (by assumption) ?_
          rotate_left
          · (intro w hSw; (try dsimp only at hSw); go_simp <;> (try with_reducible rfl))
          (try simp only [Act.put, List.setIfInBounds_toArray, List.set_cons_zero, List.set_cons_succ])
          refine wpAnyH_take (i := 28) (oi := Oper.mk (some 53) _ _ _ _ _) (v := ?_) rfl (by decide +kernel) (by decide +kernel) (by decide +kernel) (fun _ _ _ h => h) (Or.inl ⟨by rfl, ?_⟩) (by assumption) ?_
          rotate_left
          · (intro w hSw; (try dsimp only at hSw); go_simp <;> (try with_reducible rfl))
          (try simp only [Act.put, List.setIfInBounds_toArray, List.set_cons_zero, List.set_cons_succ])
          refine wpAnyH_take (i := 29) (oi := Oper.mk (some 54) _ _ _ _ _) (v := ?_) rfl (by decide +kernel) (by decide +kernel) (by decide +kernel) (fun _ _ _ h => h) (Or.inl ⟨by rfl, ?_⟩) (by assumption) ?_
          rotate_left
          · (intro w hSw; (try dsimp only at hSw); go_simp <;> (try with_reducible rfl))
          (try simp only [Act.put, List.setIfInBounds_toArray, List.set_cons_zero, List.set_cons_succ])
          refine wpAnyH_done (by decide +kernel) ?_ _
          refine NoPanic.normal ?_
          by_cases hcc : c ≤ 0
          · go_wp2
            go_ret
            exact Tells.no (bnext HW.out (bnext HS.out HB2.out))
          · go_wp2
            go_roundw
            case rel => exact ⟨k + 1, by omega, by go_num, bnext HS.out HB2.out, fun t ht hlt => (by
              by_cases e : t = k
              · subst e; exact HG1.out
              · exact HG.out.1 t ht (by omega)), fun t ht hlt => (by
              by_cases e : t = j
              · have h1 := HC0.out
                have h2 := HJ.out
                subst e
                subst h2
                rw [h1]; omega
              · exact HG.out.2 t ht (by have := HJ.out; omega))⟩
            case measure => simp [intOf]; omega
    · have z1 : ¬ (k : Int) < (tl : Int) := by omega
      go_wp2
      go_ret
      exact Tells.yes ⟨HV.out, by have := HN.out; omega, fun t ht => HG.out.1 t ht (by have := HN.out; omega), fun t ht => HG.out.2 t ht (by have := HN.out; omega)⟩ (bnext HW.out HS.out)
end Go.Proofs.YtiemgadnnnhmkaaGreat
