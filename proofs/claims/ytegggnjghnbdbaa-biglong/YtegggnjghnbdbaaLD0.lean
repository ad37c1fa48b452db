/-
  KG, KH, LD0.
-/
import Derived.Test.YtegggnjghnbdbaaLB0
import Derived.Test.YtegggnjghnbdbaaKF
import Derived.Test.YtegggnjghnbdbaaEO
import Derived.Test.YtegggnjghnbdbaaES

/- Walks: the page's CopyWords; a longer number (BigLong's own). -/
namespace Go.Proofs.Ytegggnjghnbdbaa
open Go.RowKit
set_option linter.unusedVariables false
set_option linter.unusedSimpArgs false

set_option maxRecDepth 100000 in
set_option maxHeartbeats 1000000 in
theorem copyWords_any (ao : Option Addr) (len cap : Nat) (zs : List Int) (w : World) (hr : RowAt w .u64 ao len cap zs) (hl : len ≤ 4294967296) :
    Calls Try.prog 23 #[.slice ao len cap] w fun e w' => ∃ v, e = .returned v ∧ w'.ownsRow w.heap.size 51 1 v len (zs.map (Value.int .u64)) ∧ Below w.heap.size w w' := by
  obtain ⟨i0, hi, hz0, hz1, hz2⟩ := info_parts info64
  have HL : Hid (len = zs.length) := hr.hlen
  go_enter Try.func23, Try.ntmps23
  go_wp2
  go_loopw [3, 4] (fun v i wr => ∃ k : Nat, k ≤ len ∧ i = .int .i64 (k : Nat) ∧ wr.ownsRow w.heap.size 51 1 v k ((zs.take k).map (Value.int .u64)) ∧ Below w.heap.size w wr) (fun _ i _ => len - (intOf i).toNat)
  case atStart => exact ⟨0, Nat.zero_le _, rfl, World.ownsRow_nil _ _ _ _, Below.refl _ _⟩
  case round =>
    obtain ⟨k, hk, rfl, hown, hbel⟩ := hrel
    by_cases hlt : k < len
    · obtain ⟨b, off, rfl, hb, hc⟩ := hr.get (by omega)
      have hcell : wr.cell? ⟨b, off + k, none⟩ = some (.int .u64 (dig zs k)) := (hbel.cell (p := ⟨b, off + k, none⟩) hb).trans (hc k hlt)
      obtain ⟨x, hx⟩ : ∃ x, dig zs k = x := ⟨_, rfl⟩
      rw [hx] at hcell
      have hbs : b < wr.heap.size := by have := hbel.size; omega
      have h63 : Hid (k + 1 ≤ maxLen) := by show _ ≤ _; unfold maxLen; omega
      have hby : Hid ((k + 1) * 8 ≤ 140737488355328) := by show _ ≤ _; omega
      have hbz : Hid (w.heap.size ≤ wr.heap.size + 1) := by show _ ≤ _; have := hbel.size; omega
      have HX : Hid ((zs.take (k + 1)).map (Value.int .u64) = (zs.take k).map (Value.int .u64) ++ [.int .u64 x]) := by
        show _ = _
        have a1 : zs.getD k 0 = x := hx
        rw [take_getD (by have := HL.out; omega), List.map_append, a1]; rfl
      clear hc hx
      go_wp2_with (at_builtin; refine wpList_append_lies _ rfl _ _ 23 rfl w.heap.size 51 i0 (.int .u64 0) 1 8 Try.underlying23 hi hz0 hz1 hz2 rfl (by decide) _ k _ rfl (hown.alloc _) ⟨wr.heap.size, 0, none⟩ 1 1 [.int .u64 x] rfl rfl (World.news_of_block (cs := #[.int .u64 x]) (t := 51) (fr := (0, 0)) (heap_alloc_new wr _)) (by simp [Value.oneCell']) (by decide) h63.out hby.out (by simpa using hbz.out) (wr.heap.size + 1) (by simp) ?_; intro g cp w1 hown1 hgrow hat hltg)
      have hB1 : Below w.heap.size w w1 := (hbel.alloc hbel.size _).grown hgrow (by simpa using hbz.out) (own_from hown)
      go_roundw
      case rel => exact ⟨k + 1, by omega, by go_num, by rw [HX.out]; exact hown1, hB1⟩
      case measure => simp [intOf]; omega
    · obtain rfl : k = len := by omega
      have hkl : Hid (zs.take k = zs) := List.take_of_length_le (by have := HL.out; omega)
      rw [hkl.out] at hown
      go_wp2
      go_ret
      exact ⟨_, rfl, hown, hbel⟩

theorem wrap_some (x : Int) : ∃ y, IntKind.u64.wrap x = y ∧ 0 ≤ y ∧ y < 18446744073709551616 := ⟨_, wrapU x, by omega, by omega⟩

set_option maxRecDepth 100000 in
set_option maxHeartbeats 1000000 in
theorem longer_any (neg : Bool) (ao : Option Addr) (len cap n : Nat) (v : Int) (w : World) (hx : IntAt w neg ao len cap v) (hl : len ≤ 1000) (hn : n ≤ 1000) :
    Calls Try.prog 8 #[.agg #[.bool neg, .slice ao len cap], .int .i64 (n : Int)] w fun e w' => ∃ u, NewInt w w' e u ∧ (mag u.natAbs).length ≤ len + n := by
  obtain ⟨i0, hi, hz0, hz1, hz2⟩ := info_parts info64
  obtain ⟨W, hT⟩ := One2.mk' w neg ao len cap
  have hsz := hT.size
  have hR := hx.later hT.below
  have HL : Hid (len = (mag v.natAbs).length) := hx.row.hlen
  clear hx
  go_enter Try.func8, Try.ntmps8
  go_wp2_with (first
    | (go_at_call 23; rw [← hT.eq]; refine (copyWords_any ao len cap _ _ hR.row (by omega)).mono ?_; rintro e w1 ⟨m0, rfl, hown, hb1⟩; have HO : Hid (w1.ownsRow W.heap.size 51 1 m0 len ((mag v.natAbs).map (Value.int .u64)) ∧ Below W.heap.size W w1) := ⟨hown, hb1⟩; clear hown hb1))
  go_loopw [5, 6, 7] (fun m x i wr => ∃ (k : Nat) (xv : Int) (zs : List Int), k ≤ n ∧ i = .int .i64 (k : Nat) ∧ x = .int .u64 xv ∧ (0 ≤ xv ∧ xv < 18446744073709551616) ∧ Wd 18446744073709551616 zs ∧ zs.length = len + k ∧ wr.ownsRow W.heap.size 51 1 m (len + k) (zs.map (Value.int .u64)) ∧ Below W.heap.size W wr) (fun _ _ i _ => n - (intOf i).toNat)
  case atStart => exact ⟨0, _, mag v.natAbs, Nat.zero_le _, rfl, rfl, by decide, mag_wd _, HL.out.symm, HO.out.1, HO.out.2⟩
  case round =>
    obtain ⟨k, xv, zs, hk, rfl, rfl, ⟨hx0, hx1⟩, hW, hzl, hown, hbel⟩ := hrel
    have HZ : Hid (Wd 18446744073709551616 zs ∧ zs.length = len + k) := ⟨hW, hzl⟩
    have hbx := hT.a.later hbel (by omega)
    obtain ⟨p0, p1⟩ := hbx
    clear hW hzl
    by_cases hlt : k < n
    · obtain ⟨x1, hw1, _, _⟩ := wrap_some (xv * 6364136223846793005)
      obtain ⟨x2, hw2, _, _⟩ := wrap_some (x1 + (len : Int))
      obtain ⟨x3, hw3, hx30, hx31⟩ := wrap_some (x2 + 1442695040888963407)
      have h63 : Hid (len + k + 1 ≤ maxLen) := by show _ ≤ _; unfold maxLen; omega
      have hby : Hid ((len + k + 1) * 8 ≤ 140737488355328) := by show _ ≤ _; omega
      have hbz : Hid (W.heap.size ≤ wr.heap.size + 1) := by show _ ≤ _; have := hbel.size; omega
      have HX : Hid ((zs ++ [x3]).map (Value.int .u64) = zs.map (Value.int .u64) ++ [.int .u64 x3]) := by show _ = _; rw [List.map_append]; rfl
      go_wp2_with (at_builtin; refine wpList_append_lies _ rfl _ _ 23 rfl W.heap.size 51 i0 (.int .u64 0) 1 8 Try.underlying23 hi hz0 hz1 hz2 rfl (by decide) _ (len + k) _ rfl (hown.alloc _) ⟨wr.heap.size, 0, none⟩ 1 1 [.int .u64 x3] rfl rfl (World.news_of_block (cs := #[.int .u64 x3]) (t := 51) (fr := (0, 0)) (heap_alloc_new wr _)) (by simp [Value.oneCell']) (by decide) h63.out hby.out (by simpa using hbz.out) (wr.heap.size + 1) (by simp) ?_; intro g cp w1 hown1 hgrow hat hltg)
      have hB1 : Below W.heap.size W w1 := (hbel.alloc hbel.size _).grown hgrow (by simpa using hbz.out) (own_from hown)
      go_roundw
      case rel => exact ⟨k + 1, x3, zs ++ [x3], by omega, by go_num, rfl, ⟨hx30, hx31⟩, HZ.out.1.append (Wd.one ⟨hx30, hx31⟩), by have := HZ.out.2; simp; omega, by rw [HX.out]; exact hown1, hB1⟩
      case measure => simp [intOf]; omega
    · obtain rfl : k = n := by omega
      obtain ⟨ao1, c1, hv, hrow⟩ := row_of_owns HZ.out.2 hown
      subst hv
      have hcap := cap_of_owns hown
      have hOw := Own.ofRow HZ.out.2 hown
      have hsr := hbel.size
      obtain ⟨N, hN⟩ := Int.eq_ofNat_of_zero_le (val_nonneg (q := 18446744073709551616) (by decide) HZ.out.1)
      have HN : Hid (val 18446744073709551616 zs = (N : Int)) := hN
      have HO2 : Hid (Own W.heap.size wr .u64 51 ao1 (len + k) c1 zs ∧ RowAt wr .u64 ao1 (len + k) c1 zs) := ⟨hOw, hrow⟩
      have KF := hT.r.later hbel (by omega)
      have KS : Hid (∀ w' : World, Below (w.heap.size + 1) wr w' → (Below (w.heap.size + 1) wr w' ∧ w'.cell? ⟨w.heap.size, 0, none⟩ = some (.bool neg))) := fun w' h => ⟨h, (h.cell (p := ⟨w.heap.size, 0, none⟩) (by show w.heap.size < _; omega)).trans p0⟩
      have K1 : Hid (∀ w1 w2 : World, (Below (w.heap.size + 1) wr w1 ∧ w1.cell? ⟨w.heap.size, 0, none⟩ = some (.bool neg)) → Below w1.heap.size w1 w2 → (Below (w.heap.size + 1) wr w2 ∧ w2.cell? ⟨w.heap.size, 0, none⟩ = some (.bool neg))) := fun w1 w2 h hb => KS.out _ (h.1.trans (hb.mono (by have := h.1.size; omega)))
      have K2 : Hid (∀ w1 w2 : World, (Below (w.heap.size + 1) wr w1 ∧ w1.cell? ⟨w.heap.size, 0, none⟩ = some (.bool neg)) → Below (w.heap.size + 1) w1 w2 → (Below (w.heap.size + 1) wr w2 ∧ w2.cell? ⟨w.heap.size, 0, none⟩ = some (.bool neg))) := fun w1 w2 h hb => KS.out _ (h.1.trans hb)
      clear hown hrow hOw hN HO
      go_wp2
      go_region_held3 (fun w' => (Below (w.heap.size + 1) wr w' ∧ w'.cell? ⟨w.heap.size, 0, none⟩ = some (.bool neg)))
        (first
          | exact KS.out _ (Below.refl _ _).drew
          | exact K1.out _ _ (by assumption) (by assumption)
          | exact K2.out _ _ (by assumption) (below_store (Below.refl _ _) (by omega) _ _)
          | (assumption))
        (first
          | (go_at_call 25; refine (ntrim_any ao1 (len + k) c1 zs _ (HO2.out.2.later (Below.refl _ _).drew) hcap).mono ?_; rintro e w4 ⟨hTr, hw4⟩; replace hw4 := hw4.symm; subst hw4; have hNat := Trimmed.natOwn (w0 := W) hTr (HO2.out.1.later (Below.refl _ _).drew) HZ.out.1 HN.out hbel.drew; obtain ⟨ao2, l2, c2, rfl, ho2, hb2⟩ := hNat; have HN2 : Hid (Own W.heap.size wr.drew .u64 51 ao2 l2 c2 (mag N) ∧ l2 = (mag N).length) := ⟨ho2, ho2.row.hlen⟩; have hl2 : l2 ≤ len + k := (by rw [ho2.row.hlen]; refine mag_len_le ?_; rw [← HN.out, ← HZ.out.2]; exact val_lt (by decide) HZ.out.1); clear hTr ho2 hb2)
          | (go_at_call 24; refine (made_any neg ao2 l2 c2 _ (by omega)).mono ?_; rintro e w5 ⟨rfl, hb5⟩; have HB5 : Hid (Below wr.heap.size wr w5) := bnext (Below.refl _ _).drew hb5; obtain ⟨g5, g3, g4⟩ := KF.later HB5.out (by omega)))
      go_wp2
      have hNI := NewInt.ret (w := w) (v := sgn neg N) ((HN2.out.1.later hb5).store (r := w.heap.size + 1) (by omega) (.bool (neg && decide (0 < l2))) (.slice ao2 l2 c2)) (by omega) rfl (below_store (bnext hT.below (bnext hbel HB5.out)) (by omega) _ _)
      exact bodyPost_ret (v := .agg #[.bool (neg && decide (0 < l2)), .slice ao2 l2 c2]) (by simp [results, Try.results8, go_sem, g3, g4]) rfl
        ⟨sgn neg N, hNI, by rw [natAbs_sgn]; have := HN2.out.2; omega⟩
end Go.Proofs.Ytegggnjghnbdbaa

/- Walks: Mul of any length; the laws' mul. -/
namespace Go.Proofs.Ytegggnjghnbdbaa
open Go.RowKit Go.Shelf
set_option linter.unusedVariables false
set_option linter.unusedSimpArgs false

set_option maxRecDepth 100000 in
set_option maxHeartbeats 1000000 in
theorem bmul_any (na nb : Bool) (ao bo : Option Addr) (la ca lb cb : Nat) (a b : Int) (w : World) (hx : IntAt w na ao la ca a) (hy : IntAt w nb bo lb cb b) (hl : la ≤ 2147483648) (hl' : lb ≤ 2147483648) :
    Calls Try.prog 27 #[.agg #[.bool na, .slice ao la ca], .agg #[.bool nb, .slice bo lb cb]] w fun e w' => NewIntErr w w' e (a * b) := by
  obtain ⟨W, hT⟩ := Two3.mk' w na nb ao bo la ca lb cb
  have hsz := hT.size
  have hc : (if mayB na (mag a.natAbs) && mayB nb (mag b.natAbs) then 0 else 10 : Int) = 0 := by rw [hx.sg, hy.sg, may_int, may_int]; rfl
  have HC : Hid _ := hc
  have HV : Hid (a * b = sgn (na != nb) (a.natAbs * b.natAbs)) := sgn_mul hx.sg hy.sg
  have hRx := hx.later hT.below
  have hRy := hy.later hT.below
  clear hc hx hy
  have KS : Hid (∀ w' : World, Below (w.heap.size + 2) W w' → (Below (w.heap.size + 2) W w' ∧ w'.cell? ⟨w.heap.size, 0, none⟩ = some (.bool na) ∧ w'.cell? ⟨w.heap.size, 1, none⟩ = some (.slice ao la ca) ∧ w'.cell? ⟨w.heap.size + 1, 0, none⟩ = some (.bool nb) ∧ w'.cell? ⟨w.heap.size + 1, 1, none⟩ = some (.slice bo lb cb))) := fun w' h => ⟨h, (h.cell (p := ⟨w.heap.size, 0, none⟩) (by show w.heap.size < _; omega)).trans hT.a.1, (h.cell (p := ⟨w.heap.size, 1, none⟩) (by show w.heap.size < _; omega)).trans hT.a.2, (h.cell (p := ⟨w.heap.size + 1, 0, none⟩) (by show w.heap.size + 1 < _; omega)).trans hT.b.1, (h.cell (p := ⟨w.heap.size + 1, 1, none⟩) (by show w.heap.size + 1 < _; omega)).trans hT.b.2⟩
  have K1 : Hid (∀ w1 w2 : World, (Below (w.heap.size + 2) W w1 ∧ w1.cell? ⟨w.heap.size, 0, none⟩ = some (.bool na) ∧ w1.cell? ⟨w.heap.size, 1, none⟩ = some (.slice ao la ca) ∧ w1.cell? ⟨w.heap.size + 1, 0, none⟩ = some (.bool nb) ∧ w1.cell? ⟨w.heap.size + 1, 1, none⟩ = some (.slice bo lb cb)) → Below w1.heap.size w1 w2 → (Below (w.heap.size + 2) W w2 ∧ w2.cell? ⟨w.heap.size, 0, none⟩ = some (.bool na) ∧ w2.cell? ⟨w.heap.size, 1, none⟩ = some (.slice ao la ca) ∧ w2.cell? ⟨w.heap.size + 1, 0, none⟩ = some (.bool nb) ∧ w2.cell? ⟨w.heap.size + 1, 1, none⟩ = some (.slice bo lb cb))) := fun w1 w2 h hb => KS.out _ (h.1.trans (hb.mono (by have := h.1.size; omega)))
  have K2 : Hid (∀ w1 w2 : World, (Below (w.heap.size + 2) W w1 ∧ w1.cell? ⟨w.heap.size, 0, none⟩ = some (.bool na) ∧ w1.cell? ⟨w.heap.size, 1, none⟩ = some (.slice ao la ca) ∧ w1.cell? ⟨w.heap.size + 1, 0, none⟩ = some (.bool nb) ∧ w1.cell? ⟨w.heap.size + 1, 1, none⟩ = some (.slice bo lb cb)) → Below (w.heap.size + 2) w1 w2 → (Below (w.heap.size + 2) W w2 ∧ w2.cell? ⟨w.heap.size, 0, none⟩ = some (.bool na) ∧ w2.cell? ⟨w.heap.size, 1, none⟩ = some (.slice ao la ca) ∧ w2.cell? ⟨w.heap.size + 1, 0, none⟩ = some (.bool nb) ∧ w2.cell? ⟨w.heap.size + 1, 1, none⟩ = some (.slice bo lb cb))) := fun w1 w2 h hb => KS.out _ (h.1.trans hb)
  go_enter Try.func27, Try.ntmps27
  go_wp2_with (go_at_call 30; rw [← hT.eq]; refine (checkBoth_any na nb ao bo la ca lb cb _ _ _ hRx.row hRy.row (by omega) (by omega) 0 HC.out).mono ?_; rintro e w1 ⟨rfl, hb1⟩; have hs1 := hb1.size)
  have hbX : Below (w.heap.size + 2) W w1 := hb1.mono (by omega)
  go_region_held3 (fun w' => Below (w.heap.size + 2) W w' ∧ w'.cell? ⟨w.heap.size, 0, none⟩ = some (.bool na) ∧ w'.cell? ⟨w.heap.size, 1, none⟩ = some (.slice ao la ca) ∧ w'.cell? ⟨w.heap.size + 1, 0, none⟩ = some (.bool nb) ∧ w'.cell? ⟨w.heap.size + 1, 1, none⟩ = some (.slice bo lb cb))
    (first
      | exact KS.out _ hbX.drew
      | exact K1.out _ _ (by assumption) (by assumption)
      | exact K2.out _ _ (by assumption) (below_store (Below.refl _ _) (by omega) _ _))
    (first
      | (go_at_call 43; refine (times_any ao bo la ca lb cb _ _ _ (hRx.row.later hb1.drew) (hRy.row.later hb1.drew) (by omega) (by omega)).mono ?_; rintro e w2 ⟨ao2, l2, c2, rfl, ho2, hb2⟩; have hlen2 : l2 ≤ 4294967296 := (by rw [ho2.row.hlen]; have q := mag_len_mul a.natAbs b.natAbs; rw [← hRx.row.hlen, ← hRy.row.hlen] at q; omega))
      | (go_at_call 34; refine (signed_any (na != nb) ao2 l2 c2 _ (by omega)).mono ?_; rintro e w3 ⟨rfl, hb3⟩; obtain ⟨g5, g3, g4⟩ := hT.r.later (bnext hb1.drew (bnext hb2 hb3)) (by omega)))
  go_wp2
  have hN := NewInt.ret (w := w) ((ho2.later hb3).store (r := w.heap.size + 1 + 1) (by show _ < w1.heap.size; omega) (.bool ((na != nb) && decide (0 < l2))) (.slice ao2 l2 c2)) (by show _ ≤ w1.heap.size; omega) HV.out (below_store (bnext hT.below (bnext hb1.drew (bnext hb2 hb3))) (by omega) _ _)
  obtain ⟨n9, ao9, l9, c9, he9, hrest9⟩ := hN
  simp only [Ending.returned.injEq, Value.agg.injEq] at he9
  exact bodyPost_ret (v := .tuple #[.agg #[.bool ((na != nb) && decide (0 < l2)), .slice ao2 l2 c2], .int .i64 0]) (by simp [results, Try.results27, go_sem, g3, g4]) rfl
    ⟨n9, ao9, l9, c9, by rw [he9], hrest9⟩
set_option maxRecDepth 100000 in
set_option maxHeartbeats 1000000 in
theorem lmul_any (na nb : Bool) (ao bo : Option Addr) (la ca lb cb : Nat) (a b : Int) (w : World) (hx : IntAt w na ao la ca a) (hy : IntAt w nb bo lb cb b) (hl : la ≤ 2147483648) (hl' : lb ≤ 2147483648) :
    Calls Try.prog 10 #[.agg #[.bool na, .slice ao la ca], .agg #[.bool nb, .slice bo lb cb]] w fun e w' => NewInt w w' e (a * b) := by
  obtain ⟨W, hT⟩ := Two3.mk' w na nb ao bo la ca lb cb
  have hsz := hT.size
  have hRx := hx.later hT.below
  have hRy := hy.later hT.below
  clear hx hy
  go_enter Try.func10, Try.ntmps10
  go_wp2_with (first
    | (go_at_call 27; rw [← hT.eq]; refine (bmul_any na nb ao bo la ca lb cb a b _ hRx hRy hl hl').mono ?_; rintro e w1 ⟨n1, ao1, l1, c1, rfl, hsg1, ho1, hb1⟩; have HS : Hid (n1 = sgB (a * b)) := hsg1; clear hsg1; have hs1 := hb1.size; have hbA : Below W.heap.size W (w1.alloc (.cells #[.bool n1, .slice ao1 l1 c1] 26)) := hb1.trans ((Below.refl _ _).alloc hs1 _); obtain ⟨g5, g3, g4⟩ := hT.r.later hbA (by omega)))
  exact bodyPost_ret (v := .agg #[.bool n1, .slice ao1 l1 c1]) (by simp [results, Try.results10, go_sem, g3, g4]) rfl
    ⟨_, _, _, _, rfl, HS.out, (((ho1.later ((Below.refl _ _).alloc (Nat.le_refl _) _)).store (by omega) _ _).mono (by omega)), below_store (bnext hT.below hbA) (by omega) _ _⟩

end Go.Proofs.Ytegggnjghnbdbaa

/- Lengths of sums, products, quotients; quotients of products. -/
namespace Go.Proofs.Ytegggnjghnbdbaa
open Go.RowKit
set_option linter.unusedVariables false
set_option linter.unusedSimpArgs false

theorem add_len (a b : Int) : (mag (a + b).natAbs).length ≤ (mag a.natAbs).length + (mag b.natAbs).length + 1 :=
  Nat.le_trans (mag_len_mono (Int.natAbs_add_le a b)) (mag_len_add _ _)
theorem mul_len (a b : Int) : (mag (a * b).natAbs).length ≤ (mag a.natAbs).length + (mag b.natAbs).length := by rw [Int.natAbs_mul]; exact mag_len_mul _ _
/-- a number of at most B limbs -/
def Num (w : World) (neg : Bool) (ao : Option Addr) (l c : Nat) (v : Int) (B : Nat) : Prop := IntAt w neg ao l c v ∧ l ≤ B
theorem Num.later {w w' : World} {neg : Bool} {ao : Option Addr} {l c B : Nat} {v : Int} (h : Num w neg ao l c v B) (hb : Below w.heap.size w w') : Num w' neg ao l c v B := ⟨h.1.later hb, h.2⟩
theorem num_add {B : Nat} {w x : World} {neg n1 n2 : Bool} {ao o1 o2 : Option Addr} {l c l1 c1 l2 c2 A1 A2 : Nat} {a b : Int} (hs : neg = sgB (a + b)) (ho : Own B x .u64 51 ao l c (mag (a + b).natAbs)) (h1 : Num w n1 o1 l1 c1 a A1) (h2 : Num w n2 o2 l2 c2 b A2) : Num x neg ao l c (a + b) (A1 + A2 + 1) := by
  refine ⟨ho.int hs, ?_⟩
  have := add_len a b
  have e1 := h1.1.row.hlen
  have e2 := h2.1.row.hlen
  have e3 := h1.2
  have e4 := h2.2
  rw [ho.row.hlen]; omega
theorem num_mul {B : Nat} {w x : World} {neg n1 n2 : Bool} {ao o1 o2 : Option Addr} {l c l1 c1 l2 c2 A1 A2 : Nat} {a b : Int} (hs : neg = sgB (a * b)) (ho : Own B x .u64 51 ao l c (mag (a * b).natAbs)) (h1 : Num w n1 o1 l1 c1 a A1) (h2 : Num w n2 o2 l2 c2 b A2) : Num x neg ao l c (a * b) (A1 + A2) := by
  refine ⟨ho.int hs, ?_⟩
  have := mul_len a b
  have e1 := h1.1.row.hlen
  have e2 := h2.1.row.hlen
  have e3 := h1.2
  have e4 := h2.2
  rw [ho.row.hlen]; omega
theorem floor_mul {a b q r : Int} (h : FloorOf (a * b) b q r) (hb : b ≠ 0) : q = a ∧ r = 0 := by
  obtain ⟨h1, h2⟩ := h
  have e : r = b * (a - q) := by rw [Int.mul_sub, Int.mul_comm b a]; omega
  have hd : a - q = 0 := by
    obtain ⟨d, hd⟩ : ∃ d, a - q = d := ⟨_, rfl⟩
    rw [hd] at e ⊢
    rcases Int.lt_trichotomy d 0 with h3 | h3 | h3
    · exfalso
      rcases h2 with ⟨p1, p2, p3⟩ | ⟨p1, p2, p3⟩
      · have : b * d ≤ b * (-1) := Int.mul_le_mul_of_nonneg_left (by omega) (by omega)
        omega
      · have : (-b) * d ≤ (-b) * (-1) := Int.mul_le_mul_of_nonneg_left (by omega) (by omega)
        simp only [Int.neg_mul] at this
        omega
    · exact h3
    · exfalso
      rcases h2 with ⟨p1, p2, p3⟩ | ⟨p1, p2, p3⟩
      · have : b * 1 ≤ b * d := Int.mul_le_mul_of_nonneg_left (by omega) (by omega)
        omega
      · have : (-b) * 1 ≤ (-b) * d := Int.mul_le_mul_of_nonneg_left (by omega) (by omega)
        simp only [Int.neg_mul] at this
        omega
  rw [hd] at e
  exact ⟨by omega, by simpa using e⟩

theorem floor_small {v u q r : Int} (h : FloorOf v u q r) (hu : u ≠ 0) : (mag q.natAbs).length ≤ (mag v.natAbs).length + (mag u.natAbs).length + 1 ∧ (mag r.natAbs).length ≤ (mag u.natAbs).length := by
  obtain ⟨h1, h2⟩ := h
  have hr : r.natAbs ≤ u.natAbs := by omega
  refine ⟨?_, mag_len_mono hr⟩
  have e : u * q = v - r := by omega
  have e2 : u.natAbs * q.natAbs = (v - r).natAbs := by rw [← e, Int.natAbs_mul]
  have h3 : 1 * q.natAbs ≤ u.natAbs * q.natAbs := Nat.mul_le_mul_right _ (by omega)
  have h4 : q.natAbs ≤ v.natAbs + u.natAbs := by omega
  exact Nat.le_trans (mag_len_mono h4) (mag_len_add _ _)
theorem Fresh.alloc' {X : World} {r : Nat} {o : Obj} (h : Fresh X r) : Fresh (X.alloc o) r := by
  have hb : Below X.heap.size X (X.alloc o) := (Below.refl _ _).alloc (Nat.le_refl _) _
  exact h.later hb (cell_lt h.2.1)
theorem Fresh.drew' {X : World} {r : Nat} (h : Fresh X r) : Fresh X.drew r := ⟨h.1, h.2.1, h.2.2⟩
theorem fresh_mk {W : World} {r : Nat} (h1 : ∀ j, W.frozen? ⟨r, j, none⟩ = false) (h2 : W.cell? ⟨r, 0, none⟩ = some (.bool false)) (h3 : W.cell? ⟨r, 1, none⟩ = some (.slice none 0 0)) : Fresh W r := ⟨h1, h2, h3⟩
theorem Fresh.next {W w2 : World} {r : Nat} (k : Fresh W r) (h : Below W.heap.size W w2) : Fresh w2 r := k.later h (cell_lt k.2.1)
theorem Fresh.new1 (w : World) : Fresh ((w.alloc (.cells #[.bool false, .slice none 0 0] 26)).alloc (.cells #[.bool false, .slice none 0 0] 26)) (w.heap.size + 1) := by
  have := Fresh.new (w.alloc (.cells #[.bool false, .slice none 0 0] 26))
  simpa using this
theorem with_held {S : World → Prop} {P : Program} {f : FuncId} {args : Array Value} {W : World} {Q : Ending → World → Prop} (h : S W) (k : S W → Calls P f args W Q) : Calls P f args W Q := k h
theorem own_alloc {B : Nat} {X : World} {k : IntKind} {t : TypeId} {ao : Option Addr} {l c : Nat} {zs : List Int} {o : Obj} (h : Own B X k t ao l c zs) : Own B (X.alloc o) k t ao l c zs := h.later ((Below.refl _ _).alloc (Nat.le_refl _) _)
theorem own_set {B : Nat} {X : World} {k : IntKind} {t : TypeId} {ao : Option Addr} {l c r j : Nat} {zs : List Int} {v : Value} (h : Own B X k t ao l c zs) (hr : r < B) : Own B (X.setCell ⟨r, j, none⟩ v) k t ao l c zs := h.setOther (a := ⟨r, j, none⟩) hr v
theorem below_alloc {B : Nat} {w X : World} {o : Obj} (h : Below B w X) (hB : B ≤ w.heap.size) : Below B w (X.alloc o) := h.alloc (Nat.le_trans hB h.size) o
theorem below_set {B r j : Nat} {w X : World} {v : Value} (h : Below B w X) (hr : B ≤ r) : Below B w (X.setCell ⟨r, j, none⟩ v) := h.setCell (p := ⟨r, j, none⟩) hr v
/-- two results of a division, in variables of their own -/
def TwoVars (U wx : World) (r1 r2 : Nat) (v u : Int) : Prop := ∃ n7 ao7 l7 c7 n8 ao8 l8 c8 q r, Boxed wx r1 n7 ao7 l7 c7 ∧ Boxed wx r2 n8 ao8 l8 c8 ∧ (r1 < wx.heap.size ∧ r2 < wx.heap.size) ∧ Num wx n7 ao7 l7 c7 q 2000 ∧ Num wx n8 ao8 l8 c8 r 2000 ∧ q * u + r = v ∧ Below U.heap.size U wx
theorem two_a {U y6 : World} {B l7 c7 l8 c8 : Nat} {n7 n8 : Bool} {ao7 ao8 : Option Addr} {qq rr v u : Int} (hO : Hid (Own B y6 .u64 51 ao7 l7 c7 (mag qq.natAbs) ∧ Own B y6 .u64 51 ao8 l8 c8 (mag rr.natAbs))) (hD : Hid ((n7 = sgB qq ∧ n8 = sgB rr) ∧ (l7 ≤ 2000 ∧ l8 ≤ 2000) ∧ qq * u + rr = v)) (hb : Below U.heap.size U y6) : TwoVars U ((y6.alloc (.cells #[.bool n7, .slice ao7 l7 c7] 26)).alloc (.cells #[.bool n8, .slice ao8 l8 c8] 26)) y6.heap.size (y6.heap.size + 1) v u :=
  ⟨n7, ao7, l7, c7, n8, ao8, l8, c8, qq, rr, ⟨by simp [go_sem], by simp [go_sem]⟩, ⟨by simp [go_sem], by simp [go_sem]⟩, ⟨by simp; omega, by simp⟩, ⟨(own_alloc (own_alloc hO.out.1)).int hD.out.1.1, hD.out.2.1.1⟩, ⟨(own_alloc (own_alloc hO.out.2)).int hD.out.1.2, hD.out.2.1.2⟩, hD.out.2.2, below_alloc (below_alloc hb (Nat.le_refl _)) (Nat.le_refl _)⟩
theorem two_b {U y6 : World} {B l7 c7 l8 c8 : Nat} {n7 n8 : Bool} {ao7 ao8 : Option Addr} {qq rr v u : Int} (hO : Hid (Own B y6 .u64 51 ao7 l7 c7 (mag qq.natAbs) ∧ Own B y6 .u64 51 ao8 l8 c8 (mag rr.natAbs))) (hD : Hid ((n7 = sgB qq ∧ n8 = sgB rr) ∧ (l7 ≤ 2000 ∧ l8 ≤ 2000) ∧ qq * u + rr = v)) (hb : Below U.heap.size U y6) : TwoVars U ((y6.alloc (.cells #[.bool n8, .slice ao8 l8 c8] 26)).alloc (.cells #[.bool n7, .slice ao7 l7 c7] 26)) (y6.heap.size + 1) y6.heap.size v u :=
  ⟨n7, ao7, l7, c7, n8, ao8, l8, c8, qq, rr, ⟨by simp [go_sem], by simp [go_sem]⟩, ⟨by simp [go_sem], by simp [go_sem]⟩, ⟨by simp, by simp; omega⟩, ⟨(own_alloc (own_alloc hO.out.1)).int hD.out.1.1, hD.out.2.1.1⟩, ⟨(own_alloc (own_alloc hO.out.2)).int hD.out.1.2, hD.out.2.1.2⟩, hD.out.2.2, below_alloc (below_alloc hb (Nat.le_refl _)) (Nat.le_refl _)⟩
theorem two_c {r : Nat} {U y6 : World} {B l7 c7 l8 c8 : Nat} {n7 n8 : Bool} {ao7 ao8 : Option Addr} {qq rr v u : Int} (hO : Hid (Own B y6 .u64 51 ao7 l7 c7 (mag qq.natAbs) ∧ Own B y6 .u64 51 ao8 l8 c8 (mag rr.natAbs))) (hD : Hid ((n7 = sgB qq ∧ n8 = sgB rr) ∧ (l7 ≤ 2000 ∧ l8 ≤ 2000) ∧ qq * u + rr = v)) (hb : Below U.heap.size U y6) (hF : Fresh y6 r) (hr : r < B) (hU : U.heap.size ≤ r) : TwoVars U (((y6.setCell ⟨r, 0, none⟩ (.bool n7)).setCell ⟨r, 1, none⟩ (.slice ao7 l7 c7)).alloc (.cells #[.bool n8, .slice ao8 l8 c8] 26)) r y6.heap.size v u := by
  obtain ⟨_, f3, f4⟩ := hF
  have hl : r < y6.heap.size := cell_lt f3
  have hn : r ≠ y6.heap.size := by omega
  exact ⟨n7, ao7, l7, c7, n8, ao8, l8, c8, qq, rr, ⟨by simp [go_sem, f3, f4, hl, hn], by simp [go_sem, f3, f4, hl, hn]⟩, ⟨by simp [go_sem], by simp [go_sem]⟩, ⟨by simp; omega, by simp⟩, ⟨(own_alloc (own_set (own_set hO.out.1 hr) hr)).int hD.out.1.1, hD.out.2.1.1⟩, ⟨(own_alloc (own_set (own_set hO.out.2 hr) hr)).int hD.out.1.2, hD.out.2.1.2⟩, hD.out.2.2, below_alloc (below_set (below_set hb hU) hU) (Nat.le_refl _)⟩
theorem two_d {r : Nat} {U y6 : World} {B l7 c7 l8 c8 : Nat} {n7 n8 : Bool} {ao7 ao8 : Option Addr} {qq rr v u : Int} (hO : Hid (Own B y6 .u64 51 ao7 l7 c7 (mag qq.natAbs) ∧ Own B y6 .u64 51 ao8 l8 c8 (mag rr.natAbs))) (hD : Hid ((n7 = sgB qq ∧ n8 = sgB rr) ∧ (l7 ≤ 2000 ∧ l8 ≤ 2000) ∧ qq * u + rr = v)) (hb : Below U.heap.size U y6) (hF : Fresh y6 r) (hr : r < B) (hU : U.heap.size ≤ r) : TwoVars U (((y6.setCell ⟨r, 0, none⟩ (.bool n8)).setCell ⟨r, 1, none⟩ (.slice ao8 l8 c8)).alloc (.cells #[.bool n7, .slice ao7 l7 c7] 26)) y6.heap.size r v u := by
  obtain ⟨_, f3, f4⟩ := hF
  have hl : r < y6.heap.size := cell_lt f3
  have hn : r ≠ y6.heap.size := by omega
  exact ⟨n7, ao7, l7, c7, n8, ao8, l8, c8, qq, rr, ⟨by simp [go_sem], by simp [go_sem]⟩, ⟨by simp [go_sem, f3, f4, hl, hn], by simp [go_sem, f3, f4, hl, hn]⟩, ⟨by simp, by simp; omega⟩, ⟨(own_alloc (own_set (own_set hO.out.1 hr) hr)).int hD.out.1.1, hD.out.2.1.1⟩, ⟨(own_alloc (own_set (own_set hO.out.2 hr) hr)).int hD.out.1.2, hD.out.2.1.2⟩, hD.out.2.2, below_alloc (below_set (below_set hb hU) hU) (Nat.le_refl _)⟩
theorem two_e {r r' : Nat} {U y6 : World} {B l7 c7 l8 c8 : Nat} {n7 n8 : Bool} {ao7 ao8 : Option Addr} {qq rr v u : Int} (hO : Hid (Own B y6 .u64 51 ao7 l7 c7 (mag qq.natAbs) ∧ Own B y6 .u64 51 ao8 l8 c8 (mag rr.natAbs))) (hD : Hid ((n7 = sgB qq ∧ n8 = sgB rr) ∧ (l7 ≤ 2000 ∧ l8 ≤ 2000) ∧ qq * u + rr = v)) (hb : Below U.heap.size U y6) (hF : Fresh y6 r) (hF' : Fresh y6 r') (hne : r ≠ r') (hr : r < B) (hr' : r' < B) (hU : U.heap.size ≤ r) (hU' : U.heap.size ≤ r') : TwoVars U ((((y6.setCell ⟨r, 0, none⟩ (.bool n7)).setCell ⟨r, 1, none⟩ (.slice ao7 l7 c7)).setCell ⟨r', 0, none⟩ (.bool n8)).setCell ⟨r', 1, none⟩ (.slice ao8 l8 c8)) r r' v u := by
  obtain ⟨_, f3, f4⟩ := hF
  obtain ⟨_, k3, k4⟩ := hF'
  have hl : r < y6.heap.size := cell_lt f3
  have hl' : r' < y6.heap.size := cell_lt k3
  have hne' : r' ≠ r := Ne.symm hne
  exact ⟨n7, ao7, l7, c7, n8, ao8, l8, c8, qq, rr, ⟨by simp [go_sem, f3, f4, k3, k4, hne, hne'], by simp [go_sem, f3, f4, k3, k4, hne, hne']⟩, ⟨by simp [go_sem, f3, f4, k3, k4, hne, hne'], by simp [go_sem, f3, f4, k3, k4, hne, hne']⟩, ⟨by simp; omega, by simp; omega⟩, ⟨(own_set (own_set (own_set (own_set hO.out.1 hr) hr) hr') hr').int hD.out.1.1, hD.out.2.1.1⟩, ⟨(own_set (own_set (own_set (own_set hO.out.2 hr) hr) hr') hr').int hD.out.1.2, hD.out.2.1.2⟩, hD.out.2.2, below_set (below_set (below_set (below_set hb hU) hU) hU') hU'⟩
end Go.Proofs.Ytegggnjghnbdbaa
