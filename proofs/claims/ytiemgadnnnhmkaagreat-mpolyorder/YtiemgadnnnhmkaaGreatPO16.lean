/-
  NV: walks: the page's by of a polynomial of one term and a term. (gen/nv.py)
-/
import Derived.Test.YtiemgadnnnhmkaaGreatPO15
namespace Go.Proofs.YtiemgadnnnhmkaaGreat
open Go.RowKit
set_option linter.unusedVariables false
set_option linter.unusedSimpArgs false
theorem ints2 {w' : World} {B : Nat} {v : Value} {a b : Int} (h : w'.ownsRow B 3 1 v 2 [.int .i64 a, .int .i64 b]) : ∃ g cp, v = .slice (some ⟨g, 0, none⟩) 2 cp ∧ 2 ≤ cp ∧ B ≤ g ∧ Bx w' g [.int .i64 a, .int .i64 b] := by
  rcases h.2 with ⟨hv, h0⟩ | ⟨g, cap, cur, hv, hg, hh, hc1, hc2, hs, ht⟩
  · cases h0
  · have h4 : cur.toList.take 2 = [.int .i64 a, .int .i64 b] := by rw [← ht]
    refine ⟨g, cap, hv, by omega, hg, fun j v hj => ?_, fun j => ?_⟩
    · have h3 : cur[j]? = some v := by
        have hl : j < 2 := by have := (List.getElem?_eq_some_iff.1 hj).1; simpa using this
        rw [← h4, List.getElem?_take_of_lt hl] at hj; simpa using hj
      simp [World.cell?, hh, h3]
    · simp [World.frozen?, hh]
/-- a list of one term lies in blocks from B on -/
def Far (B : Nat) (W : World) (v : Value) : Prop := ∀ s cp g ec, v = .slice (some ⟨s, 0, none⟩) 1 cp → W.cell? ⟨s, 0, none⟩ = some (.slice (some ⟨g, 0, none⟩) 2 ec) → B ≤ s ∧ B ≤ g
/-- a list made by append, of one term -/
def TermB (B : Nat) (W : World) (v : Value) (g cp : Nat) (ao : Option Addr) (la ca : Nat) : Prop := ∃ s k, v = .slice (some ⟨s, 0, none⟩) 1 k ∧ B ≤ s ∧ W.cell? ⟨s, 0, none⟩ = some (.slice (some ⟨g, 0, none⟩) 2 cp) ∧ W.cell? ⟨s, 1, none⟩ = some (.bool false) ∧ W.cell? ⟨s, 2, none⟩ = some (.slice ao la ca)
theorem term_of_own {w' : World} {B g cp : Nat} {v : Value} {ao : Option Addr} {la ca : Nat} (h : w'.ownsRow B 56 3 v (0 + 1) ([] ++ [.slice (some ⟨g, 0, none⟩) 2 cp, .bool false, .slice ao la ca])) : TermB B w' v g cp ao la ca := by
  rcases h.2 with ⟨hv, h0⟩ | ⟨s, cap, cur, hv, hg, hh, hc1, hc2, hs, ht⟩
  · cases h0
  · have h4 : cur.toList.take 3 = [.slice (some ⟨g, 0, none⟩) 2 cp, .bool false, .slice ao la ca] := by
      have h5 := ht
      simp at h5
      exact h5
    have hc : ∀ j x, [Value.slice (some ⟨g, 0, none⟩) 2 cp, .bool false, .slice ao la ca][j]? = some x → w'.cell? ⟨s, j, none⟩ = some x := fun j x hj => by
      have h3 : cur[j]? = some x := by
        have hl : j < 3 := by have := (List.getElem?_eq_some_iff.1 hj).1; simpa using this
        rw [← h4, List.getElem?_take_of_lt hl] at hj; simpa using hj
      simp [World.cell?, hh, h3]
    exact ⟨s, cap, hv, hg, hc 0 _ rfl, hc 1 _ rfl, hc 2 _ rfl⟩
set_option maxRecDepth 100000 in
set_option maxHeartbeats 4000000 in
theorem by_one (a b c d : Int) (tp fo bo : Option Addr) (tc fl fc lb cb : Nat) (w : World) (h : TermsAt w tp 1 tc [([a, b], false, [1])]) (hf : RowAt w .i64 fo fl fc [c, d]) (hr : RowAt w .u64 bo lb cb [1]) (ha : 0 ≤ a ∧ a ≤ 500) (hb : 0 ≤ b ∧ b ≤ 500) (hc : 0 ≤ c ∧ c ≤ 500) (hd : 0 ≤ d ∧ d ≤ 500) :
    Calls Tryz.prog 36 #[.agg #[.int .i64 2, .slice tp 1 tc], .agg #[.slice fo fl fc, .bool false, .slice bo lb cb]] w fun e w' => ∃ v, e = .returned (.agg #[.int .i64 2, v]) ∧ TermV w' v (a + c) (b + d) ∧ Far w.heap.size w' v ∧ Below w.heap.size w w' := by
  obtain ⟨b9, o9, eo, el, ecx, n1, ao, la, ca, rfl, hb9, ⟨a0, a1, a2⟩, hn1, he1, hr1, hw1, hl1⟩ := h.get (k := 0) (by simp)
  obtain rfl : n1 = false := hn1
  replace he1 : RowAt w .i64 eo el ecx [a, b] := he1.row
  replace hr1 : RowAt w .u64 ao la ca [1] := hr1
  have hel : el = 2 := he1.hlen
  subst hel
  have hfl : fl = 2 := hf.hlen
  subst hfl
  simp only [Nat.zero_mul, Nat.add_zero] at a0 a1 a2
  obtain ⟨b8, o8, rfl, hb8, hc8⟩ := hf.get (by omega)
  have f0 := hc8 0 (by omega)
  have f1 := hc8 1 (by omega)
  obtain ⟨i0, hi, hz0, hz1, hz2⟩ := info_parts infoTerm
  have h63 : Hid (0 + 1 ≤ maxLen) := by show _ ≤ _; unfold maxLen; omega
  obtain ⟨W, hW⟩ : ∃ W, W = (((w.alloc (.cells #[.int .i64 2, .slice (some ⟨b9, o9, none⟩) 1 tc] 25)).alloc (.cells #[.slice (some ⟨b8, o8, none⟩) 2 fc, .bool false, .slice bo lb cb] 56)).alloc (.cells #[.int .i64 0, .slice none 0 0] 25)).alloc (.cells #[.int .i64 2, .slice none 0 0] 25) := ⟨_, rfl⟩
  have h4 := fourBx (A := [.int .i64 2, .slice (some ⟨b9, o9, none⟩) 1 tc]) (B := [.slice (some ⟨b8, o8, none⟩) 2 fc, .bool false, .slice bo lb cb]) (C := [.int .i64 0, .slice none 0 0]) (D := [.int .i64 2, .slice none 0 0]) hW (by simp) (by simp) (by simp) (by simp)
  have HB : Hid (Below w.heap.size w W ∧ W.heap.size = w.heap.size + 4) := ⟨h4.1, h4.2.1⟩
  have HX : Hid (∀ w', Below W.heap.size W w' → Bx w' w.heap.size [.int .i64 2, .slice (some ⟨b9, o9, none⟩) 1 tc] ∧ Bx w' (w.heap.size + 1) [.slice (some ⟨b8, o8, none⟩) 2 fc, .bool false, .slice bo lb cb] ∧ Bx w' (w.heap.size + 1 + 1) [.int .i64 0, .slice none 0 0] ∧ Bx w' (w.heap.size + 1 + 1 + 1) [.int .i64 2, .slice none 0 0]) := fun w' hb => ⟨h4.2.2.1.later hb h4.2.2.1.lt, h4.2.2.2.1.later hb h4.2.2.2.1.lt, h4.2.2.2.2.1.later hb h4.2.2.2.2.1.lt, h4.2.2.2.2.2.later hb h4.2.2.2.2.2.lt⟩
  have KT : Hid (∀ w', Below W.heap.size W w' → w'.cell? ⟨b9, o9, none⟩ = some (.slice eo 2 ecx) ∧ w'.cell? ⟨b9, o9 + 1, none⟩ = some (.bool false) ∧ w'.cell? ⟨b9, o9 + 2, none⟩ = some (.slice ao la ca)) := fun w' hb => by
    have hb' := bnext h4.1 hb
    exact ⟨(hb'.cell (p := ⟨b9, o9, none⟩) (cell_lt a0)).trans a0, (hb'.cell (p := ⟨b9, o9 + 1, none⟩) (cell_lt a1)).trans a1, (hb'.cell (p := ⟨b9, o9 + 2, none⟩) (cell_lt a2)).trans a2⟩
  have KF : Hid (∀ w', Below W.heap.size W w' → w'.cell? ⟨b8, o8, none⟩ = some (.int .i64 c) ∧ w'.cell? ⟨b8, o8 + 1, none⟩ = some (.int .i64 d)) := fun w' hb => by
    have hb' := bnext h4.1 hb
    exact ⟨(hb'.cell (p := ⟨b8, o8, none⟩) hb8).trans f0, (hb'.cell (p := ⟨b8, o8 + 1, none⟩) hb8).trans f1⟩
  have KS : Hid (∀ w', Below W.heap.size W w' → w'.cell? ⟨w.heap.size, 0, none⟩ = some (.int .i64 2) ∧ w'.cell? ⟨w.heap.size, 1, none⟩ = some (.slice (some ⟨b9, o9, none⟩) 1 tc) ∧ w'.cell? ⟨w.heap.size + 1, 1, none⟩ = some (.bool false) ∧ w'.cell? ⟨w.heap.size + 1, 2, none⟩ = some (.slice bo lb cb) ∧ w'.cell? ⟨b9, o9, none⟩ = some (.slice eo 2 ecx) ∧ w'.cell? ⟨b9, o9 + 1, none⟩ = some (.bool false) ∧ w'.cell? ⟨b9, o9 + 2, none⟩ = some (.slice ao la ca)) := fun w' hb => by
    obtain ⟨x1, x2, _, _⟩ := HX.out w' hb
    exact ⟨x1.1 0 _ rfl, x1.1 1 _ rfl, x2.1 1 _ rfl, x2.1 2 _ rfl, KT.out w' hb⟩
  have K5 : Hid (∀ w', Below W.heap.size W w' → w'.cell? ⟨w.heap.size + 1 + 1 + 1, 0, none⟩ = some (.int .i64 2) ∧ w'.cell? ⟨w.heap.size + 1 + 1 + 1, 1, none⟩ = some (.slice none 0 0) ∧ ∀ j, w'.frozen? ⟨w.heap.size + 1 + 1 + 1, j, none⟩ = false) := fun w' hb => by
    obtain ⟨_, _, _, x⟩ := HX.out w' hb
    exact ⟨x.1 0 _ rfl, x.1 1 _ rfl, x.2⟩
  have HLT : Hid (b9 < w.heap.size ∧ b8 < w.heap.size) := ⟨cell_lt a0, hb8⟩
  have K2 : Hid (∀ (w' : World) (x : Value), (w'.cell? ⟨w.heap.size, 0, none⟩ = some (.int .i64 2) ∧ w'.cell? ⟨w.heap.size, 1, none⟩ = some (.slice (some ⟨b9, o9, none⟩) 1 tc) ∧ w'.cell? ⟨w.heap.size + 1, 1, none⟩ = some (.bool false) ∧ w'.cell? ⟨w.heap.size + 1, 2, none⟩ = some (.slice bo lb cb) ∧ w'.cell? ⟨b9, o9, none⟩ = some (.slice eo 2 ecx) ∧ w'.cell? ⟨b9, o9 + 1, none⟩ = some (.bool false) ∧ w'.cell? ⟨b9, o9 + 2, none⟩ = some (.slice ao la ca)) → (w'.setCell ⟨w.heap.size + 1 + 1 + 1, 1, none⟩ x).cell? ⟨w.heap.size, 0, none⟩ = some (.int .i64 2) ∧ (w'.setCell ⟨w.heap.size + 1 + 1 + 1, 1, none⟩ x).cell? ⟨w.heap.size, 1, none⟩ = some (.slice (some ⟨b9, o9, none⟩) 1 tc) ∧ (w'.setCell ⟨w.heap.size + 1 + 1 + 1, 1, none⟩ x).cell? ⟨w.heap.size + 1, 1, none⟩ = some (.bool false) ∧ (w'.setCell ⟨w.heap.size + 1 + 1 + 1, 1, none⟩ x).cell? ⟨w.heap.size + 1, 2, none⟩ = some (.slice bo lb cb) ∧ (w'.setCell ⟨w.heap.size + 1 + 1 + 1, 1, none⟩ x).cell? ⟨b9, o9, none⟩ = some (.slice eo 2 ecx) ∧ (w'.setCell ⟨w.heap.size + 1 + 1 + 1, 1, none⟩ x).cell? ⟨b9, o9 + 1, none⟩ = some (.bool false) ∧ (w'.setCell ⟨w.heap.size + 1 + 1 + 1, 1, none⟩ x).cell? ⟨b9, o9 + 2, none⟩ = some (.slice ao la ca)) := fun w' x h => by
    have := HLT.out
    exact ⟨by rw [cell_off (by omega)]; exact h.1, by rw [cell_off (by omega)]; exact h.2.1, by rw [cell_off (by omega)]; exact h.2.2.1, by rw [cell_off (by omega)]; exact h.2.2.2.1, by rw [cell_off (by omega)]; exact h.2.2.2.2.1, by rw [cell_off (by omega)]; exact h.2.2.2.2.2.1, by rw [cell_off (by omega)]; exact h.2.2.2.2.2.2⟩
  have HE : Hid (RowAt W .i64 eo 2 ecx [a, b] ∧ IntAt W false ao la ca 1 ∧ IntAt W false bo lb cb 1) := ⟨he1.later h4.1, ⟨rfl, by rw [mag1]; exact hr1.later h4.1⟩, ⟨rfl, by rw [mag1]; exact hr.later h4.1⟩⟩
  have HLN : Hid (la ≤ 1073741824 ∧ lb ≤ 1073741824) := ⟨by have := hr1.hlen; simp at this; omega, by have := hr.hlen; simp at this; omega⟩
  have HA : Hid ((0 ≤ a ∧ a ≤ 500) ∧ (0 ≤ b ∧ b ≤ 500) ∧ (0 ≤ c ∧ c ≤ 500) ∧ (0 ≤ d ∧ d ≤ 500)) := ⟨ha, hb, hc, hd⟩
  have HWE : Hid (W = (((w.alloc (.cells #[.int .i64 2, .slice (some ⟨b9, o9, none⟩) 1 tc] 25)).alloc (.cells #[.slice (some ⟨b8, o8, none⟩) 2 fc, .bool false, .slice bo lb cb] 56)).alloc (.cells #[.int .i64 0, .slice none 0 0] 25)).alloc (.cells #[.int .i64 2, .slice none 0 0] 25)) := hW
  clear hW h4 h hf hr he1 hr1 a0 a1 a2 f0 f1 hc8 hb8 hb9 ha hb hc hd hw1 hl1
  go_enter Tryz.func36, Tryz.ntmps36
  go_wp2
  rw [← HWE.out]
  go_loopw [6] (fun i wr => (i = .int .i64 0 ∧ Hid (Below W.heap.size W wr)) ∨ (i = .int .i64 1 ∧ ∃ sv kv, Hid (TermV wr (.slice (some ⟨sv, 0, none⟩) 1 kv) (a + c) (b + d) ∧ (∀ s cp g ec, Value.slice (some ⟨sv, 0, none⟩) 1 kv = .slice (some ⟨s, 0, none⟩) 1 cp → wr.cell? ⟨s, 0, none⟩ = some (.slice (some ⟨g, 0, none⟩) 2 ec) → w.heap.size + 4 ≤ s ∧ w.heap.size + 4 ≤ g) ∧ Below w.heap.size w wr ∧ Bx wr w.heap.size [.int .i64 2, .slice (some ⟨b9, o9, none⟩) 1 tc] ∧ Bx wr (w.heap.size + 1 + 1) [.int .i64 0, .slice none 0 0] ∧ Bx wr (w.heap.size + 1 + 1 + 1) [.int .i64 2, .slice (some ⟨sv, 0, none⟩) 1 kv]))) (fun i _ => 1 - (intOf i).toNat)
  case atStart => exact Or.inl ⟨rfl, Below.refl _ _⟩
  case round =>
    rcases hrel with ⟨rfl, HS⟩ | ⟨rfl, sv, kv, HS⟩
    · obtain ⟨x1, x2, _, _⟩ := HX.out wr HS.out
      have x10 := x1.1 1 _ rfl
      obtain ⟨t0, t1, t2⟩ := KT.out wr HS.out
      clear x1 x2
      go_wp2_with (go_at_call 58; refine (copyNumbers_any eo 2 ecx [a, b] wr (HE.out.1.later HS.out) (by decide)).mono ?_; rintro e w5 ⟨v5, rfl, hown, hb5⟩; have H5 : Hid (w5.ownsRow wr.heap.size 3 1 v5 2 [.int .i64 a, .int .i64 b] ∧ Below wr.heap.size wr w5) := ⟨hown, hb5⟩; clear hown hb5 x10 t0 t1 t2)
      obtain ⟨g, cp, hv5, hcp, hg, hbx⟩ := ints2 H5.out.1
      subst hv5
      have HC0 : Hid (Bx w5 g [.int .i64 a, .int .i64 b] ∧ Below W.heap.size W w5) := ⟨hbx, bnext HS.out H5.out.2⟩
      have HGG : Hid (W.heap.size ≤ g ∧ 2 ≤ cp) := ⟨Nat.le_trans HS.out.size hg, hcp⟩
      have hc2 : (2 : Int) ≤ (cp : Int) := by omega
      clear hbx hg hcp H5
      obtain ⟨wo, hwo⟩ : ∃ x, x = wr := ⟨_, rfl⟩
      subst hwo
      go_loopw [8] (fun i wv => ∃ k : Nat, k ≤ 2 ∧ i = .int .i64 (k : Int) ∧ Hid (Bx wv g [.int .i64 (if 0 < k then a + c else a), .int .i64 (if 1 < k then b + d else b)] ∧ Below W.heap.size W wv)) (fun i _ => 2 - (intOf i).toNat)
      case atStart => exact ⟨0, by omega, rfl, HC0.out⟩
      case round =>
        obtain ⟨k, hk, rfl, HI⟩ := hrel
        have za : IntKind.i64.wrap (a + c) = a + c := by rw [IntKind.wrap_i64]; have := HA.out; omega
        have zb : IntKind.i64.wrap (b + d) = b + d := by rw [IntKind.wrap_i64]; have := HA.out; omega
        by_cases h0 : k = 0
        · subst h0
          obtain ⟨f0, f1⟩ := KF.out wr HI.out.2
          obtain ⟨_, x2, _, _⟩ := HX.out wr HI.out.2
          have x20 := x2.1 0 _ rfl
          have y0 := HI.out.1.1 0 _ rfl
          have yf := HI.out.1.2
          clear x2
          go_wp2
          go_region
          go_wp2
          go_roundw
          case rel => exact ⟨1, by omega, by go_num, HI.out.1.set1 (j := 0) (v := .int .i64 (a + c)) rfl, (below_set HI.out.2 HGG.out.1).drew⟩
          case measure => simp [intOf]
        · by_cases h1 : k = 1
          · subst h1
            obtain ⟨f0, f1⟩ := KF.out wr HI.out.2
            obtain ⟨_, x2, _, _⟩ := HX.out wr HI.out.2
            have x20 := x2.1 0 _ rfl
            have y0 := HI.out.1.1 1 _ rfl
            have yf := HI.out.1.2
            clear x2
            go_wp2
            go_region
            go_wp2
            go_roundw
            case rel => exact ⟨2, by omega, by go_num, HI.out.1.set1 (j := 1) (v := .int .i64 (b + d)) rfl, (below_set HI.out.2 HGG.out.1).drew⟩
            case measure => simp [intOf]
          · obtain rfl : k = 2 := by omega
            replace HI : Hid (Bx wr g [.int .i64 (a + c), .int .i64 (b + d)] ∧ Below W.heap.size W wr) := HI
            have HJ : Hid (IntAt wr false ao la ca 1 ∧ IntAt wr false bo lb cb 1) := ⟨HE.out.2.1.later HI.out.2, HE.out.2.2.later HI.out.2⟩
            obtain ⟨v0, v1, vf⟩ := K5.out wr HI.out.2
            go_wp2
            refine wp_region_noPanic ?_
            refine wp_region_held_drew (S := fun w' => (w'.cell? ⟨w.heap.size, 0, none⟩ = some (.int .i64 2) ∧ w'.cell? ⟨w.heap.size, 1, none⟩ = some (.slice (some ⟨b9, o9, none⟩) 1 tc) ∧ w'.cell? ⟨w.heap.size + 1, 1, none⟩ = some (.bool false) ∧ w'.cell? ⟨w.heap.size + 1, 2, none⟩ = some (.slice bo lb cb) ∧ w'.cell? ⟨b9, o9, none⟩ = some (.slice eo 2 ecx) ∧ w'.cell? ⟨b9, o9 + 1, none⟩ = some (.bool false) ∧ w'.cell? ⟨b9, o9 + 2, none⟩ = some (.slice ao la ca))) (by kernel_rfl) (by (try dsimp only); exact KS.out _ HI.out.2.drew) (fun hHeld => ?_)
            refine wpAnyH_take (i := 0) (oi := Oper.mk (some 45) _ _ _ _ _) (v := ?_) rfl (by decide +kernel) (by decide +kernel) (by decide +kernel) (fun _ _ _ h => h) (Or.inl ⟨by rfl, ?_⟩) (by assumption) ?_
            rotate_left
            · (intro w hSw; (try dsimp only at hSw); go_simp <;> (try with_reducible rfl))
            (try simp only [Act.put, List.setIfInBounds_toArray, List.set_cons_zero, List.set_cons_succ])
            refine wpAnyH_take (i := 2) (oi := Oper.mk (some 47) _ _ _ _ _) (v := ?_) rfl (by decide +kernel) (by decide +kernel) (by decide +kernel) (fun _ _ _ h => h) (Or.inl ⟨by rfl, ?_⟩) (by assumption) ?_
            rotate_left
            · (intro w hSw; (try dsimp only at hSw); go_simp <;> (try with_reducible rfl))
            (try simp only [Act.put, List.setIfInBounds_toArray, List.set_cons_zero, List.set_cons_succ])
            refine wpAnyH_take (i := 3) (oi := Oper.mk (some 48) _ _ _ _ _) (v := ?_) rfl (by decide +kernel) (by decide +kernel) (by decide +kernel) (fun _ _ _ h => h) (Or.inl ⟨by rfl, ?_⟩) (by assumption) ?_
            rotate_left
            · (intro w hSw; (try dsimp only at hSw); go_simp <;> (try with_reducible rfl))
            (try simp only [Act.put, List.setIfInBounds_toArray, List.set_cons_zero, List.set_cons_succ])
            refine wpAnyH_take (i := 4) (oi := Oper.mk (some 49) _ _ _ _ _) (v := ?_) rfl (by decide +kernel) (by decide +kernel) (by decide +kernel) (fun _ _ _ h => h) (Or.inl ⟨by rfl, ?_⟩) (by assumption) ?_
            rotate_left
            · (intro w hSw; (try dsimp only at hSw); go_simp <;> (try with_reducible rfl))
            (try simp only [Act.put, List.setIfInBounds_toArray, List.set_cons_zero, List.set_cons_succ])
            refine wpAnyH_take (i := 5) (oi := Oper.mk (some 50) _ _ _ _ _) (v := ?_) rfl (by decide +kernel) (by decide +kernel) (by decide +kernel) (fun _ _ _ h => h) (Or.inl ⟨by rfl, ?_⟩) (by assumption) ?_
            rotate_left
            · (intro w hSw; (try dsimp only at hSw); go_simp <;> (try with_reducible rfl))
            (try simp only [Act.put, List.setIfInBounds_toArray, List.set_cons_zero, List.set_cons_succ])
            refine wpAnyH_take (i := 6) (oi := Oper.mk (some 51) _ _ _ _ _) (v := ?_) rfl (by decide +kernel) (by decide +kernel) (by decide +kernel) (fun _ _ _ h => h) (Or.inl ⟨by rfl, ?_⟩) (by assumption) ?_
            rotate_left
            · (intro w hSw; (try dsimp only at hSw); go_simp <;> (try with_reducible rfl))
            (try simp only [Act.put, List.setIfInBounds_toArray, List.set_cons_zero, List.set_cons_succ])
            refine wpAnyH_take (i := 7) (oi := Oper.mk (some 52) _ _ _ _ _) (v := ?_) rfl (by decide +kernel) (by decide +kernel) (by decide +kernel) (fun _ _ _ h => h) (Or.inl ⟨by rfl, ?_⟩) (by assumption) ?_
            rotate_left
            · (intro w hSw; (try dsimp only at hSw); go_simp <;> (try with_reducible rfl))
            (try simp only [Act.put, List.setIfInBounds_toArray, List.set_cons_zero, List.set_cons_succ])
            refine wpAnyH_take (i := 8) (oi := Oper.mk (some 53) _ _ _ _ _) (v := ?_) rfl (by decide +kernel) (by decide +kernel) (by decide +kernel) (fun _ _ _ h => h) (Or.inl ⟨by rfl, ?_⟩) (by assumption) ?_
            rotate_left
            · (intro w hSw; (try dsimp only at hSw); go_simp <;> (try with_reducible rfl))
            (try simp only [Act.put, List.setIfInBounds_toArray, List.set_cons_zero, List.set_cons_succ])
            refine wpAnyH_take (i := 9) (oi := Oper.mk (some 54) _ _ _ _ _) (v := ?_) rfl (by decide +kernel) (by decide +kernel) (by decide +kernel) (fun _ _ _ h => h) (Or.inl ⟨by rfl, ?_⟩) (by assumption) ?_
            rotate_left
            · (intro w hSw; (try dsimp only at hSw); go_simp <;> (try with_reducible rfl))
            (try simp only [Act.put, List.setIfInBounds_toArray, List.set_cons_zero, List.set_cons_succ])
            refine wpAnyH_take (i := 10) (oi := Oper.mk (some 55) _ _ _ _ _) (v := ?_) rfl (by decide +kernel) (by decide +kernel) (by decide +kernel) (fun _ _ _ h => h) (Or.inl ⟨by rfl, ?_⟩) (by assumption) ?_
            rotate_left
            · (intro w hSw; (try dsimp only at hSw); go_simp <;> (try with_reducible rfl))
            (try simp only [Act.put, List.setIfInBounds_toArray, List.set_cons_zero, List.set_cons_succ])
            refine wpAnyH_ready (rs := [1, 11]) (by decide +kernel) (by simp) ?_
            refine AllReadyH.cons (o := Oper.mk (some 46) _ _ _ _ _) rfl (fun K hK => ?_) (AllReadyH.cons (o := Oper.mk (some 56) _ _ _ _ _) rfl (fun K hK => ?_) AllReadyH.nil)
            · go_simp
              clear hHeld
              refine hK.out _ _ (by (try dsimp only); exact KS.out _ HI.out.2.drew) (fun hHeld => ?_)
              clear hK K
              (try simp only [Act.put, List.setIfInBounds_toArray, List.set_cons_zero, List.set_cons_succ])
              refine wpAnyH_ready (rs := [11]) (by decide +kernel) (by simp) ?_
              refine AllReadyH.cons (o := Oper.mk (some 56) _ _ _ _ _) rfl (fun K hK => ?_) AllReadyH.nil
              go_simp
              (go_at_call 59; refine (rtimes_any false false ao bo la ca lb cb 1 1 _ (HJ.out.1.later (Below.refl _ _).drew) (HJ.out.2.later (Below.refl _ _).drew) HLN.out.1 HLN.out.2).mono ?_; rintro e w6 ⟨n6, o6, l6, c6, rfl, hs6, ho6, hb6⟩; have H6 : Hid (Below W.heap.size W w6 ∧ Bx w6 g [.int .i64 (a + c), .int .i64 (b + d)] ∧ RowAt w6 .u64 o6 l6 c6 [1]) := ⟨bnext HI.out.2.drew hb6, HI.out.1.later (bnext (Below.refl _ _).drew hb6) HI.out.1.lt, by rw [← mag1]; exact ho6.row⟩; obtain rfl : n6 = false := hs6; clear ho6 hb6; obtain ⟨p0, p1, pf⟩ := K5.out _ H6.out.1; have plt := cell_lt p1)
              (try go_wp2_with fail)
              clear hHeld
              refine hK.out _ _ (by (try dsimp only); exact KS.out _ H6.out.1) (fun hHeld => ?_)
              clear hK K
              (try simp only [Act.put, List.setIfInBounds_toArray, List.set_cons_zero, List.set_cons_succ])
              refine wpAnyH_take (i := 12) (oi := Oper.mk (some 57) _ _ _ _ _) (v := ?_) rfl (by decide +kernel) (by decide +kernel) (by decide +kernel) (fun _ _ _ h => h) (Or.inl ⟨by rfl, ?_⟩) (by assumption) ?_
              rotate_left
              · (intro w hSw; (try dsimp only at hSw); go_simp <;> (try with_reducible rfl))
              (try simp only [Act.put, List.setIfInBounds_toArray, List.set_cons_zero, List.set_cons_succ])
              refine wpAnyH_ready (rs := [13]) (by decide +kernel) (by simp) ?_
              refine AllReadyH.cons (o := Oper.mk (some 58) _ _ _ _ _) rfl (fun K hK => ?_) AllReadyH.nil
              go_simp
              clear hHeld
              refine hK.out _ _ (by (try dsimp only); exact KS.out _ (bnext H6.out.1 ((Below.refl _ _).alloc (Nat.le_refl _) _))) (fun hHeld => ?_)
              clear hK K
              (try simp only [Act.put, List.setIfInBounds_toArray, List.set_cons_zero, List.set_cons_succ])
              refine wpAnyH_ready (rs := [14]) (by decide +kernel) (by simp) ?_
              refine AllReadyH.cons (o := Oper.mk (some 59) _ _ _ _ _) rfl (fun K hK => ?_) AllReadyH.nil
              (have hA6 : Below w6.heap.size w6 (w6.alloc (.cells #[.slice (some ⟨g, 0, none⟩) 2 cp, .bool false, .slice o6 l6 c6] 56)) := (Below.refl _ _).alloc (Nat.le_refl _) _; have hb6 := bnext H6.out.1 hA6; refine wp_append_own _ _ _ 23 rfl w6.heap.size 56 i0 _ 3 56 Tryz.underlying23 hi hz0 hz1 hz2 rfl (by decide) _ 0 [] rfl (World.ownsRow_nil _ _ _ _) ⟨w6.heap.size, 0, none⟩ 1 1 [.slice (some ⟨g, 0, none⟩) 2 cp, .bool false, .slice o6 l6 c6] rfl rfl (World.news_of_block (cs := #[.slice (some ⟨g, 0, none⟩) 2 cp, .bool false, .slice o6 l6 c6]) (t := 56) (fr := (0, 0)) (heap_alloc_new w6 _)) (by simp [Value.oneCell']) h63.out (by decide) hA6.size ?_; intro v7 w7 hown7 hgrow hnil; have hb7 : Below w6.heap.size w6 w7 := bnext hA6 (grown_below hgrow); obtain ⟨sN, kN, hv7, hsN, t0, t1, t2⟩ := term_of_own hown7; subst hv7; have H7 : Hid (Below W.heap.size W w7 ∧ (w6.heap.size ≤ sN ∧ w7.cell? ⟨sN, 0, none⟩ = some (.slice (some ⟨g, 0, none⟩) 2 cp) ∧ w7.cell? ⟨sN, 1, none⟩ = some (.bool false) ∧ w7.cell? ⟨sN, 2, none⟩ = some (.slice o6 l6 c6)) ∧ Bx w7 g [.int .i64 (a + c), .int .i64 (b + d)] ∧ RowAt w7 .u64 o6 l6 c6 [1]) := ⟨bnext H6.out.1 hb7, ⟨hsN, t0, t1, t2⟩, H6.out.2.1.later hb7 H6.out.2.1.lt, H6.out.2.2.later hb7⟩; clear hsN t0 t1 t2 hb7 hown7 hgrow hnil; obtain ⟨p0, p1, pf⟩ := K5.out _ H7.out.1)
              clear hHeld
              refine hK.out _ _ (by (try dsimp only); exact KS.out _ H7.out.1) (fun hHeld => ?_)
              clear hK K
              (try simp only [Act.put, List.setIfInBounds_toArray, List.set_cons_zero, List.set_cons_succ])
              refine wpAnyH_take (i := 15) (oi := Oper.mk (some 60) _ _ _ _ _) (v := ?_) rfl (by decide +kernel) (by decide +kernel) (by decide +kernel) (fun _ _ _ h => h) (Or.inl ⟨by rfl, ?_⟩) (by assumption) ?_
              rotate_left
              · (intro w hSw; (try dsimp only at hSw); go_simp <;> (try with_reducible rfl))
              (try simp only [Act.put, List.setIfInBounds_toArray, List.set_cons_zero, List.set_cons_succ])
              refine wpAnyH_ready (rs := [16]) (by decide +kernel) (by simp) ?_
              refine AllReadyH.cons (o := Oper.mk none _ _ _ _ _) rfl (fun K hK => ?_) AllReadyH.nil
              go_simp
              clear hHeld
              refine hK.out _ _ (by (try dsimp only); exact K2.out _ _ (KS.out _ H7.out.1)) (fun hHeld => ?_)
              clear hK K
              (try simp only [Act.put, List.setIfInBounds_toArray, List.set_cons_zero, List.set_cons_succ])
              refine wpAnyH_done (by decide +kernel) ?_ _
              refine NoPanic.normal ?_
              clear hHeld
              go_wp2
              go_roundw
              case rel =>
                obtain ⟨hsN, t0, t1, t2⟩ := H7.out.2.1
                obtain ⟨v7, hv7⟩ : ∃ v7, v7 = Value.slice (some ⟨sN, 0, none⟩) 1 kN := ⟨_, rfl⟩
                obtain ⟨hX1, _, hX3, hX4⟩ := HX.out w7 H7.out.1
                have hgW := HGG.out.1
                have hw6 := H6.out.1.size
                have hWs := HB.out.2
                have hT : TermV w7 v7 (a + c) (b + d) := ⟨sN, kN, g, cp, o6, l6, c6, hv7, HGG.out.2, H7.out.2.2.1.1 0 _ rfl, H7.out.2.2.1.1 1 _ rfl, t0, t1, t2, H7.out.2.2.2⟩
                have hsg : ∀ s c9 g9 ec, v7 = .slice (some ⟨s, 0, none⟩) 1 c9 → w7.cell? ⟨s, 0, none⟩ = some (.slice (some ⟨g9, 0, none⟩) 2 ec) → s = sN ∧ g9 = g := fun s c9 g9 ec e1 e2 => by
                  rw [hv7] at e1
                  cases e1
                  rw [t0] at e2
                  cases e2
                  exact ⟨rfl, rfl⟩
                rw [hv7] at hT
                refine Or.inr ⟨by go_num, sN, kN, hT.store (fun s c9 g9 ec e1 e2 => ?_) p1 (fun z e => by cases e), fun s c9 g9 ec e1 e2 => ?_, below_set (bnext HB.out.1 H7.out.1) (by omega), hX1.off (ws := [.slice (some ⟨sN, 0, none⟩) 1 kN]) (by omega) 1, hX3.off (ws := [.slice (some ⟨sN, 0, none⟩) 1 kN]) (by omega) 1, hX4.set1 (j := 1) (v := .slice (some ⟨sN, 0, none⟩) 1 kN) rfl⟩
                · obtain ⟨rfl, rfl⟩ := hsg s c9 g9 ec (hv7.trans e1) e2
                  exact ⟨by omega, by omega⟩
                · have e3 : s = sN := by cases e1; rfl
                  rw [cell_off (show s ≠ w.heap.size + 1 + 1 + 1 by omega)] at e2
                  obtain ⟨rfl, rfl⟩ := hsg s c9 g9 ec (hv7.trans e1) e2
                  exact ⟨by omega, by omega⟩
              case measure => simp [intOf]
            · go_simp
              (go_at_call 59; refine (rtimes_any false false ao bo la ca lb cb 1 1 _ (HJ.out.1.later (Below.refl _ _).drew) (HJ.out.2.later (Below.refl _ _).drew) HLN.out.1 HLN.out.2).mono ?_; rintro e w6 ⟨n6, o6, l6, c6, rfl, hs6, ho6, hb6⟩; have H6 : Hid (Below W.heap.size W w6 ∧ Bx w6 g [.int .i64 (a + c), .int .i64 (b + d)] ∧ RowAt w6 .u64 o6 l6 c6 [1]) := ⟨bnext HI.out.2.drew hb6, HI.out.1.later (bnext (Below.refl _ _).drew hb6) HI.out.1.lt, by rw [← mag1]; exact ho6.row⟩; obtain rfl : n6 = false := hs6; clear ho6 hb6; obtain ⟨p0, p1, pf⟩ := K5.out _ H6.out.1; have plt := cell_lt p1)
              (try go_wp2_with fail)
              clear hHeld
              refine hK.out _ _ (by (try dsimp only); exact KS.out _ H6.out.1) (fun hHeld => ?_)
              clear hK K
              (try simp only [Act.put, List.setIfInBounds_toArray, List.set_cons_zero, List.set_cons_succ])
              refine wpAnyH_take (i := 12) (oi := Oper.mk (some 57) _ _ _ _ _) (v := ?_) rfl (by decide +kernel) (by decide +kernel) (by decide +kernel) (fun _ _ _ h => h) (Or.inl ⟨by rfl, ?_⟩) (by assumption) ?_
              rotate_left
              · (intro w hSw; (try dsimp only at hSw); go_simp <;> (try with_reducible rfl))
              (try simp only [Act.put, List.setIfInBounds_toArray, List.set_cons_zero, List.set_cons_succ])
              refine wpAnyH_ready (rs := [1, 13]) (by decide +kernel) (by simp) ?_
              refine AllReadyH.cons (o := Oper.mk (some 46) _ _ _ _ _) rfl (fun K hK => ?_) (AllReadyH.cons (o := Oper.mk (some 58) _ _ _ _ _) rfl (fun K hK => ?_) AllReadyH.nil)
              · go_simp
                clear hHeld
                refine hK.out _ _ (by (try dsimp only); exact KS.out _ H6.out.1) (fun hHeld => ?_)
                clear hK K
                (try simp only [Act.put, List.setIfInBounds_toArray, List.set_cons_zero, List.set_cons_succ])
                refine wpAnyH_ready (rs := [13]) (by decide +kernel) (by simp) ?_
                refine AllReadyH.cons (o := Oper.mk (some 58) _ _ _ _ _) rfl (fun K hK => ?_) AllReadyH.nil
                go_simp
                clear hHeld
                refine hK.out _ _ (by (try dsimp only); exact KS.out _ (bnext H6.out.1 ((Below.refl _ _).alloc (Nat.le_refl _) _))) (fun hHeld => ?_)
                clear hK K
                (try simp only [Act.put, List.setIfInBounds_toArray, List.set_cons_zero, List.set_cons_succ])
                refine wpAnyH_ready (rs := [14]) (by decide +kernel) (by simp) ?_
                refine AllReadyH.cons (o := Oper.mk (some 59) _ _ _ _ _) rfl (fun K hK => ?_) AllReadyH.nil
                (have hA6 : Below w6.heap.size w6 (w6.alloc (.cells #[.slice (some ⟨g, 0, none⟩) 2 cp, .bool false, .slice o6 l6 c6] 56)) := (Below.refl _ _).alloc (Nat.le_refl _) _; have hb6 := bnext H6.out.1 hA6; refine wp_append_own _ _ _ 23 rfl w6.heap.size 56 i0 _ 3 56 Tryz.underlying23 hi hz0 hz1 hz2 rfl (by decide) _ 0 [] rfl (World.ownsRow_nil _ _ _ _) ⟨w6.heap.size, 0, none⟩ 1 1 [.slice (some ⟨g, 0, none⟩) 2 cp, .bool false, .slice o6 l6 c6] rfl rfl (World.news_of_block (cs := #[.slice (some ⟨g, 0, none⟩) 2 cp, .bool false, .slice o6 l6 c6]) (t := 56) (fr := (0, 0)) (heap_alloc_new w6 _)) (by simp [Value.oneCell']) h63.out (by decide) hA6.size ?_; intro v7 w7 hown7 hgrow hnil; have hb7 : Below w6.heap.size w6 w7 := bnext hA6 (grown_below hgrow); obtain ⟨sN, kN, hv7, hsN, t0, t1, t2⟩ := term_of_own hown7; subst hv7; have H7 : Hid (Below W.heap.size W w7 ∧ (w6.heap.size ≤ sN ∧ w7.cell? ⟨sN, 0, none⟩ = some (.slice (some ⟨g, 0, none⟩) 2 cp) ∧ w7.cell? ⟨sN, 1, none⟩ = some (.bool false) ∧ w7.cell? ⟨sN, 2, none⟩ = some (.slice o6 l6 c6)) ∧ Bx w7 g [.int .i64 (a + c), .int .i64 (b + d)] ∧ RowAt w7 .u64 o6 l6 c6 [1]) := ⟨bnext H6.out.1 hb7, ⟨hsN, t0, t1, t2⟩, H6.out.2.1.later hb7 H6.out.2.1.lt, H6.out.2.2.later hb7⟩; clear hsN t0 t1 t2 hb7 hown7 hgrow hnil; obtain ⟨p0, p1, pf⟩ := K5.out _ H7.out.1)
                clear hHeld
                refine hK.out _ _ (by (try dsimp only); exact KS.out _ H7.out.1) (fun hHeld => ?_)
                clear hK K
                (try simp only [Act.put, List.setIfInBounds_toArray, List.set_cons_zero, List.set_cons_succ])
                refine wpAnyH_take (i := 15) (oi := Oper.mk (some 60) _ _ _ _ _) (v := ?_) rfl (by decide +kernel) (by decide +kernel) (by decide +kernel) (fun _ _ _ h => h) (Or.inl ⟨by rfl, ?_⟩) (by assumption) ?_
                rotate_left
                · (intro w hSw; (try dsimp only at hSw); go_simp <;> (try with_reducible rfl))
                (try simp only [Act.put, List.setIfInBounds_toArray, List.set_cons_zero, List.set_cons_succ])
                refine wpAnyH_ready (rs := [16]) (by decide +kernel) (by simp) ?_
                refine AllReadyH.cons (o := Oper.mk none _ _ _ _ _) rfl (fun K hK => ?_) AllReadyH.nil
                go_simp
                clear hHeld
                refine hK.out _ _ (by (try dsimp only); exact K2.out _ _ (KS.out _ H7.out.1)) (fun hHeld => ?_)
                clear hK K
                (try simp only [Act.put, List.setIfInBounds_toArray, List.set_cons_zero, List.set_cons_succ])
                refine wpAnyH_done (by decide +kernel) ?_ _
                refine NoPanic.normal ?_
                clear hHeld
                go_wp2
                go_roundw
                case rel =>
                  obtain ⟨hsN, t0, t1, t2⟩ := H7.out.2.1
                  obtain ⟨v7, hv7⟩ : ∃ v7, v7 = Value.slice (some ⟨sN, 0, none⟩) 1 kN := ⟨_, rfl⟩
                  obtain ⟨hX1, _, hX3, hX4⟩ := HX.out w7 H7.out.1
                  have hgW := HGG.out.1
                  have hw6 := H6.out.1.size
                  have hWs := HB.out.2
                  have hT : TermV w7 v7 (a + c) (b + d) := ⟨sN, kN, g, cp, o6, l6, c6, hv7, HGG.out.2, H7.out.2.2.1.1 0 _ rfl, H7.out.2.2.1.1 1 _ rfl, t0, t1, t2, H7.out.2.2.2⟩
                  have hsg : ∀ s c9 g9 ec, v7 = .slice (some ⟨s, 0, none⟩) 1 c9 → w7.cell? ⟨s, 0, none⟩ = some (.slice (some ⟨g9, 0, none⟩) 2 ec) → s = sN ∧ g9 = g := fun s c9 g9 ec e1 e2 => by
                    rw [hv7] at e1
                    cases e1
                    rw [t0] at e2
                    cases e2
                    exact ⟨rfl, rfl⟩
                  rw [hv7] at hT
                  refine Or.inr ⟨by go_num, sN, kN, hT.store (fun s c9 g9 ec e1 e2 => ?_) p1 (fun z e => by cases e), fun s c9 g9 ec e1 e2 => ?_, below_set (bnext HB.out.1 H7.out.1) (by omega), hX1.off (ws := [.slice (some ⟨sN, 0, none⟩) 1 kN]) (by omega) 1, hX3.off (ws := [.slice (some ⟨sN, 0, none⟩) 1 kN]) (by omega) 1, hX4.set1 (j := 1) (v := .slice (some ⟨sN, 0, none⟩) 1 kN) rfl⟩
                  · obtain ⟨rfl, rfl⟩ := hsg s c9 g9 ec (hv7.trans e1) e2
                    exact ⟨by omega, by omega⟩
                  · have e3 : s = sN := by cases e1; rfl
                    rw [cell_off (show s ≠ w.heap.size + 1 + 1 + 1 by omega)] at e2
                    obtain ⟨rfl, rfl⟩ := hsg s c9 g9 ec (hv7.trans e1) e2
                    exact ⟨by omega, by omega⟩
                case measure => simp [intOf]
              · go_simp
                clear hHeld
                refine hK.out _ _ (by (try dsimp only); exact KS.out _ (bnext H6.out.1 ((Below.refl _ _).alloc (Nat.le_refl _) _))) (fun hHeld => ?_)
                clear hK K
                (try simp only [Act.put, List.setIfInBounds_toArray, List.set_cons_zero, List.set_cons_succ])
                refine wpAnyH_ready (rs := [1]) (by decide +kernel) (by simp) ?_
                refine AllReadyH.cons (o := Oper.mk (some 46) _ _ _ _ _) rfl (fun K hK => ?_) AllReadyH.nil
                go_simp
                clear hHeld
                refine hK.out _ _ (by (try dsimp only); exact KS.out _ (bnext H6.out.1 ((Below.refl _ _).alloc (Nat.le_refl _) _))) (fun hHeld => ?_)
                clear hK K
                (try simp only [Act.put, List.setIfInBounds_toArray, List.set_cons_zero, List.set_cons_succ])
                refine wpAnyH_ready (rs := [14]) (by decide +kernel) (by simp) ?_
                refine AllReadyH.cons (o := Oper.mk (some 59) _ _ _ _ _) rfl (fun K hK => ?_) AllReadyH.nil
                (have hA6 : Below w6.heap.size w6 (w6.alloc (.cells #[.slice (some ⟨g, 0, none⟩) 2 cp, .bool false, .slice o6 l6 c6] 56)) := (Below.refl _ _).alloc (Nat.le_refl _) _; have hb6 := bnext H6.out.1 hA6; refine wp_append_own _ _ _ 23 rfl w6.heap.size 56 i0 _ 3 56 Tryz.underlying23 hi hz0 hz1 hz2 rfl (by decide) _ 0 [] rfl (World.ownsRow_nil _ _ _ _) ⟨w6.heap.size, 0, none⟩ 1 1 [.slice (some ⟨g, 0, none⟩) 2 cp, .bool false, .slice o6 l6 c6] rfl rfl (World.news_of_block (cs := #[.slice (some ⟨g, 0, none⟩) 2 cp, .bool false, .slice o6 l6 c6]) (t := 56) (fr := (0, 0)) (heap_alloc_new w6 _)) (by simp [Value.oneCell']) h63.out (by decide) hA6.size ?_; intro v7 w7 hown7 hgrow hnil; have hb7 : Below w6.heap.size w6 w7 := bnext hA6 (grown_below hgrow); obtain ⟨sN, kN, hv7, hsN, t0, t1, t2⟩ := term_of_own hown7; subst hv7; have H7 : Hid (Below W.heap.size W w7 ∧ (w6.heap.size ≤ sN ∧ w7.cell? ⟨sN, 0, none⟩ = some (.slice (some ⟨g, 0, none⟩) 2 cp) ∧ w7.cell? ⟨sN, 1, none⟩ = some (.bool false) ∧ w7.cell? ⟨sN, 2, none⟩ = some (.slice o6 l6 c6)) ∧ Bx w7 g [.int .i64 (a + c), .int .i64 (b + d)] ∧ RowAt w7 .u64 o6 l6 c6 [1]) := ⟨bnext H6.out.1 hb7, ⟨hsN, t0, t1, t2⟩, H6.out.2.1.later hb7 H6.out.2.1.lt, H6.out.2.2.later hb7⟩; clear hsN t0 t1 t2 hb7 hown7 hgrow hnil; obtain ⟨p0, p1, pf⟩ := K5.out _ H7.out.1)
                clear hHeld
                refine hK.out _ _ (by (try dsimp only); exact KS.out _ H7.out.1) (fun hHeld => ?_)
                clear hK K
                (try simp only [Act.put, List.setIfInBounds_toArray, List.set_cons_zero, List.set_cons_succ])
                refine wpAnyH_take (i := 15) (oi := Oper.mk (some 60) _ _ _ _ _) (v := ?_) rfl (by decide +kernel) (by decide +kernel) (by decide +kernel) (fun _ _ _ h => h) (Or.inl ⟨by rfl, ?_⟩) (by assumption) ?_
                rotate_left
                · (intro w hSw; (try dsimp only at hSw); go_simp <;> (try with_reducible rfl))
                (try simp only [Act.put, List.setIfInBounds_toArray, List.set_cons_zero, List.set_cons_succ])
                refine wpAnyH_ready (rs := [16]) (by decide +kernel) (by simp) ?_
                refine AllReadyH.cons (o := Oper.mk none _ _ _ _ _) rfl (fun K hK => ?_) AllReadyH.nil
                go_simp
                clear hHeld
                refine hK.out _ _ (by (try dsimp only); exact K2.out _ _ (KS.out _ H7.out.1)) (fun hHeld => ?_)
                clear hK K
                (try simp only [Act.put, List.setIfInBounds_toArray, List.set_cons_zero, List.set_cons_succ])
                refine wpAnyH_done (by decide +kernel) ?_ _
                refine NoPanic.normal ?_
                clear hHeld
                go_wp2
                go_roundw
                case rel =>
                  obtain ⟨hsN, t0, t1, t2⟩ := H7.out.2.1
                  obtain ⟨v7, hv7⟩ : ∃ v7, v7 = Value.slice (some ⟨sN, 0, none⟩) 1 kN := ⟨_, rfl⟩
                  obtain ⟨hX1, _, hX3, hX4⟩ := HX.out w7 H7.out.1
                  have hgW := HGG.out.1
                  have hw6 := H6.out.1.size
                  have hWs := HB.out.2
                  have hT : TermV w7 v7 (a + c) (b + d) := ⟨sN, kN, g, cp, o6, l6, c6, hv7, HGG.out.2, H7.out.2.2.1.1 0 _ rfl, H7.out.2.2.1.1 1 _ rfl, t0, t1, t2, H7.out.2.2.2⟩
                  have hsg : ∀ s c9 g9 ec, v7 = .slice (some ⟨s, 0, none⟩) 1 c9 → w7.cell? ⟨s, 0, none⟩ = some (.slice (some ⟨g9, 0, none⟩) 2 ec) → s = sN ∧ g9 = g := fun s c9 g9 ec e1 e2 => by
                    rw [hv7] at e1
                    cases e1
                    rw [t0] at e2
                    cases e2
                    exact ⟨rfl, rfl⟩
                  rw [hv7] at hT
                  refine Or.inr ⟨by go_num, sN, kN, hT.store (fun s c9 g9 ec e1 e2 => ?_) p1 (fun z e => by cases e), fun s c9 g9 ec e1 e2 => ?_, below_set (bnext HB.out.1 H7.out.1) (by omega), hX1.off (ws := [.slice (some ⟨sN, 0, none⟩) 1 kN]) (by omega) 1, hX3.off (ws := [.slice (some ⟨sN, 0, none⟩) 1 kN]) (by omega) 1, hX4.set1 (j := 1) (v := .slice (some ⟨sN, 0, none⟩) 1 kN) rfl⟩
                  · obtain ⟨rfl, rfl⟩ := hsg s c9 g9 ec (hv7.trans e1) e2
                    exact ⟨by omega, by omega⟩
                  · have e3 : s = sN := by cases e1; rfl
                    rw [cell_off (show s ≠ w.heap.size + 1 + 1 + 1 by omega)] at e2
                    obtain ⟨rfl, rfl⟩ := hsg s c9 g9 ec (hv7.trans e1) e2
                    exact ⟨by omega, by omega⟩
                case measure => simp [intOf]
    · obtain ⟨hT, hap, hbel, x2, x4, x5⟩ := HS.out
      have x21 := x2.1 1 _ rfl
      have x50 := x5.1 0 _ rfl
      have x51 := x5.1 1 _ rfl
      have x40 := x4.1 0 _ rfl
      have x41 := x4.1 1 _ rfl
      have x4f := x4.2
      have HN : Hid (TermV wr (.slice (some ⟨sv, 0, none⟩) 1 kv) (a + c) (b + d) ∧ (∀ s cp g ec, Value.slice (some ⟨sv, 0, none⟩) 1 kv = .slice (some ⟨s, 0, none⟩) 1 cp → wr.cell? ⟨s, 0, none⟩ = some (.slice (some ⟨g, 0, none⟩) 2 ec) → w.heap.size + 4 ≤ s ∧ w.heap.size + 4 ≤ g) ∧ Below w.heap.size w wr) := ⟨hT, hap, hbel⟩
      clear hT hap hbel x2 x4 x5 HS
      go_wp2
      have hT2 : TermV (wr.setCell ⟨w.heap.size + 1 + 1, 0, none⟩ (.int .i64 2)) (.slice (some ⟨sv, 0, none⟩) 1 kv) (a + c) (b + d) := HN.out.1.store (fun s cp g ec e1 e2 => by have := HN.out.2.1 s cp g ec e1 e2; omega) x40 (fun z e => by cases e)
      have q1 : (wr.setCell ⟨w.heap.size + 1 + 1, 0, none⟩ (.int .i64 2)).cell? ⟨w.heap.size + 1 + 1, 1, none⟩ = some (.slice none 0 0) := by simp [go_sem, x40, x41]
      have hT3 : TermV ((wr.setCell ⟨w.heap.size + 1 + 1, 0, none⟩ (.int .i64 2)).setCell ⟨w.heap.size + 1 + 1, 1, none⟩ (.slice (some ⟨sv, 0, none⟩) 1 kv)) (.slice (some ⟨sv, 0, none⟩) 1 kv) (a + c) (b + d) := by
        refine hT2.store (fun s cp g ec e1 e2 => ?_) q1 (fun z e => by cases e)
        by_cases hs : s = w.heap.size + 1 + 1
        · obtain ⟨s9, cp9, g9, ec9, ao9, la9, ca9, h1, h2, c0, c1, s0, s1, s2, hr⟩ := HN.out.1
          cases h1
          cases e1
          exact absurd (HN.out.2.1 _ _ _ _ rfl s0).1 (by omega)
        · rw [cell_off hs] at e2
          have := HN.out.2.1 s cp g ec e1 e2
          exact ⟨by omega, by omega⟩
      have hF : Far w.heap.size ((wr.setCell ⟨w.heap.size + 1 + 1, 0, none⟩ (.int .i64 2)).setCell ⟨w.heap.size + 1 + 1, 1, none⟩ (.slice (some ⟨sv, 0, none⟩) 1 kv)) (.slice (some ⟨sv, 0, none⟩) 1 kv) := fun s cp g ec e1 e2 => by
        obtain ⟨s9, cp9, g9, ec9, ao9, la9, ca9, h1, h2, c0, c1, s0, s1, s2, hr⟩ := HN.out.1
        cases h1
        cases e1
        have h9 := HN.out.2.1 _ _ _ _ rfl s0
        rw [cell_off (by omega), cell_off (by omega), s0] at e2
        cases e2
        exact ⟨by omega, by omega⟩
      exact bodyPost_ret (v := .agg #[.int .i64 2, .slice (some ⟨sv, 0, none⟩) 1 kv]) (by simp [results, Tryz.results36, go_sem, x40, x41, x4f]) rfl
        ⟨_, rfl, hT3, hF, below_store HN.out.2.2 (by omega) _ _⟩
end Go.Proofs.YtiemgadnnnhmkaaGreat
