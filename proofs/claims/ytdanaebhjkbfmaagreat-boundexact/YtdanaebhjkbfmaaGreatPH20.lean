/-
  Walks: copies and equality of lists, answers written over.
-/
import Derived.Test.YtdanaebhjkbfmaaGreatPH05
import Derived.Test.YtdanaebhjkbfmaaGreatPH13
import Derived.Test.YtdanaebhjkbfmaaGreatPH15
import Derived.ProofKit
import Derived.OpenShut
import Derived.Deep.Slices
import Derived.Deep.Strs
namespace Go.Proofs.YtdanaebhjkbfmaaGreat
open Go.RowKit
set_option linter.unusedVariables false
set_option linter.unusedSimpArgs false
theorem add_none2 (g j : Nat) : (⟨g, 0, none⟩ : Addr).add j = ⟨g, j, none⟩ := by simp [Addr.add]; intro h; exact h.symm
theorem take_push {rs : List (Bool × List Int)} {k : Nat} (h : k < rs.length) : rs.take (k + 1) = rs.take k ++ [rv rs k] := by
  rw [rv_eq h, List.take_add_one, List.getElem?_eq_getElem h]; rfl
set_option maxRecDepth 100000 in
set_option maxHeartbeats 2000000 in
theorem copyInts_any (ao : Option Addr) (len cap : Nat) (rs : List (Bool × List Int)) (w : World) (hr : RawsAt w ao len cap rs) (hl : len ≤ 1000) (hlim : ∀ t, (rv rs t).2.length ≤ 100000) :
    Calls Tryz.prog 26 #[.slice ao len cap] w fun e w' => ∃ ao' cap', e = .returned (.slice ao' len cap') ∧ RawsAt w' ao' len cap' rs ∧ Below w.heap.size w w' := by
  have HR : Hid (RawsAt w ao len cap rs ∧ (∀ t, (rv rs t).2.length ≤ 100000) ∧ len = rs.length) := ⟨hr, hlim, hr.hlen⟩
  have HWD : Hid (∀ r ∈ rs, Wd 18446744073709551616 r.2) := fun r hr' => by
    obtain ⟨t, ht, rfl⟩ := List.getElem_of_mem hr'
    obtain ⟨_, _, _, _, _, _, _, _, _, _, _, h⟩ := hr.at (show t < len by rw [hr.hlen]; exact ht)
    rw [rv_eq ht] at h; exact h
  clear hr hlim
  obtain ⟨i0, hi, hz0, hz1, hz2⟩ := info_parts infoInt
  go_enter Tryz.func26, Tryz.ntmps26
  go_wp2
  go_loopw [3, 4] (fun v i wr => ∃ k : Nat, k ≤ len ∧ i = .int .i64 (k : Int) ∧ Below w.heap.size w wr ∧ LRow w.heap.size wr v (rs.take k)) (fun _ i _ => len - (intOf i).toNat)
  case atStart => exact ⟨0, Nat.zero_le _, rfl, Below.refl _ _, LRow.nil _ _⟩
  case round =>
    obtain ⟨k, hk, rfl, hbel, hL⟩ := hrel
    have HLR := hL
    obtain ⟨xs, hown, hx⟩ := hL
    have hkl : (rs.take k).length = k := by rw [List.length_take, ← HR.out.2.2]; omega
    rw [hkl] at hown
    obtain ⟨vo, vc, rfl, _⟩ := lrow_cells hown
    have HX : Hid (wr.ownsRow w.heap.size 28 2 (.slice vo k vc) k xs ∧ Elems w.heap.size wr xs (rs.take k) ∧ LRow w.heap.size wr (.slice vo k vc) (rs.take k) ∧ (rs.take k).length = k) := ⟨hown, hx, HLR, hkl⟩
    clear hown hx HLR hkl
    by_cases hlt : k < len
    · have h63 : Hid (k + 1 ≤ maxLen) := by show _ ≤ _; unfold maxLen; omega
      have hby : Hid ((k + 1) * 32 ≤ 140737488355328) := by show _ ≤ _; omega
      obtain ⟨b, off, n1, ao1, l1, c1, rfl, h0, h1, hn1, hrow, hw⟩ := (HR.out.1.later hbel).at hlt
      have HI : Hid (RowAt wr .u64 ao1 l1 c1 (rv rs k).2 ∧ n1 = (rv rs k).1) := ⟨hrow, hn1⟩
      have hl1 : l1 ≤ 100000 := by rw [hrow.hlen]; exact HR.out.2.1 k
      have z1 : (0 : Int) ≤ (k : Int) := by omega
      have z2 : (k : Int) < (len : Int) := by omega
      clear hn1 hrow hw
      go_wp2_with (first
        | (at_builtin; refine wpList_append_own _ rfl _ _ 23 rfl w.heap.size 28 i0 (.agg #[.bool false, .slice none 0 0]) 2 32 Tryz.underlying23 hi hz0 hz1 hz2 rfl (by decide) _ _ _ rfl (owns_later2 HX.out.1 hA3) ⟨w3.heap.size, 0, none⟩ 1 1 [.bool n1, .slice ao3 l1 c3] rfl rfl (World.news_of_block (cs := #[.bool n1, .slice ao3 l1 c3]) (t := 28) (fr := (0, 0)) (heap_alloc_new w3 _)) (by simp [Value.oneCell']) h63.out hby.out (Nat.le_trans hbel.size hA3.size) ?_; intro v4 w4 hown4 hgrow hnil)
        | (go_at_call 57; refine (copyInt_own n1 ao1 l1 c1 (rv rs k).2 _ HI.out.1 (by omega)).mono ?_; rintro e w3 ⟨ao3, c3, rfl, ho3, hb3⟩; have H3 : Hid (Own w.heap.size w3 .u64 73 ao3 l1 c3 (rv rs k).2) := ho3.mono hbel.size; have hA3 : Below wr.heap.size wr (w3.alloc (.cells #[.bool n1, .slice ao3 l1 c3] 28)) := bnext hb3 ((Below.refl _ _).alloc (Nat.le_refl _) _); clear ho3 hb3))
      go_roundw
      case rel =>
        refine ⟨k + 1, by omega, by go_num, grown_owns2 (bnext hbel hA3) (Nat.le_trans hbel.size hA3.size) (owns_later2 HX.out.1 hA3) hgrow, ?_⟩
        rw [take_push (by rw [← HR.out.2.2]; exact hlt)]
        have e : rv rs k = (n1, (rv rs k).2) := by rw [HI.out.2]
        rw [e]
        exact lrow_push HX.out.2.2.2.symm (owns_later2 HX.out.1 hA3) (HX.out.2.1.later hA3) (own_alloc H3.out) hown4 hgrow
      case measure => simp [intOf]; omega
    · obtain rfl : k = len := by omega
      have HT : Hid (LRow w.heap.size wr (.slice vo k vc) rs) := by have := HX.out.2.2.1; rw [HR.out.2.2, List.take_length] at this; rw [HR.out.2.2]; exact this
      go_wp2
      go_ret
      obtain ⟨ao', cap', hv, hraw⟩ := HT.out.raws HWD.out
      rw [← HR.out.2.2] at hv hraw
      simp only [Value.slice.injEq] at hv
      obtain ⟨rfl, _, rfl⟩ := hv
      exact ⟨_, _, rfl, hraw, hbel⟩
set_option maxRecDepth 100000 in
set_option maxHeartbeats 2000000 in
theorem copyPoly_any (ao : Option Addr) (len cap : Nat) (rs : List (Bool × List Int)) (w : World) (hr : RawsAt w ao len cap rs) (hl : len ≤ 1000) (hlim : ∀ t, (rv rs t).2.length ≤ 100000) :
    Calls Tryz.prog 5 #[.slice ao len cap] w fun e w' => ∃ ao' cap', e = .returned (.slice ao' len cap') ∧ RawsAt w' ao' len cap' rs ∧ Below w.heap.size w w' := by
  have hcon := copyInts_any ao len cap rs w hr hl hlim
  clear hr hlim
  go_enter Tryz.func5, Tryz.ntmps5
  go_wp2_with (go_at_call 26; refine hcon.mono ?_; rintro e w1 ⟨ao1, c1, rfl, hr1, hb1⟩)
  go_ret
  exact ⟨_, _, rfl, hr1, hb1⟩
set_option maxRecDepth 100000 in
set_option maxHeartbeats 2000000 in
theorem eqraws_same (ao bo : Option Addr) (len ca cb : Nat) (rs : List (Bool × List Int)) (w : World) (hx : RawsAt w ao len ca rs) (hy : RawsAt w bo len cb rs) (hl : len ≤ 1000) (hlim : ∀ t, (rv rs t).2.length ≤ 100000) :
    Calls Tryz.prog 56 #[.slice ao len ca, .slice bo len cb] w fun e w' => e = .returned (.bool true) ∧ Below w.heap.size w w' := by
  have HR : Hid (RawsAt w ao len ca rs ∧ RawsAt w bo len cb rs ∧ ∀ t, (rv rs t).2.length ≤ 100000) := ⟨hx, hy, hlim⟩
  clear hx hy hlim
  go_enter Tryz.func56, Tryz.ntmps56
  go_wp2
  go_loopw [5] (fun i wr => ∃ k : Nat, k ≤ len ∧ i = .int .i64 k ∧ Below w.heap.size w wr) (fun i _ => len - (intOf i).toNat)
  case atStart => exact ⟨0, Nat.zero_le _, rfl, Below.refl _ _⟩
  case round =>
    obtain ⟨k, hk, rfl, hbel⟩ := hrel
    by_cases hlt : k < len
    · obtain ⟨b, off, n1, ao1, l1, c1, rfl, h0, h1, e1, hi, hw1⟩ := (HR.out.1.later hbel).at hlt
      obtain ⟨b', off', n2, ao2, l2, c2, rfl, g0, g1, e2, hj, hw2⟩ := (HR.out.2.1.later hbel).at hlt
      have e3 : n1 = n2 := by rw [e1, e2]
      subst e3
      have hl1 : l1 ≤ 100000 := by rw [hi.hlen]; exact HR.out.2.2 _
      have hcon : ∀ W', Below wr.heap.size wr W' → Calls Tryz.prog 82 #[.agg #[.bool n1, .slice ao1 l1 c1], .agg #[.bool n1, .slice ao2 l2 c2]] W' fun e w' => e = .returned (.bool true) ∧ Below W'.heap.size W' w' := fun W' hW => eqint_same n1 ao1 ao2 l1 c1 l2 c2 _ W' (hi.later hW) (hj.later hW) (by omega)
      have hlt' : (k : Int) < (len : Int) := by omega
      have hge' : (0 : Int) ≤ (k : Int) := by omega
      have KS : Hid (∀ w', Below wr.heap.size wr w' → Below wr.heap.size wr w' ∧ w'.cell? ⟨b, off + k * 2, none⟩ = some (.bool n1) ∧ w'.cell? ⟨b, off + k * 2 + 1, none⟩ = some (.slice ao1 l1 c1) ∧ w'.cell? ⟨b', off' + k * 2, none⟩ = some (.bool n1) ∧ w'.cell? ⟨b', off' + k * 2 + 1, none⟩ = some (.slice ao2 l2 c2)) := fun w' hb => ⟨hb, (hb.cell (p := ⟨b, off + k * 2, none⟩) (cell_lt h0)).trans h0, (hb.cell (p := ⟨b, off + k * 2 + 1, none⟩) (cell_lt h1)).trans h1, (hb.cell (p := ⟨b', off' + k * 2, none⟩) (cell_lt g0)).trans g0, (hb.cell (p := ⟨b', off' + k * 2 + 1, none⟩) (cell_lt g1)).trans g1⟩
      clear hi hj hl1 e1 e2 hw1 hw2
      go_wp2
      go_region_held3 (fun w' => Below wr.heap.size wr w' ∧ w'.cell? ⟨b, off + k * 2, none⟩ = some (.bool n1) ∧ w'.cell? ⟨b, off + k * 2 + 1, none⟩ = some (.slice ao1 l1 c1) ∧ w'.cell? ⟨b', off' + k * 2, none⟩ = some (.bool n1) ∧ w'.cell? ⟨b', off' + k * 2 + 1, none⟩ = some (.slice ao2 l2 c2))
        (first | exact KS.out _ (Below.refl _ _).drew | exact KS.out _ (by assumption))
        (first | (go_at_call 82; refine (hcon _ (Below.refl _ _).drew).mono ?_; rintro e w1 ⟨rfl, hb1'⟩; have hb1 : Below wr.heap.size wr w1 := bnext (Below.refl _ _).drew hb1'))
      go_wp2
      go_roundw
      case rel => exact ⟨k + 1, by omega, by go_num, bnext hbel hb1⟩
      case measure => simp [intOf]; omega
    · obtain rfl : k = len := by omega
      go_wp2
      go_ret
      exact ⟨rfl, hbel⟩
set_option maxRecDepth 100000 in
set_option maxHeartbeats 2000000 in
theorem eqpoly_of {x y : Value} {w : World} (h : Calls Tryz.prog 56 #[x, y] w fun e w' => e = .returned (.bool true) ∧ Below w.heap.size w w') :
    Calls Tryz.prog 22 #[x, y] w fun e w' => e = .returned (.bool true) ∧ Below w.heap.size w w' := by
  go_enter Tryz.func22, Tryz.ntmps22
  go_wp2_with (go_at_call 56; refine h.mono ?_; rintro e w1 ⟨rfl, hb1⟩)
  go_ret
  exact ⟨rfl, hb1⟩
/-- a list whose numbers are being written over -/
structure SpP (B : Nat) (w : World) (g : Nat) (p : List Int) (k : Nat) : Prop where
  soft : ∀ j, w.frozen? ⟨g, j, none⟩ = false
  coef : ∀ t, k ≤ t → t < p.length → CoefO B w g (t * 2) (dig p t)
  apart : ∀ s t, k ≤ s → k ≤ t → s < p.length → t < p.length → s ≠ t → ∀ (a b : Addr) (l l' c c' : Nat), w.cell? ⟨g, s * 2 + 1, none⟩ = some (.slice (some a) l c) → w.cell? ⟨g, t * 2 + 1, none⟩ = some (.slice (some b) l' c') → a.block ≠ b.block
  away : ∀ t, k ≤ t → t < p.length → ∀ (a : Addr) (l c : Nat), w.cell? ⟨g, t * 2 + 1, none⟩ = some (.slice (some a) l c) → a.block ≠ g
  there : ∀ j, j < p.length * 2 → ∃ u, w.cell? ⟨g, j, none⟩ = some u
theorem PBlkO.spoil {B : Nat} {w : World} {g : Nat} {p : List Int} (h : PBlkO B w g p) : SpP B w g p 0 := by
  refine ⟨h.soft, fun t _ ht => h.coef t ht, fun s t _ _ => h.apart s t, fun t _ => h.away t, fun j hj => ?_⟩
  obtain ⟨n, ao, l, c, ⟨h0, h1⟩, _⟩ := h.coef (j / 2) (by omega)
  rcases Nat.mod_two_eq_zero_or_one j with e | e
  · exact ⟨_, by rw [show j = j / 2 * 2 by omega]; exact h0⟩
  · exact ⟨_, by rw [show j = j / 2 * 2 + 1 by omega]; exact h1⟩
theorem SpP.step {B : Nat} {w w1 : World} {g k l c : Nat} {p : List Int} {ao : Option Addr} {x y : Value} (h : SpP B w g p k) (hk : k < p.length) (hc : w.cell? ⟨g, k * 2 + 1, none⟩ = some (.slice ao l c)) (hs : Stay ao w w1) (hg : g < w.heap.size) : SpP B ((w1.setCell ⟨g, k * 2, none⟩ x).setCell ⟨g, k * 2 + 1, none⟩ y) g p (k + 1) := by
  have hng : ∀ a : Addr, ao = some a → a.block ≠ g := fun a ha => by subst ha; exact h.away k (Nat.le_refl _) hk a l c hc
  have e1 : ∀ j, w1.cell? ⟨g, j, none⟩ = w.cell? ⟨g, j, none⟩ := fun j => hs.cell hg hng
  have e2 : ∀ t, k + 1 ≤ t → ∀ i, i < 2 → ((w1.setCell ⟨g, k * 2, none⟩ x).setCell ⟨g, k * 2 + 1, none⟩ y).cell? ⟨g, t * 2 + i, none⟩ = w.cell? ⟨g, t * 2 + i, none⟩ := fun t ht i hi => by
    rw [setCell_ne (by rintro ⟨_, h⟩; simp only at h; omega), setCell_ne (by rintro ⟨_, h⟩; simp only at h; omega), e1]
  refine ⟨fun j => by rw [soft_far, soft_far, hs.frozen hg hng]; exact h.soft j, fun t ht htl => ?_, fun s t hs' ht hsl htl hn a b l l' c c' q1 q2 => h.apart s t (by omega) (by omega) hsl htl hn a b l l' c c' (by rw [← e2 s hs' 1 (by omega)]; exact q1) (by rw [← e2 t ht 1 (by omega)]; exact q2), fun t ht htl a l c q => h.away t (by omega) htl a l c (by rw [← e2 t ht 1 (by omega)]; exact q), fun j hj => ?_⟩
  · obtain ⟨n, bo, l', c', ⟨q0, q1⟩, q2, ho⟩ := h.coef t (by omega) htl
    refine ⟨n, bo, l', c', ⟨(e2 t ht 0 (by omega)).trans q0, by rw [e2 t ht 1 (by omega)]; exact q1⟩, q2, ?_⟩
    rcases ho with ho | ⟨g', off, cur, r1, r2, r3, r4⟩
    · exact Or.inl ho
    · refine Or.inr ⟨g', off, cur, r1, r2, ?_, r4⟩
      have hne : g' ≠ g := by subst r1; exact h.away t (by omega) htl _ _ _ q1
      rw [Below.heap_setCell _ ⟨g, k * 2 + 1, none⟩ y _ hne, Below.heap_setCell _ ⟨g, k * 2, none⟩ x _ hne]
      rw [hs.block g' (heap_lt r3) ?_]
      · exact r3
      · intro a ha
        subst ha
        subst r1
        exact h.apart k t (Nat.le_refl _) (by omega) hk htl (by omega) _ _ _ _ _ _ hc q1
  · obtain ⟨u, hu⟩ := h.there j hj
    obtain ⟨u0, hu0⟩ := h.there (k * 2) (by omega)
    obtain ⟨u1, hu1⟩ := h.there (k * 2 + 1) (by omega)
    rw [← e1] at hu hu0 hu1
    by_cases q1 : j = k * 2 + 1
    · subst q1; exact ⟨y, by simp [go_sem, hu0, hu1]⟩
    · by_cases q0 : j = k * 2
      · subst q0; exact ⟨x, by simp [go_sem, hu0, hu1]⟩
      · exact ⟨u, by rw [setCell_ne (by rintro ⟨_, h⟩; simp only at h; omega), setCell_ne (by rintro ⟨_, h⟩; simp only at h; omega)]; exact hu⟩
theorem SpP.olds {B : Nat} {w : World} {g n k : Nat} {p : List Int} (h : SpP B w g p k) (hn : n = p.length) : ∃ olds : List Value, olds.length = n * 2 ∧ ∀ j u, olds[j]? = some u → w.cell? ⟨g, j, none⟩ = some u := by
  subst hn
  refine ⟨(List.range (p.length * 2)).map fun j => (w.cell? ⟨g, j, none⟩).getD undef, by simp, fun j u hj => ?_⟩
  rw [List.getElem?_map] at hj
  by_cases hl : j < p.length * 2
  · rw [List.getElem?_range hl] at hj
    obtain ⟨z, hz⟩ := h.there j hl
    simp only [Option.map_some, hz, Option.getD_some, Option.some.injEq] at hj
    rw [hz, hj]
  · rw [List.getElem?_eq_none (by simpa using hl)] at hj
    cases hj
theorem SpP.later {B : Nat} {w w' : World} {g k : Nat} {p : List Int} (h : SpP B w g p k) (hb : Below w.heap.size w w') (hg : g < w.heap.size) (hk : p.length ≤ k) : SpP B w' g p k :=
  ⟨fun j => (hb.frozen (p := ⟨g, j, none⟩) hg).trans (h.soft j), fun t h1 h2 => absurd h2 (by omega), fun s t h1 _ h2 => absurd h2 (by omega), fun t h1 h2 => absurd h2 (by omega), fun j hj => by
    obtain ⟨u, hu⟩ := h.there j hj
    exact ⟨u, (hb.cell (p := ⟨g, j, none⟩) hg).trans hu⟩⟩
set_option maxRecDepth 100000 in
set_option maxHeartbeats 2000000 in
theorem spoilPoly_any (B : Nat) (ao : Option Addr) (len : Nat) (p : List Int) (w : World) (ho : POwn B w ao len len p) (hB : B ≤ w.heap.size) (hl : len ≤ 1000) (hlim : Lim 100000 p) :
    Calls Tryz.prog 41 #[.slice ao len len] w fun e w' => e = .returned (.tuple #[]) ∧ Below B w w' := by
  obtain ⟨i0, hi, hz0, hz1, hz2⟩ := info_parts infoInt
  have h63 : Hid (len + 1 ≤ maxLen) := by show _ ≤ _; unfold maxLen; omega
  have hby : Hid ((len + 1) * 32 ≤ 140737488355328) := by show _ ≤ _; omega
  obtain ⟨h1, _, h3⟩ := ho
  have HLN : Hid (len = p.length) := h1
  clear h1
  rcases h3 with ⟨h0, rfl⟩ | ⟨h0, g, rfl, hBg, hgl, hPB⟩
  · subst h0
    have hbA : Below B w (w.alloc (.cells #[.bool false, .slice none 0 0] 28)) := (Below.refl B w).alloc hB _
    go_enter Tryz.func41, Tryz.ntmps41
    go_wp2
    go_loopw [2] (fun i wr => i = .int .i64 0 ∧ wr = w) (fun i _ => 0)
    case atStart => exact ⟨rfl, rfl⟩
    case round =>
      obtain ⟨rfl, rfl⟩ := hrel
      go_wp2_with (at_builtin; refine wpList_append_grows _ rfl _ _ 24 rfl 28 i0 (.agg #[.bool false, .slice none 0 0]) 2 32 Tryz.underlying24 hi hz0 hz1 hz2 rfl (by decide) none 0 0 [] rfl (fun _ => ⟨rfl, rfl⟩) rfl (fun b h => by cases h) ⟨wr.heap.size, 0, none⟩ 1 1 [.bool false, .slice none 0 0] rfl rfl (World.news_of_block (cs := #[.bool false, .slice none 0 0]) (t := 28) (fr := (0, 0)) (heap_alloc_new wr _)) (by simp [Value.oneCell']) (by decide) h63.out hby.out ?_; intro v' w' hown hgrow)
      go_end0
      exact ⟨rfl, hbA.trans ((grown_below hgrow).mono (Nat.le_trans hB hbA.size))⟩
  · have HSP : Hid (SpP B w g p 0 ∧ g < w.heap.size) := ⟨hPB.spoil, hgl⟩
    have HLM : Hid (Lim 100000 p) := hlim
    clear hPB hgl hlim h0
    go_enter Tryz.func41, Tryz.ntmps41
    go_wp2
    go_loopw [2] (fun i wr => ∃ k : Nat, k ≤ len ∧ i = .int .i64 k ∧ SpP B wr g p k ∧ g < wr.heap.size ∧ Below B w wr) (fun i _ => len - (intOf i).toNat)
    case atStart => exact ⟨0, Nat.zero_le _, rfl, HSP.out.1, HSP.out.2, Below.refl _ _⟩
    case round =>
      obtain ⟨k, hk, rfl, hsp, hgl, hbel⟩ := hrel
      have HS : Hid (SpP B wr g p k) := hsp
      by_cases hlt : k < len
      · have hkl : Hid (k < p.length) := by show k < _; rw [← HLN.out]; exact hlt
        obtain ⟨n1, ao1, l1, c1, ⟨e0, e1⟩, hs1, ho1⟩ := hsp.coef k (Nat.le_refl _) hkl.out
        have HO : Hid (Own B wr .u64 73 ao1 l1 c1 (mag (dig p k).natAbs) ∧ wr.cell? ⟨g, k * 2 + 1, none⟩ = some (.slice ao1 l1 c1)) := ⟨ho1, e1⟩
        have hl1 : l1 ≤ 100000 := by rw [(ho1.int hs1).lim]; exact HLM.out k
        have hng : ∀ a : Addr, ao1 = some a → a.block ≠ g := fun a ha => by subst ha; exact hsp.away k (Nat.le_refl _) hkl.out a l1 c1 e1
        have HNG : Hid (∀ a : Addr, ao1 = some a → a.block ≠ g) := hng
        have hfz := hsp.soft
        have HE : Hid (wr.cell? ⟨g, k * 2, none⟩ = some (.bool n1) ∧ ∀ j, wr.frozen? ⟨g, j, none⟩ = false) := ⟨e0, hfz⟩
        clear hs1 ho1 hng hsp hfz
        go_wp2_with (go_at_call 67; refine (spoil_any B n1 ao1 l1 c1 _ _ HO.out.1 (Nat.le_trans hB hbel.size) (by omega)).mono ?_; rintro e w1 ⟨rfl, hb1, hsy⟩; clear e0 e1; have e0 : w1.cell? ⟨g, k * 2, none⟩ = some (.bool n1) := (hsy.cell hgl HNG.out).trans HE.out.1; have e1 : w1.cell? ⟨g, k * 2 + 1, none⟩ = some (.slice ao1 l1 c1) := (hsy.cell hgl HNG.out).trans HO.out.2; have hfz : ∀ j, w1.frozen? ⟨g, j, none⟩ = false := fun j => (hsy.frozen hgl HNG.out).trans (HE.out.2 j))
        go_roundw
        case rel => exact ⟨k + 1, by omega, by go_num, HS.out.step hkl.out HO.out.2 hsy hgl, by (have := hsy.size; simp; omega), ((hbel.trans hb1).setCell (p := ⟨g, k * 2, none⟩) hBg _).setCell (p := ⟨g, k * 2 + 1, none⟩) hBg _⟩
        case measure => simp [intOf]; omega
      · obtain rfl : k = len := by omega
        have hA : Below wr.heap.size wr (wr.alloc (.cells #[.bool false, .slice none 0 0] 28)) := (Below.refl wr.heap.size wr).alloc (Nat.le_refl _) _
        have hbA : Below B w (wr.alloc (.cells #[.bool false, .slice none 0 0] 28)) := hbel.alloc (Nat.le_trans hB hbel.size) _
        obtain ⟨olds, hol⟩ := (hsp.later hA hgl (by rw [← HLN.out]; exact Nat.le_refl _)).olds HLN.out
        have HL : Hid (olds.length = k * 2 ∧ ∀ j u, olds[j]? = some u → (wr.alloc (.cells #[.bool false, .slice none 0 0] 28)).cell? ⟨g, j, none⟩ = some u) := hol
        clear hsp hol
        go_wp2_with (at_builtin; refine wpList_append_grows _ rfl _ _ 24 rfl 28 i0 (.agg #[.bool false, .slice none 0 0]) 2 32 Tryz.underlying24 hi hz0 hz1 hz2 rfl (by decide) (some ⟨g, 0, none⟩) k k olds rfl (fun h => by cases h) HL.out.1 (fun b h j u hj => by cases h; rw [add_none2]; exact HL.out.2 j u hj) ⟨wr.heap.size, 0, none⟩ 1 1 [.bool false, .slice none 0 0] rfl rfl (World.news_of_block (cs := #[.bool false, .slice none 0 0]) (t := 28) (fr := (0, 0)) (heap_alloc_new wr _)) (by simp [Value.oneCell']) (by omega) h63.out hby.out ?_; intro v' w' hown hgrow)
        go_end0
        exact ⟨rfl, hbA.trans ((grown_below hgrow).mono (Nat.le_trans hB hbA.size))⟩
end Go.Proofs.YtdanaebhjkbfmaaGreat
/-
  Walks: the law's own small ones: what is too heavy, what is one and two, is, wakes.
-/
namespace Go.Proofs.YtdanaebhjkbfmaaGreat
open Go.RowKit
set_option linter.unusedVariables false
set_option linter.unusedSimpArgs false
/-- the cells of a variable -/
def Cells (w : World) (r : Nat) (vs : List Value) : Prop := ∀ (j : Nat) (u : Value), vs[j]? = some u → w.cell? ⟨r, j, none⟩ = some u
theorem Cells.later {w w' : World} {r : Nat} {vs : List Value} (h : Cells w r vs) (hb : Below w.heap.size w w') (hr : r < w.heap.size) : Cells w' r vs := fun j u hu => (hb.cell (p := ⟨r, j, none⟩) hr).trans (h j u hu)
theorem Cells.new (w : World) (vs : Array Value) (t : TypeId) : Cells (w.alloc (.cells vs t)) w.heap.size vs.toList := fun j u hu => by
  have h := World.news_of_block (cs := vs) (t := t) (fr := (0, 0)) (heap_alloc_new w _) j u hu
  rw [add_none2] at h
  exact h
end Go.Proofs.YtdanaebhjkbfmaaGreat
/-
  Walks: wakes; what is handed in, off what lies there; the law's items.
-/
namespace Go.Proofs.YtdanaebhjkbfmaaGreat
open Go.RowKit
set_option linter.unusedVariables false
set_option linter.unusedSimpArgs false
theorem rv_lim {rs : List (Bool × List Int)} {L : Nat} (h : ∀ r ∈ rs, r.2.length ≤ L) (t : Nat) : (rv rs t).2.length ≤ L := by
  by_cases ht : t < rs.length
  · rw [rv_eq ht]; exact h _ (List.getElem_mem ht)
  · unfold rv; rw [List.getD_eq_getElem?_getD, List.getElem?_eq_none (by omega)]; simp
theorem parg_of_raws {w : World} {ao : Option Addr} {len cap : Nat} {rs : List (Bool × List Int)} (hr : RawsAt w ao len cap rs) (hs : len ≤ 11) (hlim : ∀ t, (rv rs t).2.length ≤ 3) : ∃ p, PArg w ao len cap rs (pmayB len rs) p := by
  cases hm : pmayB len rs with
  | false => exact ⟨[], hr, hs, hlim, hm, fun h => by cases h⟩
  | true =>
    obtain ⟨h1, h2, h3⟩ := pmayB_true hm
    obtain ⟨p, hp⟩ := polys_of_raws hr h2
    have hl : ∀ t, t < len → lim (dig p t) = (rv rs t).2.length := fun t ht => by
      obtain ⟨b, off, n1, ao1, l1, c1, e, _, q1, _, hrow, _⟩ := hr.at ht
      obtain ⟨b', off', n2, ao2, l2, c2, e', _, r1, hi⟩ := hp.at ht
      rw [e] at e'
      cases e'
      rw [q1] at r1
      simp only [Option.some.injEq, Value.slice.injEq] at r1
      obtain ⟨_, r2, _⟩ := r1
      rw [← hi.lim, ← hrow.hlen, r2]
    refine ⟨p, hr, hs, hlim, hm, fun _ => ⟨hp, fun h0 => ?_, fun t => ?_⟩⟩
    · intro e
      have h4 := hl (len - 1) (by rw [hp.hlen]; omega)
      rw [← hp.hlen] at h0 e
      rw [e, lim_zero] at h4
      exact h3 h0 (List.eq_nil_of_length_eq_zero h4.symm)
    · by_cases ht : t < len
      · rw [hl t ht]; exact hlim t
      · rw [dig_past (by rw [← hp.hlen]; omega), lim_zero]; omega
/-- one of the law's items -/
def Item4 (w : World) (b o : Nat) : Prop := ∃ (ao bo co : Option Addr) (la ca lb cb lc cc : Nat) (n n4 n5 n6 : Bool) (o4 p4 o5 p5 o6 p6 : Option Addr) (l4 c4 m4 k4 l5 c5 m5 k5 l6 c6 m6 k6 : Nat) (rs ts : List (Bool × List Int)) (zs : List Int), (∀ (j : Nat) (u : Value), [.slice ao la ca, .slice bo lb cb, .bool n, .slice co lc cc, .bool n4, .slice o4 l4 c4, .slice p4 m4 k4, .bool n5, .slice o5 l5 c5, .slice p5 m5 k5, .bool n6, .slice o6 l6 c6, .slice p6 m6 k6][j]? = some u → w.cell? ⟨b, o + j, none⟩ = some u) ∧ RawsAt w ao la ca rs ∧ RawsAt w bo lb cb ts ∧ RowAt w .u64 co lc cc zs ∧ Wd 18446744073709551616 zs ∧ ca ≤ 9223372036854775807 ∧ cb ≤ 9223372036854775807
theorem Item4.elim {w : World} {b o : Nat} {P : Prop} (h : Item4 w b o) (k : ∀ (ao bo co : Option Addr) (la ca lb cb lc cc : Nat) (n n4 n5 n6 : Bool) (o4 p4 o5 p5 o6 p6 : Option Addr) (l4 c4 m4 k4 l5 c5 m5 k5 l6 c6 m6 k6 : Nat) (rs ts : List (Bool × List Int)) (zs : List Int), (∀ (j : Nat) (u : Value), [.slice ao la ca, .slice bo lb cb, .bool n, .slice co lc cc, .bool n4, .slice o4 l4 c4, .slice p4 m4 k4, .bool n5, .slice o5 l5 c5, .slice p5 m5 k5, .bool n6, .slice o6 l6 c6, .slice p6 m6 k6][j]? = some u → w.cell? ⟨b, o + j, none⟩ = some u) ∧ RawsAt w ao la ca rs ∧ RawsAt w bo lb cb ts ∧ RowAt w .u64 co lc cc zs ∧ Wd 18446744073709551616 zs ∧ ca ≤ 9223372036854775807 ∧ cb ≤ 9223372036854775807 → P) : P := by
  obtain ⟨ao, bo, co, la, ca, lb, cb, lc, cc, n, n4, n5, n6, o4, p4, o5, p5, o6, p6, l4, c4, m4, k4, l5, c5, m5, k5, l6, c6, m6, k6, rs, ts, zs, h⟩ := h
  exact k ao bo co la ca lb cb lc cc n n4 n5 n6 o4 p4 o5 p5 o6 p6 l4 c4 m4 k4 l5 c5 m5 k5 l6 c6 m6 k6 rs ts zs h
end Go.Proofs.YtdanaebhjkbfmaaGreat
/-
  Walks: what is too heavy (stage 6), equal polynomials, what wakes.
-/
namespace Go.Proofs.YtdanaebhjkbfmaaGreat
open Go.RowKit
set_option linter.unusedVariables false
set_option linter.unusedSimpArgs false
theorem num6_any (n : Int) (w : World) : Calls Tryz.prog 20 #[.int .i64 n] w fun e w' => e = .returned (.int .i64 n) ∧ w' = w := by
  go_enter Tryz.func20, Tryz.ntmps20
  go_wp2
  go_ret
  exact ⟨rfl, rfl⟩
set_option maxRecDepth 100000 in
set_option maxHeartbeats 1000000 in
theorem eqpoly_same (ao bo : Option Addr) (la lb ca cb : Nat) (p : List Int) (w : World) (hx : PolyAt w ao la ca p) (hy : PolyAt w bo lb cb p) (hl : la ≤ 4611686018427387904) (hlim : Lim 4611686018427387904 p) :
    Calls Tryz.prog 22 #[.slice ao la ca, .slice bo lb cb] w fun e w' => e = .returned (.bool true) ∧ Below w.heap.size w w' := by
  obtain rfl : la = lb := by rw [hx.hlen, hy.hlen]
  have hcon := eqints_same ao bo la ca cb p w hx hy hl hlim
  clear hx hy hlim
  go_enter Tryz.func22, Tryz.ntmps22
  go_wp2_with (go_at_call 56; refine hcon.mono ?_; rintro e w1 ⟨rfl, hb1⟩)
  go_ret
  exact ⟨rfl, hb1⟩
set_option maxRecDepth 100000 in
set_option maxHeartbeats 1000000 in
theorem heavy6_any (po : Option Addr) (pl pc : Nat) (rs : List (Bool × List Int)) (nc : Bool) (co : Option Addr) (lc cc : Nat) (K : Int) (w : World) (hp : RawsAt w po pl pc rs) (hl : pl ≤ 9223372036854775807) (c : Bool) (hc : (heavyB 9 3 pl rs || decide (3 < (lc : Int))) = c) :
    Calls Tryz.prog 4 #[.agg #[.slice po pl pc, .bool nc, .slice co lc cc, .int .i64 K]] w fun e w' => e = .returned (.bool c) ∧ Below w.heap.size w w' := by
  obtain ⟨W, hW⟩ : ∃ W, W = w.alloc (.cells #[.slice po pl pc, .bool nc, .slice co lc cc, .int .i64 K] 30) := ⟨_, rfl⟩
  have HW : Hid (Below w.heap.size w W ∧ W.heap.size = w.heap.size + 1 ∧ W.cell? ⟨w.heap.size, 1, none⟩ = some (.bool nc) ∧ W.cell? ⟨w.heap.size, 2, none⟩ = some (.slice co lc cc)) := by
    rw [hW]; exact ⟨(Below.refl _ _).alloc (Nat.le_refl _) _, by simp, by simp [go_sem], by simp [go_sem]⟩
  have HP : Hid (RawsAt W po pl pc rs) := hp.later HW.out.1
  clear hp
  cases hh : heavyB 9 3 pl rs
  · rw [hh, Bool.false_or] at hc
    have HH : Hid (heavyB 9 3 pl rs = false) := hh
    have hcon2 : ∀ W', Calls Tryz.prog 25 #[.agg #[.bool nc, .slice co lc cc], .int .i64 3] W' fun e w' => e = .returned (.bool c) ∧ Below W'.heap.size W' w' := fun W' => (long_any nc co lc cc 3 W').mono fun e w' h => by rw [hc] at h; exact h
    clear hh hc
    go_enter Tryz.func4, Tryz.ntmps4
    go_wp2_with (first
      | (go_at_call 24; rw [← hW]; clear hW; refine (heavyPoly_any 9 3 po pl pc rs _ HP.out hl (by decide) false HH.out).mono ?_; rintro e w1 ⟨rfl, hb1⟩; obtain ⟨q0, q1⟩ : w1.cell? ⟨w.heap.size, 1, none⟩ = some (.bool nc) ∧ w1.cell? ⟨w.heap.size, 2, none⟩ = some (.slice co lc cc) := ⟨(hb1.cell (p := ⟨w.heap.size, 1, none⟩) (by have := HW.out.2.1; show w.heap.size < _; omega)).trans HW.out.2.2.1, (hb1.cell (p := ⟨w.heap.size, 2, none⟩) (by have := HW.out.2.1; show w.heap.size < _; omega)).trans HW.out.2.2.2⟩)
      | (go_at_call 25; refine (hcon2 _).mono ?_; rintro e w2 ⟨rfl, hb2⟩))
    go_ret
    exact ⟨rfl, bnext HW.out.1 (bnext hb1 hb2)⟩
  · rw [hh, Bool.true_or] at hc
    subst hc
    have HH : Hid (heavyB 9 3 pl rs = true) := hh
    clear hh
    go_enter Tryz.func4, Tryz.ntmps4
    go_wp2_with (first
      | (go_at_call 24; rw [← hW]; clear hW; refine (heavyPoly_any 9 3 po pl pc rs _ HP.out hl (by decide) true HH.out).mono ?_; rintro e w1 ⟨rfl, hb1⟩))
    go_ret
    exact ⟨rfl, bnext HW.out.1 hb1⟩
/-- three numbers, laid as a polynomial -/
theorem poly3_new {W : World} {n0 n1 n2 : Bool} {o0 o1 o2 : Option Addr} {l0 c0 l1 c1 l2 c2 : Nat} {a b c : Int} {t : TypeId} (h0 : IntAt W n0 o0 l0 c0 a) (h1 : IntAt W n1 o1 l1 c1 b) (h2 : IntAt W n2 o2 l2 c2 c) :
    PolyAt (W.alloc (.cells #[.bool n0, .slice o0 l0 c0, .bool n1, .slice o1 l1 c1, .bool n2, .slice o2 l2 c2] t)) (some ⟨W.heap.size, 0, none⟩) 3 3 [a, b, c] := by
  have hA : Below W.heap.size W (W.alloc (.cells #[.bool n0, .slice o0 l0 c0, .bool n1, .slice o1 l1 c1, .bool n2, .slice o2 l2 c2] t)) := (Below.refl _ _).alloc (Nat.le_refl _) _
  refine ⟨rfl, Nat.le_refl _, fun e => (by cases e), Or.inr ⟨W.heap.size, 0, rfl, fun t ht => ?_⟩⟩
  match t, ht with
  | 0, _ => exact ⟨n0, o0, l0, c0, ⟨by simp [go_sem], by simp [go_sem]⟩, h0.later hA⟩
  | 1, _ => exact ⟨n1, o1, l1, c1, ⟨by simp [go_sem], by simp [go_sem]⟩, h1.later hA⟩
  | 2, _ => exact ⟨n2, o2, l2, c2, ⟨by simp [go_sem], by simp [go_sem]⟩, h2.later hA⟩
theorem lim_small6 {v : Int} (h : v.natAbs < 18446744073709551616) : lim v ≤ 1 := mag_len_one h
theorem Lim.of3 {L : Nat} {a b c : Int} (h0 : lim a ≤ L) (h1 : lim b ≤ L) (h2 : lim c ≤ L) : Lim L [a, b, c] := fun t => by
  match t with
  | 0 => exact h0
  | 1 => exact h1
  | 2 => exact h2
  | n + 3 => rw [dig_past (by simp), lim_zero]; exact Nat.zero_le _
set_option maxRecDepth 100000 in
set_option maxHeartbeats 2000000 in
theorem wakes6_any (w : World) : Calls Tryz.prog 23 #[] w fun e w' => e = .returned (.bool true) ∧ Below w.heap.size w w' := by
  have HC : Hid (sh 3 [0, 0, 1] = [9, 6, 1] ∧ Lead [0, 0, 1] ∧ ShLim 1000000000 3 [0, 0, 1] ∧ Lim 4611686018427387904 [9, 6, 1]) := by
    refine ⟨by decide, fun _ => by decide, ShLim.of (L := 1) (C := 1) (N := 3) (Lim.of3 (lim_small6 (by decide)) (lim_small6 (by decide)) (lim_small6 (by decide))) (lim_small6 (by decide)) (by decide) (by decide), ?_⟩
    exact (Lim.of3 (L := 1) (lim_small6 (by decide)) (lim_small6 (by decide)) (lim_small6 (by decide))).mono (by decide)
  go_enter Tryz.func23, Tryz.ntmps23
  go_wp2_with (first
    | (go_at_call 49; have _t := HS; refine (rfrom_any 9 _ (by decide) (by decide)).mono ?_; rintro e y0 ⟨m0, p0, k0, d0, rfl, hs, ho, hb⟩; have HB0 : Hid (IntAt y0 m0 p0 k0 d0 9 ∧ Below w5.heap.size w5 y0) := ⟨ho.int hs, hb⟩; clear hs ho hb)
    | (go_at_call 49; have _t := HB0; refine (rfrom_any 6 _ (by decide) (by decide)).mono ?_; rintro e y1 ⟨m1, p1, k1, d1, rfl, hs, ho, hb⟩; have HB1 : Hid (IntAt y1 m1 p1 k1 d1 6 ∧ IntAt y1 m0 p0 k0 d0 9 ∧ Below w5.heap.size w5 y1) := ⟨ho.int hs, HB0.out.1.later hb, bnext HB0.out.2 hb⟩; clear hs ho hb)
    | (go_at_call 49; have _t := HB1; refine (rfrom_any 1 _ (by decide) (by decide)).mono ?_; rintro e y2 ⟨m2, p2, k2, d2, rfl, hs, ho, hb⟩; have HB2 : Hid (PolyAt (y2.alloc (.cells #[.bool m0, .slice p0 k0 d0, .bool m1, .slice p1 k1 d1, .bool m2, .slice p2 k2 d2] 28)) (some ⟨y2.heap.size, 0, none⟩) 3 3 [9, 6, 1] ∧ Below w5.heap.size w5 (y2.alloc (.cells #[.bool m0, .slice p0 k0 d0, .bool m1, .slice p1 k1 d1, .bool m2, .slice p2 k2 d2] 28))) := ⟨poly3_new (HB1.out.2.1.later hb) (HB1.out.1.later hb) (ho.int hs), below_alloc (bnext HB1.out.2.2 hb) (Nat.le_refl _)⟩; clear hs ho hb)
    | (go_at_call 49; have _t := HA2; refine (rfrom_any 3 _ (by decide) (by decide)).mono ?_; rintro e w4 ⟨n3, o3, l3, c3, rfl, hs, ho, hb⟩; have HA3 : Hid (PolyAt w4 (some ⟨w3.heap.size, 0, none⟩) 3 3 [0, 0, 1] ∧ IntAt w4 n3 o3 l3 c3 3 ∧ Below w.heap.size w w4) := ⟨HA2.out.1.later hb, ho.int hs, bnext HA2.out.2 hb⟩; clear hs ho hb)
    | (go_at_call 49; have _t := HA1; refine (rfrom_any 1 _ (by decide) (by decide)).mono ?_; rintro e w3 ⟨n2, o2, l2, c2, rfl, hs, ho, hb⟩; have HA2 : Hid (PolyAt (w3.alloc (.cells #[.bool n0, .slice o0 l0 c0, .bool n1, .slice o1 l1 c1, .bool n2, .slice o2 l2 c2] 28)) (some ⟨w3.heap.size, 0, none⟩) 3 3 [0, 0, 1] ∧ Below w.heap.size w (w3.alloc (.cells #[.bool n0, .slice o0 l0 c0, .bool n1, .slice o1 l1 c1, .bool n2, .slice o2 l2 c2] 28))) := ⟨poly3_new (HA1.out.2.1.later hb) (HA1.out.1.later hb) (ho.int hs), below_alloc (bnext HA1.out.2.2 hb) (Nat.le_refl _)⟩; clear hs ho hb)
    | (go_at_call 49; have _t := HA0; refine (rfrom_any 0 _ (by decide) (by decide)).mono ?_; rintro e w2 ⟨n1, o1, l1, c1, rfl, hs, ho, hb⟩; have HA1 : Hid (IntAt w2 n1 o1 l1 c1 0 ∧ IntAt w2 n0 o0 l0 c0 0 ∧ Below w.heap.size w w2) := ⟨ho.int hs, HA0.out.1.later hb, bnext HA0.out.2 hb⟩; clear hs ho hb)
    | (go_at_call 49; refine (rfrom_any 0 _ (by decide) (by decide)).mono ?_; rintro e w1 ⟨n0, o0, l0, c0, rfl, hs, ho, hb⟩; have HA0 : Hid (IntAt w1 n0 o0 l0 c0 0 ∧ Below w.heap.size w w1) := ⟨ho.int hs, hb⟩; clear hs ho hb)
    | (go_at_call 13; refine (bshift_ok (some ⟨w3.heap.size, 0, none⟩) 3 3 [0, 0, 1] n3 o3 l3 c3 3 w4 HA3.out.1 (by decide) HC.out.2.1 HA3.out.2.1 HC.out.2.2.1).mono ?_; rintro e w5 ⟨so, ls, rfl, hp5, hb5⟩; rw [HC.out.1] at hp5; have HS : Hid (PolyAt w5 so ls ls [9, 6, 1] ∧ Below w.heap.size w w5) := ⟨hp5, bnext HA3.out.2.2 hb5⟩; clear hp5 hb5 HA3 HA2 HA1 HA0)
    | (go_at_call 20; refine (num6_any 0 _).mono ?_; rintro e w6 ⟨rfl, hw6⟩; replace hw6 := hw6.symm; subst hw6)
    | (go_at_call 22; refine (eqpoly_same so _ ls 3 ls 3 [9, 6, 1] _ (HS.out.1.later HB2.out.2) HB2.out.1 (by have := HS.out.1.hlen; simp at this; omega) HC.out.2.2.2).mono ?_; rintro e w7 ⟨rfl, hb7⟩))
  go_ret
  exact ⟨rfl, bnext (bnext HS.out.2 HB2.out.2) hb7⟩
end Go.Proofs.YtdanaebhjkbfmaaGreat
/-
  A list of polynomials with numbers, in memory; what the statement's walk leans on.
-/
namespace Go.Proofs.YtdanaebhjkbfmaaGreat
open Go.RowKit
set_option linter.unusedVariables false
set_option linter.unusedSimpArgs false
/-- a token: which step of a walk is next -/
def Step (n : Nat) : Prop := True
theorem step (n : Nat) : Step n := trivial
/-- a polynomial, a number and a count lie in block b from o on: whatever they are -/
def MoveAt (w : World) (b o : Nat) : Prop :=
  ∃ (po co : Option Addr) (pl pc lc cc : Nat) (nc : Bool) (K : Int) (rs : List (Bool × List Int)) (x : List Int),
    (w.cell? ⟨b, o, none⟩ = some (.slice po pl pc) ∧ w.cell? ⟨b, o + 1, none⟩ = some (.bool nc) ∧ w.cell? ⟨b, o + 2, none⟩ = some (.slice co lc cc) ∧ w.cell? ⟨b, o + 3, none⟩ = some (.int .i64 K)) ∧
    RawsAt w po pl pc rs ∧ pc ≤ 9223372036854775807 ∧ RowAt w .u64 co lc cc x ∧ Wd 18446744073709551616 x ∧ -9223372036854775808 ≤ K ∧ K ≤ 9223372036854775807
/-- a list of such -/
def MovesAt (w : World) (lo : Option Addr) (n : Nat) : Prop := ∀ i, i < n → ∃ b off, lo = some ⟨b, off, none⟩ ∧ b < w.heap.size ∧ MoveAt w b (off + i * 4)
theorem MoveAt.later {w w' : World} {b o : Nat} (h : MoveAt w b o) (hb : Below w.heap.size w w') (hlt : b < w.heap.size) : MoveAt w' b o := by
  obtain ⟨po, co, pl, pc, lc, cc, nc, K, rs, x, ⟨h0, h1, h2, h3⟩, hp, hpc, hx, wx, hn⟩ := h
  exact ⟨po, co, pl, pc, lc, cc, nc, K, rs, x, ⟨(hb.cell (p := ⟨b, o, none⟩) hlt).trans h0, (hb.cell (p := ⟨b, o + 1, none⟩) hlt).trans h1, (hb.cell (p := ⟨b, o + 2, none⟩) hlt).trans h2, (hb.cell (p := ⟨b, o + 3, none⟩) hlt).trans h3⟩, hp.later hb, hpc, hx.later hb, wx, hn⟩
theorem PolyAt.raws {w : World} {ao : Option Addr} {len cap : Nat} {p : List Int} (h : PolyAt w ao len cap p) : RawsAt w ao len cap (p.map fun v => (sgB v, mag v.natAbs)) := by
  refine ⟨by rw [List.length_map]; exact h.hlen, h.hcap, h.hnil, ?_⟩
  rcases h.hat with h0 | ⟨b, off, h1, h2⟩
  · exact Or.inl h0
  · refine Or.inr ⟨b, off, h1, fun t ht => ?_⟩
    rw [List.length_map] at ht
    obtain ⟨n, o, l, c, hc, hi⟩ := h2 t (by rw [h.hlen]; exact ht)
    have hd : dig p t = p[t] := by simp [dig, ht]
    rw [hd] at hi
    rw [List.getElem_map]
    exact ⟨o, l, c, by rw [← hi.sg]; exact hc, hi.row, mag_wd _⟩
end Go.Proofs.YtdanaebhjkbfmaaGreat
/-
  What is read of a list of pairs of numbers.
-/
namespace Go.Proofs.YtdanaebhjkbfmaaGreat
open Go.RowKit Go.ChangeShapes Go.WideShapes Go.ChangeAt
set_option linter.unusedVariables false
set_option linter.unusedSimpArgs false
theorem cells_int : Tryz.prog.cellsOf 28 = 2 := by kernel_rfl
theorem cells_bool : Tryz.prog.cellsOf 4 = 1 := by kernel_rfl
theorem cells_nat : Tryz.prog.cellsOf 26 = 1 := by kernel_rfl
theorem cells_i64 : Tryz.prog.cellsOf 3 = 1 := by kernel_rfl
theorem cells_u64 : Tryz.prog.cellsOf 73 = 1 := by kernel_rfl
theorem add_off {b off j : Nat} : Addr.add ⟨b, off, none⟩ j = ⟨b, off + j, none⟩ := by
  by_cases h0 : j = 0
  · subst h0; simp [Addr.add]
  · simp [Addr.add, h0]
/-- words, off a reading -/
theorem row_of_trod {H : Type} {enc : TypeId × Value → H} {W : World} {fuel : Nat} {v : Value} {x : DataW H × List MemPlace} (h : DataW.trod enc Tryz.prog W 0 (fun _ => true) true fuel 26 [v] = some x) :
    ∃ ao len cap zs, v = .slice ao len cap ∧ RowAt W .u64 ao len cap zs ∧ Wd 18446744073709551616 zs ∧ cap ≤ 9223372036854775807 := by
  rcases open_ints Tryz.underlying26 Tryz.underlying73 cells_u64 h with ⟨hcs, _⟩ | ⟨a, len, cap, zs, hcs, _, hl, hm, hz, _, hcell, hwz⟩
  · simp at hcs; subst hcs
    exact ⟨none, 0, 0, [], rfl, RowAt.nilRow W .u64, Wd.nil _, by decide⟩
  · simp at hcs; subst hcs
    simp only [if_true] at hz
    refine ⟨some a, len, cap, zs.take len, rfl, ⟨by simp; omega, hl, fun e => (by cases e), ?_⟩, ?_, hm⟩
    · by_cases h0 : len = 0
      · exact Or.inl h0
      · right
        obtain ⟨b, off, spot⟩ := a
        have hs : spot = none := by simpa [Addr.add] using World.cell?_spot (hcell 0 (by omega))
        subst hs
        refine ⟨b, off, rfl, ?_, fun t ht => ?_⟩
        · have := hcell 0 (by omega)
          rw [add_off] at this; exact cell_lt this
        · have := hcell t (by omega)
          rw [add_off] at this
          rw [dig_take ht]; exact this
    · intro z hz'
      have := bounds_u64 (hwz z (List.mem_of_mem_take hz'))
      omega
/-- a sign and words, off a reading -/
theorem int_of_trod {H : Type} {enc : TypeId × Value → H} {W : World} {fuel : Nat} {c0 c1 : Value} {x : DataW H × List MemPlace} (h : DataW.trod enc Tryz.prog W 0 (fun _ => true) true fuel 28 [c0, c1] = some x) :
    ∃ neg ao len cap zs, c0 = .bool neg ∧ c1 = .slice ao len cap ∧ RowAt W .u64 ao len cap zs ∧ Wd 18446744073709551616 zs ∧ cap ≤ 9223372036854775807 := by
  obtain ⟨y0, y1, n, _, _, h0, h1⟩ := trod_struct2 Tryz.underlying28 h
  simp only [cells_bool, cells_nat, List.drop_zero, List.take_succ_cons, List.take_zero, List.drop_succ_cons] at h0 h1
  obtain ⟨neg, hb, _⟩ := DataW.trod_bool Tryz.underlying4 h0
  simp at hb
  obtain ⟨ao, len, cap, zs, hv, hr, hw, hc⟩ := row_of_trod h1
  exact ⟨neg, ao, len, cap, zs, hb, hv, hr, hw, hc⟩
theorem own : ownKnob Tryz.prog.godebug = none := by kernel_rfl
theorem laidOut : laidOutB Tryz.prog = true := by kernel_rfl
end Go.Proofs.YtdanaebhjkbfmaaGreat
/-
  What is read of a list of polynomials with numbers.
-/
namespace Go.Proofs.YtdanaebhjkbfmaaGreat
open Go.RowKit Go.ChangeShapes Go.WideShapes Go.ChangeAt
set_option linter.unusedVariables false
set_option linter.unusedSimpArgs false
theorem cells_move : Tryz.prog.cellsOf 30 = 4 := by kernel_rfl
theorem cells_poly : Tryz.prog.cellsOf 24 = 1 := by kernel_rfl
/-- a list of signs and words, off a reading -/
theorem raws_of_trod {H : Type} {enc : TypeId × Value → H} {W : World} {fuel : Nat} {v : Value} {x : DataW H × List MemPlace} (h : DataW.trod enc Tryz.prog W 0 (fun _ => true) true fuel 24 [v] = some x) :
    ∃ ao len cap rs, v = .slice ao len cap ∧ RawsAt W ao len cap rs ∧ cap ≤ 9223372036854775807 := by
  rcases Go.Deep.open_slice Tryz.underlying24 h with ⟨hcs, _⟩ | ⟨a, l, c, m, n, D, Pl, hcs, _, hl, hm, hmm, _, hx⟩
  · simp at hcs; subst hcs
    exact ⟨none, 0, 0, [], rfl, ⟨rfl, Nat.le_refl _, fun _ => rfl, Or.inl rfl⟩, by decide⟩
  · simp at hcs; subst hcs
    simp only [if_true] at hmm
    simp only [cells_int] at hx
    by_cases h0 : l = 0
    · subst h0
      exact ⟨some a, 0, c, [], rfl, ⟨rfl, Nat.zero_le _, fun e => (by cases e), Or.inl rfl⟩, hm⟩
    · obtain ⟨b, off, spot⟩ := a
      have hs : spot = none := by
        obtain ⟨cs0, hcells0, _⟩ := hx 0 (by omega)
        obtain ⟨_, hlen0, hc0⟩ := World.cells?_some hcells0
        have h1 := hc0 0 (by omega)
        rw [List.getElem?_eq_getElem (by omega)] at h1
        simpa [Addr.add] using World.cell?_spot h1
      subst hs
      have hv : ∀ t, ∃ r : Bool × List Int, t < l → RawAt W b (off + t * 2) r.1 r.2 := by
        intro t
        by_cases ht : t < l
        · obtain ⟨cs, hcells, htr⟩ := hx t (by omega)
          obtain ⟨_, hlen, hc⟩ := World.cells?_some hcells
          match cs, hlen with
          | [v0, v1], _ =>
            obtain ⟨neg, ao, la, ca, zs, rfl, rfl, hr, hw, _⟩ := int_of_trod htr
            have g : ∀ j, j < 2 → W.cell? ⟨b, off + t * 2 + j, none⟩ = [Value.bool neg, .slice ao la ca][j]? := by
              intro j hj
              have := hc j hj
              rw [add_off, add_off] at this; exact this
            exact ⟨(neg, zs), fun _ => ⟨ao, la, ca, ⟨g 0 (by omega), g 1 (by omega)⟩, hr, hw⟩⟩
        · exact ⟨(false, []), fun h => absurd h ht⟩
      refine ⟨some ⟨b, off, none⟩, l, c, (List.range l).map fun t => Classical.choose (hv t), rfl, ⟨by simp, hl, fun e => (by cases e), Or.inr ⟨b, off, rfl, fun t ht => ?_⟩⟩, hm⟩
      have ht' : t < l := by simpa using ht
      have e : ((List.range l).map fun t => Classical.choose (hv t))[t] = Classical.choose (hv t) := by simp
      rw [e]
      exact Classical.choose_spec (hv t) ht'
/-- the list, off a reading -/
theorem moves_of_trod {H : Type} {enc : TypeId × Value → H} {W : World} {fuel : Nat} {lo : Option Addr} {len cap : Nat} {x : DataW H × List MemPlace} (h : DataW.trod enc Tryz.prog W 0 (fun _ => true) true fuel 22 [.slice lo len cap] = some x) : MovesAt W lo len ∧ len ≤ 9223372036854775807 := by
  rcases Go.Deep.open_slice Tryz.underlying22 h with ⟨hcs, _⟩ | ⟨a, l, c, m, n, D, Pl, hcs, _, hl, hm, hmm, _, hx⟩
  · simp at hcs; obtain ⟨rfl, rfl, rfl⟩ := hcs
    exact ⟨fun i hi => absurd hi (by omega), by decide⟩
  · simp at hcs; obtain ⟨rfl, rfl, rfl⟩ := hcs
    refine ⟨fun i hi => ?_, Nat.le_trans hl hm⟩
    simp only [if_true] at hmm
    simp only [cells_move] at hx
    obtain ⟨cs, hcells, htr⟩ := hx i (by omega)
    obtain ⟨_, hlen, hc⟩ := World.cells?_some hcells
    match cs, hlen with
    | [v0, v1, v2, v3], _ =>
      obtain ⟨b, off, spot⟩ := a
      have hs : spot = none := by
        obtain ⟨cs0, hcells0, _⟩ := hx 0 (by omega)
        obtain ⟨_, hlen0, hc0⟩ := World.cells?_some hcells0
        have h1 := hc0 0 (by omega)
        rw [List.getElem?_eq_getElem (by omega)] at h1
        simpa [Addr.add] using World.cell?_spot h1
      subst hs
      obtain ⟨y0, y1, y2, n', _, _, t0, t1, t2⟩ := Go.Deep.trod_struct3 Tryz.underlying30 htr
      simp only [cells_int, cells_i64, cells_poly, List.drop_zero, List.take_succ_cons, List.take_zero, List.drop_succ_cons] at t0 t1 t2
      obtain ⟨po, pl, pc, rs, rfl, hp, hpc⟩ := raws_of_trod t0
      obtain ⟨nc, co, lc, cc, xs, rfl, rfl, hrx, hwx, _⟩ := int_of_trod t1
      obtain ⟨nn, hn, _, hwn⟩ := DataW.trod_int Tryz.underlying3 t2
      simp at hn; subst hn
      have g : ∀ j, j < 4 → W.cell? ⟨b, off + i * 4 + j, none⟩ = [Value.slice po pl pc, .bool nc, .slice co lc cc, .int .i64 nn][j]? := by
        intro j hj
        have := hc j hj
        rw [add_off, add_off] at this; exact this
      have hb := bounds_i64 hwn
      have g0 := g 0 (by omega)
      exact ⟨b, off, rfl, cell_lt (p := ⟨b, off + i * 4, none⟩) (v := .slice po pl pc) g0, po, co, pl, pc, lc, cc, nc, nn, rs, xs, ⟨g0, g 1 (by omega), g 2 (by omega), g 3 (by omega)⟩, hp, hpc, hrx, hwx, hb.1, hb.2⟩
end Go.Proofs.YtdanaebhjkbfmaaGreat
