/-
  A pack of walks and facts: UK, UL.
-/
import Derived.Test.YtojmlcignlcbhaaGreatPF09
import Derived.Test.YtojmlcignlcbhaaGreatPF15
set_option maxRecDepth 100000
set_option maxHeartbeats 40000000
set_option linter.unusedVariables false
set_option linter.unusedSimpArgs false
namespace Go.Proofs.YtojmlcignlcbhaaGreat
open Go.RowKit
theorem add_none2 (g j : Nat) : (⟨g, 0, none⟩ : Addr).add j = ⟨g, j, none⟩ := by simp [Addr.add]; intro h; exact h.symm
theorem take_push {rs : List (Bool × List Int)} {k : Nat} (h : k < rs.length) : rs.take (k + 1) = rs.take k ++ [rv rs k] := by
 rw [rv_eq h, List.take_add_one, List.getElem?_eq_getElem h]; rfl
theorem copyInts_any (ao : Option Addr) (len cap : Nat) (rs : List (Bool × List Int)) (w : World) (hr : RawsAt w ao len cap rs) (hl : len ≤ 1000) (hlim : ∀ t, (rv rs t).2.length ≤ 100000) :
  Calls Tryz.prog 36 #[.slice ao len cap] w fun e w' => ∃ ao' cap', e = .returned (.slice ao' len cap') ∧ RawsAt w' ao' len cap' rs ∧ Below w.heap.size w w' := by
 have HR : Hid (RawsAt w ao len cap rs ∧ (∀ t, (rv rs t).2.length ≤ 100000) ∧ len = rs.length) := ⟨hr, hlim, hr.hlen⟩
 have HWD : Hid (∀ r ∈ rs, Wd 18446744073709551616 r.2) := fun r hr' => by
  obtain ⟨t, ht, rfl⟩ := List.getElem_of_mem hr'
  obtain ⟨_, _, _, _, _, _, _, _, _, _, _, h⟩ := hr.at (show t < len by rw [hr.hlen]; exact ht)
  rw [rv_eq ht] at h; exact h
 clear hr hlim
 obtain ⟨i0, hi, hz0, hz1, hz2⟩ := info_parts infoInt
 go_enter Tryz.func36, Tryz.ntmps36
 go_wp2
 go_loopw [3, 4] (fun v i wr => ∃ k : Nat, k ≤ len ∧ i = .int .i64 (k : Int) ∧ Below w.heap.size w wr ∧ LRow w.heap.size wr v (rs.take k)) (fun _ i _ => len - (intOf i).toNat)
 case atStart => exact ⟨0, Nat.zero_le _, rfl, Below.refl _ _, LRow.nil _ _⟩
 case round =>
  obtain ⟨k, hk, rfl, hbel, hL⟩ := hrel
  have HLR := hL
  obtain ⟨xs, hown, hx⟩ := hL
  have hkl : (rs.take k).length = k := by rw [List.length_take, ← HR.out.2.2]; omega
  rw [hkl] at hown
  obtain ⟨vo, vc, rfl, _⟩ := lrow_cells hown
  have HX : Hid (wr.ownsRow w.heap.size 28 2 (.slice vo k vc) k xs ∧ Elems w.heap.size wr xs (rs.take k) ∧ LRow w.heap.size wr (.slice vo k vc) (rs.take k) ∧ (rs.take k).length = k) := ⟨hown, hx, HLR, hkl⟩
  clear hown hx HLR hkl
  by_cases hlt : k < len
  ·
   have h63 : Hid (k + 1 ≤ maxLen) := by show _ ≤ _; unfold maxLen; omega
   have hby : Hid ((k + 1) * 32 ≤ 140737488355328) := by show _ ≤ _; omega
   obtain ⟨b, off, n1, ao1, l1, c1, rfl, h0, h1, hn1, hrow, hw⟩ := (HR.out.1.later hbel).at hlt
   have HI : Hid (RowAt wr .u64 ao1 l1 c1 (rv rs k).2 ∧ n1 = (rv rs k).1) := ⟨hrow, hn1⟩
   have hl1 : l1 ≤ 100000 := by rw [hrow.hlen]; exact HR.out.2.1 k
   have z1 : (0 : Int) ≤ (k : Int) := by omega
   have z2 : (k : Int) < (len : Int) := by omega
   clear hn1 hrow hw
   go_wp2_with (first
    | (at_builtin; refine wpList_append_own _ rfl _ _ 23 rfl w.heap.size 28 i0 (.agg #[.bool false, .slice none 0 0]) 2 32 Tryz.underlying23 hi hz0 hz1 hz2 rfl (by decide) _ _ _ rfl (owns_later2 HX.out.1 hA3) ⟨w3.heap.size, 0, none⟩ 1 1 [.bool n1, .slice ao3 l1 c3] rfl rfl (World.news_of_block (cs := #[.bool n1, .slice ao3 l1 c3]) (t := 28) (fr := (0, 0)) (heap_alloc_new w3 _)) (by simp [Value.oneCell']) h63.out hby.out (Nat.le_trans hbel.size hA3.size) ?_; intro v4 w4 hown4 hgrow hnil)
    | (go_at_call 62; refine (copyInt_own n1 ao1 l1 c1 (rv rs k).2 _ HI.out.1 (by omega)).mono ?_; rintro e w3 ⟨ao3, c3, rfl, ho3, hb3⟩; have H3 : Hid (Own w.heap.size w3 .u64 74 ao3 l1 c3 (rv rs k).2) := ho3.mono hbel.size; have hA3 : Below wr.heap.size wr (w3.alloc (.cells #[.bool n1, .slice ao3 l1 c3] 28)) := bnext hb3 ((Below.refl _ _).alloc (Nat.le_refl _) _); clear ho3 hb3))
   go_roundw
   case rel =>
    refine ⟨k + 1, by omega, by go_num, grown_owns2 (bnext hbel hA3) (Nat.le_trans hbel.size hA3.size) (owns_later2 HX.out.1 hA3) hgrow, ?_⟩
    rw [take_push (by rw [← HR.out.2.2]; exact hlt)]
    have e : rv rs k = (n1, (rv rs k).2) := by rw [HI.out.2]
    rw [e]
    exact lrow_push HX.out.2.2.2.symm (owns_later2 HX.out.1 hA3) (HX.out.2.1.later hA3) (own_alloc H3.out) hown4 hgrow
   case measure => simp [intOf]; omega
  ·
   obtain rfl : k = len := by omega
   have HT : Hid (LRow w.heap.size wr (.slice vo k vc) rs) := by have := HX.out.2.2.1; rw [HR.out.2.2, List.take_length] at this; rw [HR.out.2.2]; exact this
   go_wp2
   go_ret
   obtain ⟨ao', cap', hv, hraw⟩ := HT.out.raws HWD.out
   rw [← HR.out.2.2] at hv hraw
   simp only [Value.slice.injEq] at hv
   obtain ⟨rfl, _, rfl⟩ := hv
   exact ⟨_, _, rfl, hraw, hbel⟩
theorem copyPoly_any (ao : Option Addr) (len cap : Nat) (rs : List (Bool × List Int)) (w : World) (hr : RawsAt w ao len cap rs) (hl : len ≤ 1000) (hlim : ∀ t, (rv rs t).2.length ≤ 100000) :
  Calls Tryz.prog 5 #[.slice ao len cap] w fun e w' => ∃ ao' cap', e = .returned (.slice ao' len cap') ∧ RawsAt w' ao' len cap' rs ∧ Below w.heap.size w w' := by
 have hcon := copyInts_any ao len cap rs w hr hl hlim
 clear hr hlim
 go_enter Tryz.func5, Tryz.ntmps5
 go_wp2_with (go_at_call 36; refine hcon.mono ?_; rintro e w1 ⟨ao1, c1, rfl, hr1, hb1⟩)
 go_ret
 exact ⟨_, _, rfl, hr1, hb1⟩
theorem eqraws_same (ao bo : Option Addr) (len ca cb : Nat) (rs : List (Bool × List Int)) (w : World) (hx : RawsAt w ao len ca rs) (hy : RawsAt w bo len cb rs) (hl : len ≤ 1000) (hlim : ∀ t, (rv rs t).2.length ≤ 100000) :
  Calls Tryz.prog 61 #[.slice ao len ca, .slice bo len cb] w fun e w' => e = .returned (.bool true) ∧ Below w.heap.size w w' := by
 have HR : Hid (RawsAt w ao len ca rs ∧ RawsAt w bo len cb rs ∧ ∀ t, (rv rs t).2.length ≤ 100000) := ⟨hx, hy, hlim⟩
 clear hx hy hlim
 go_enter Tryz.func61, Tryz.ntmps61
 go_wp2
 go_loopw [5] (fun i wr => ∃ k : Nat, k ≤ len ∧ i = .int .i64 k ∧ Below w.heap.size w wr) (fun i _ => len - (intOf i).toNat)
 case atStart => exact ⟨0, Nat.zero_le _, rfl, Below.refl _ _⟩
 case round =>
  obtain ⟨k, hk, rfl, hbel⟩ := hrel
  by_cases hlt : k < len
  ·
   obtain ⟨b, off, n1, ao1, l1, c1, rfl, h0, h1, e1, hi, hw1⟩ := (HR.out.1.later hbel).at hlt
   obtain ⟨b', off', n2, ao2, l2, c2, rfl, g0, g1, e2, hj, hw2⟩ := (HR.out.2.1.later hbel).at hlt
   have e3 : n1 = n2 := by rw [e1, e2]
   subst e3
   have hl1 : l1 ≤ 100000 := by rw [hi.hlen]; exact HR.out.2.2 _
   have hcon : ∀ W', Below wr.heap.size wr W' → Calls Tryz.prog 21 #[.agg #[.bool n1, .slice ao1 l1 c1], .agg #[.bool n1, .slice ao2 l2 c2]] W' fun e w' => e = .returned (.bool true) ∧ Below W'.heap.size W' w' := fun W' hW => eqint_same n1 ao1 ao2 l1 c1 l2 c2 _ W' (hi.later hW) (hj.later hW) (by omega)
   have hlt' : (k : Int) < (len : Int) := by omega
   have hge' : (0 : Int) ≤ (k : Int) := by omega
   have KS : Hid (∀ w', Below wr.heap.size wr w' → Below wr.heap.size wr w' ∧ w'.cell? ⟨b, off + k * 2, none⟩ = some (.bool n1) ∧ w'.cell? ⟨b, off + k * 2 + 1, none⟩ = some (.slice ao1 l1 c1) ∧ w'.cell? ⟨b', off' + k * 2, none⟩ = some (.bool n1) ∧ w'.cell? ⟨b', off' + k * 2 + 1, none⟩ = some (.slice ao2 l2 c2)) := fun w' hb => ⟨hb, (hb.cell (p := ⟨b, off + k * 2, none⟩) (cell_lt h0)).trans h0, (hb.cell (p := ⟨b, off + k * 2 + 1, none⟩) (cell_lt h1)).trans h1, (hb.cell (p := ⟨b', off' + k * 2, none⟩) (cell_lt g0)).trans g0, (hb.cell (p := ⟨b', off' + k * 2 + 1, none⟩) (cell_lt g1)).trans g1⟩
   clear hi hj hl1 e1 e2 hw1 hw2
   go_wp2
   go_region_held3 (fun w' => Below wr.heap.size wr w' ∧ w'.cell? ⟨b, off + k * 2, none⟩ = some (.bool n1) ∧ w'.cell? ⟨b, off + k * 2 + 1, none⟩ = some (.slice ao1 l1 c1) ∧ w'.cell? ⟨b', off' + k * 2, none⟩ = some (.bool n1) ∧ w'.cell? ⟨b', off' + k * 2 + 1, none⟩ = some (.slice ao2 l2 c2))
    (first | exact KS.out _ (Below.refl _ _).drew | exact KS.out _ (by assumption))
    (first | (go_at_call 21; refine (hcon _ (Below.refl _ _).drew).mono ?_; rintro e w1 ⟨rfl, hb1'⟩; have hb1 : Below wr.heap.size wr w1 := bnext (Below.refl _ _).drew hb1'))
   go_wp2
   go_roundw
   case rel => exact ⟨k + 1, by omega, by go_num, bnext hbel hb1⟩
   case measure => simp [intOf]; omega
  ·
   obtain rfl : k = len := by omega
   go_wp2
   go_ret
   exact ⟨rfl, hbel⟩
theorem eqpoly_of {x y : Value} {w : World} (h : Calls Tryz.prog 61 #[x, y] w fun e w' => e = .returned (.bool true) ∧ Below w.heap.size w w') :
  Calls Tryz.prog 31 #[x, y] w fun e w' => e = .returned (.bool true) ∧ Below w.heap.size w w' := by
 go_enter Tryz.func31, Tryz.ntmps31
 go_wp2_with (go_at_call 61; refine h.mono ?_; rintro e w1 ⟨rfl, hb1⟩)
 go_ret
 exact ⟨rfl, hb1⟩
structure SpP (B : Nat) (w : World) (g : Nat) (p : List Int) (k : Nat) : Prop where
 soft : ∀ j, w.frozen? ⟨g, j, none⟩ = false
 coef : ∀ t, k ≤ t → t < p.length → CoefO B w g (t * 2) (dig p t)
 apart : ∀ s t, k ≤ s → k ≤ t → s < p.length → t < p.length → s ≠ t → ∀ (a b : Addr) (l l' c c' : Nat), w.cell? ⟨g, s * 2 + 1, none⟩ = some (.slice (some a) l c) → w.cell? ⟨g, t * 2 + 1, none⟩ = some (.slice (some b) l' c') → a.block ≠ b.block
 away : ∀ t, k ≤ t → t < p.length → ∀ (a : Addr) (l c : Nat), w.cell? ⟨g, t * 2 + 1, none⟩ = some (.slice (some a) l c) → a.block ≠ g
 there : ∀ j, j < p.length * 2 → ∃ u, w.cell? ⟨g, j, none⟩ = some u
theorem PBlkO.spoil {B : Nat} {w : World} {g : Nat} {p : List Int} (h : PBlkO B w g p) : SpP B w g p 0 := by
 refine ⟨h.soft, fun t _ ht => h.coef t ht, fun s t _ _ => h.apart s t, fun t _ => h.away t, fun j hj => ?_⟩
 obtain ⟨n, ao, l, c, ⟨h0, h1⟩, _⟩ := h.coef (j / 2) (by omega)
 rcases Nat.mod_two_eq_zero_or_one j with e | e
 ·
  exact ⟨_, by rw [show j = j / 2 * 2 by omega]; exact h0⟩
 ·
  exact ⟨_, by rw [show j = j / 2 * 2 + 1 by omega]; exact h1⟩
theorem SpP.step {B : Nat} {w w1 : World} {g k l c : Nat} {p : List Int} {ao : Option Addr} {x y : Value} (h : SpP B w g p k) (hk : k < p.length) (hc : w.cell? ⟨g, k * 2 + 1, none⟩ = some (.slice ao l c)) (hs : Stay ao w w1) (hg : g < w.heap.size) : SpP B ((w1.setCell ⟨g, k * 2, none⟩ x).setCell ⟨g, k * 2 + 1, none⟩ y) g p (k + 1) := by
 have hng : ∀ a : Addr, ao = some a → a.block ≠ g := fun a ha => by subst ha; exact h.away k (Nat.le_refl _) hk a l c hc
 have e1 : ∀ j, w1.cell? ⟨g, j, none⟩ = w.cell? ⟨g, j, none⟩ := fun j => hs.cell hg hng
 have e2 : ∀ t, k + 1 ≤ t → ∀ i, i < 2 → ((w1.setCell ⟨g, k * 2, none⟩ x).setCell ⟨g, k * 2 + 1, none⟩ y).cell? ⟨g, t * 2 + i, none⟩ = w.cell? ⟨g, t * 2 + i, none⟩ := fun t ht i hi => by
  rw [setCell_ne (by rintro ⟨_, h⟩; simp only at h; omega), setCell_ne (by rintro ⟨_, h⟩; simp only at h; omega), e1]
 refine ⟨fun j => by rw [soft_far, soft_far, hs.frozen hg hng]; exact h.soft j, fun t ht htl => ?_, fun s t hs' ht hsl htl hn a b l l' c c' q1 q2 => h.apart s t (by omega) (by omega) hsl htl hn a b l l' c c' (by rw [← e2 s hs' 1 (by omega)]; exact q1) (by rw [← e2 t ht 1 (by omega)]; exact q2), fun t ht htl a l c q => h.away t (by omega) htl a l c (by rw [← e2 t ht 1 (by omega)]; exact q), fun j hj => ?_⟩
 ·
  obtain ⟨n, bo, l', c', ⟨q0, q1⟩, q2, ho⟩ := h.coef t (by omega) htl
  refine ⟨n, bo, l', c', ⟨(e2 t ht 0 (by omega)).trans q0, by rw [e2 t ht 1 (by omega)]; exact q1⟩, q2, ?_⟩
  rcases ho with ho | ⟨g', off, cur, r1, r2, r3, r4⟩
  ·
   exact Or.inl ho
  ·
   refine Or.inr ⟨g', off, cur, r1, r2, ?_, r4⟩
   have hne : g' ≠ g := by subst r1; exact h.away t (by omega) htl _ _ _ q1
   rw [Below.heap_setCell _ ⟨g, k * 2 + 1, none⟩ y _ hne, Below.heap_setCell _ ⟨g, k * 2, none⟩ x _ hne]
   rw [hs.block g' (heap_lt r3) ?_]
   ·
    exact r3
   ·
    intro a ha
    subst ha
    subst r1
    exact h.apart k t (Nat.le_refl _) (by omega) hk htl (by omega) _ _ _ _ _ _ hc q1
 ·
  obtain ⟨u, hu⟩ := h.there j hj
  obtain ⟨u0, hu0⟩ := h.there (k * 2) (by omega)
  obtain ⟨u1, hu1⟩ := h.there (k * 2 + 1) (by omega)
  rw [← e1] at hu hu0 hu1
  by_cases q1 : j = k * 2 + 1
  ·
   subst q1; exact ⟨y, by simp [go_sem, hu0, hu1]⟩
  ·
   by_cases q0 : j = k * 2
   ·
    subst q0; exact ⟨x, by simp [go_sem, hu0, hu1]⟩
   ·
    exact ⟨u, by rw [setCell_ne (by rintro ⟨_, h⟩; simp only at h; omega), setCell_ne (by rintro ⟨_, h⟩; simp only at h; omega)]; exact hu⟩
theorem SpP.olds {B : Nat} {w : World} {g n k : Nat} {p : List Int} (h : SpP B w g p k) (hn : n = p.length) : ∃ olds : List Value, olds.length = n * 2 ∧ ∀ j u, olds[j]? = some u → w.cell? ⟨g, j, none⟩ = some u := by
 subst hn
 refine ⟨(List.range (p.length * 2)).map fun j => (w.cell? ⟨g, j, none⟩).getD undef, by simp, fun j u hj => ?_⟩
 rw [List.getElem?_map] at hj
 by_cases hl : j < p.length * 2
 ·
  rw [List.getElem?_range hl] at hj
  obtain ⟨z, hz⟩ := h.there j hl
  simp only [Option.map_some, hz, Option.getD_some, Option.some.injEq] at hj
  rw [hz, hj]
 ·
  rw [List.getElem?_eq_none (by simpa using hl)] at hj
  cases hj
theorem SpP.later {B : Nat} {w w' : World} {g k : Nat} {p : List Int} (h : SpP B w g p k) (hb : Below w.heap.size w w') (hg : g < w.heap.size) (hk : p.length ≤ k) : SpP B w' g p k :=
 ⟨fun j => (hb.frozen (p := ⟨g, j, none⟩) hg).trans (h.soft j), fun t h1 h2 => absurd h2 (by omega), fun s t h1 _ h2 => absurd h2 (by omega), fun t h1 h2 => absurd h2 (by omega), fun j hj => by
  obtain ⟨u, hu⟩ := h.there j hj
  exact ⟨u, (hb.cell (p := ⟨g, j, none⟩) hg).trans hu⟩⟩
theorem spoilPoly_any (B : Nat) (ao : Option Addr) (len : Nat) (p : List Int) (w : World) (ho : POwn B w ao len len p) (hB : B ≤ w.heap.size) (hl : len ≤ 1000) (hlim : Lim 100000 p) :
  Calls Tryz.prog 55 #[.slice ao len len] w fun e w' => e = .returned (.tuple #[]) ∧ Below B w w' := by
 obtain ⟨i0, hi, hz0, hz1, hz2⟩ := info_parts infoInt
 have h63 : Hid (len + 1 ≤ maxLen) := by show _ ≤ _; unfold maxLen; omega
 have hby : Hid ((len + 1) * 32 ≤ 140737488355328) := by show _ ≤ _; omega
 obtain ⟨h1, _, h3⟩ := ho
 have HLN : Hid (len = p.length) := h1
 clear h1
 rcases h3 with ⟨h0, rfl⟩ | ⟨h0, g, rfl, hBg, hgl, hPB⟩
 ·
  subst h0
  have hbA : Below B w (w.alloc (.cells #[.bool false, .slice none 0 0] 28)) := (Below.refl B w).alloc hB _
  go_enter Tryz.func55, Tryz.ntmps55
  go_wp2
  go_loopw [2] (fun i wr => i = .int .i64 0 ∧ wr = w) (fun i _ => 0)
  case atStart => exact ⟨rfl, rfl⟩
  case round =>
   obtain ⟨rfl, rfl⟩ := hrel
   go_wp2_with (at_builtin; refine wpList_append_grows _ rfl _ _ 24 rfl 28 i0 (.agg #[.bool false, .slice none 0 0]) 2 32 Tryz.underlying24 hi hz0 hz1 hz2 rfl (by decide) none 0 0 [] rfl (fun _ => ⟨rfl, rfl⟩) rfl (fun b h => by cases h) ⟨wr.heap.size, 0, none⟩ 1 1 [.bool false, .slice none 0 0] rfl rfl (World.news_of_block (cs := #[.bool false, .slice none 0 0]) (t := 28) (fr := (0, 0)) (heap_alloc_new wr _)) (by simp [Value.oneCell']) (by decide) h63.out hby.out ?_; intro v' w' hown hgrow)
   go_end0
   exact ⟨rfl, hbA.trans ((grown_below hgrow).mono (Nat.le_trans hB hbA.size))⟩
 ·
  have HSP : Hid (SpP B w g p 0 ∧ g < w.heap.size) := ⟨hPB.spoil, hgl⟩
  have HLM : Hid (Lim 100000 p) := hlim
  clear hPB hgl hlim h0
  go_enter Tryz.func55, Tryz.ntmps55
  go_wp2
  go_loopw [2] (fun i wr => ∃ k : Nat, k ≤ len ∧ i = .int .i64 k ∧ SpP B wr g p k ∧ g < wr.heap.size ∧ Below B w wr) (fun i _ => len - (intOf i).toNat)
  case atStart => exact ⟨0, Nat.zero_le _, rfl, HSP.out.1, HSP.out.2, Below.refl _ _⟩
  case round =>
   obtain ⟨k, hk, rfl, hsp, hgl, hbel⟩ := hrel
   have HS : Hid (SpP B wr g p k) := hsp
   by_cases hlt : k < len
   ·
    have hkl : Hid (k < p.length) := by show k < _; rw [← HLN.out]; exact hlt
    obtain ⟨n1, ao1, l1, c1, ⟨e0, e1⟩, hs1, ho1⟩ := hsp.coef k (Nat.le_refl _) hkl.out
    have HO : Hid (Own B wr .u64 74 ao1 l1 c1 (mag (dig p k).natAbs) ∧ wr.cell? ⟨g, k * 2 + 1, none⟩ = some (.slice ao1 l1 c1)) := ⟨ho1, e1⟩
    have hl1 : l1 ≤ 100000 := by rw [(ho1.int hs1).lim]; exact HLM.out k
    have hng : ∀ a : Addr, ao1 = some a → a.block ≠ g := fun a ha => by subst ha; exact hsp.away k (Nat.le_refl _) hkl.out a l1 c1 e1
    have HNG : Hid (∀ a : Addr, ao1 = some a → a.block ≠ g) := hng
    have hfz := hsp.soft
    have HE : Hid (wr.cell? ⟨g, k * 2, none⟩ = some (.bool n1) ∧ ∀ j, wr.frozen? ⟨g, j, none⟩ = false) := ⟨e0, hfz⟩
    clear hs1 ho1 hng hsp hfz
    go_wp2_with (go_at_call 81; refine (spoil_any B n1 ao1 l1 c1 _ _ HO.out.1 (Nat.le_trans hB hbel.size) (by omega)).mono ?_; rintro e w1 ⟨rfl, hb1, hsy⟩; clear e0 e1; have e0 : w1.cell? ⟨g, k * 2, none⟩ = some (.bool n1) := (hsy.cell hgl HNG.out).trans HE.out.1; have e1 : w1.cell? ⟨g, k * 2 + 1, none⟩ = some (.slice ao1 l1 c1) := (hsy.cell hgl HNG.out).trans HO.out.2; have hfz : ∀ j, w1.frozen? ⟨g, j, none⟩ = false := fun j => (hsy.frozen hgl HNG.out).trans (HE.out.2 j))
    go_roundw
    case rel => exact ⟨k + 1, by omega, by go_num, HS.out.step hkl.out HO.out.2 hsy hgl, by (have := hsy.size; simp; omega), ((hbel.trans hb1).setCell (p := ⟨g, k * 2, none⟩) hBg _).setCell (p := ⟨g, k * 2 + 1, none⟩) hBg _⟩
    case measure => simp [intOf]; omega
   ·
    obtain rfl : k = len := by omega
    have hA : Below wr.heap.size wr (wr.alloc (.cells #[.bool false, .slice none 0 0] 28)) := (Below.refl wr.heap.size wr).alloc (Nat.le_refl _) _
    have hbA : Below B w (wr.alloc (.cells #[.bool false, .slice none 0 0] 28)) := hbel.alloc (Nat.le_trans hB hbel.size) _
    obtain ⟨olds, hol⟩ := (hsp.later hA hgl (by rw [← HLN.out]; exact Nat.le_refl _)).olds HLN.out
    have HL : Hid (olds.length = k * 2 ∧ ∀ j u, olds[j]? = some u → (wr.alloc (.cells #[.bool false, .slice none 0 0] 28)).cell? ⟨g, j, none⟩ = some u) := hol
    clear hsp hol
    go_wp2_with (at_builtin; refine wpList_append_grows _ rfl _ _ 24 rfl 28 i0 (.agg #[.bool false, .slice none 0 0]) 2 32 Tryz.underlying24 hi hz0 hz1 hz2 rfl (by decide) (some ⟨g, 0, none⟩) k k olds rfl (fun h => by cases h) HL.out.1 (fun b h j u hj => by cases h; rw [add_none2]; exact HL.out.2 j u hj) ⟨wr.heap.size, 0, none⟩ 1 1 [.bool false, .slice none 0 0] rfl rfl (World.news_of_block (cs := #[.bool false, .slice none 0 0]) (t := 28) (fr := (0, 0)) (heap_alloc_new wr _)) (by simp [Value.oneCell']) (by omega) h63.out hby.out ?_; intro v' w' hown hgrow)
    go_end0
    exact ⟨rfl, hbA.trans ((grown_below hgrow).mono (Nat.le_trans hB hbA.size))⟩
end Go.Proofs.YtojmlcignlcbhaaGreat
namespace Go.Proofs.YtojmlcignlcbhaaGreat
open Go.RowKit
def Cells (w : World) (r : Nat) (vs : List Value) : Prop := ∀ (j : Nat) (u : Value), vs[j]? = some u → w.cell? ⟨r, j, none⟩ = some u
theorem Cells.later {w w' : World} {r : Nat} {vs : List Value} (h : Cells w r vs) (hb : Below w.heap.size w w') (hr : r < w.heap.size) : Cells w' r vs := fun j u hu => (hb.cell (p := ⟨r, j, none⟩) hr).trans (h j u hu)
theorem Cells.new (w : World) (vs : Array Value) (t : TypeId) : Cells (w.alloc (.cells vs t)) w.heap.size vs.toList := fun j u hu => by
 have h := World.news_of_block (cs := vs) (t := t) (fr := (0, 0)) (heap_alloc_new w _) j u hu
 rw [add_none2] at h
 exact h
theorem longRat4_any (na : Bool) (ao po : Option Addr) (la ca lp cp : Nat) (n : Int) (w : World) :
  Calls Tryz.prog 35 #[.agg #[.bool na, .slice ao la ca, .slice po lp cp], .int .i64 n] w fun e w' => ∃ b, e = .returned (.bool b) ∧ Below w.heap.size w w' := by
 have hA : Below w.heap.size w (w.alloc (.cells #[.bool na, .slice ao la ca, .slice po lp cp] 30)) := (Below.refl _ _).alloc (Nat.le_refl _) _
 have HC := Cells.new w #[.bool na, .slice ao la ca, .slice po lp cp] 30
 obtain ⟨b, hb⟩ : ∃ b, decide (n < (la : Int)) = b := ⟨_, rfl⟩
 have hcon : ∀ X, Calls Tryz.prog 34 #[.agg #[.bool na, .slice ao la ca], .int .i64 n] X fun e w' => e = .returned (.bool b) ∧ Below X.heap.size X w' := fun X => (long_any na ao la ca n X).mono fun e w' h => by rw [hb] at h; exact h
 clear hb
 cases b
 ·
  go_enter Tryz.func35, Tryz.ntmps35
  go_wp2_with (go_at_call 34; refine (hcon _).mono ?_; rintro e w1 ⟨rfl, hb1⟩; have q2 := HC.later hb1 (by simp) 2 _ rfl)
  go_ret
  exact ⟨_, rfl, bnext hA hb1⟩
 ·
  go_enter Tryz.func35, Tryz.ntmps35
  go_wp2_with (go_at_call 34; refine (hcon _).mono ?_; rintro e w1 ⟨rfl, hb1⟩)
  go_ret
  exact ⟨_, rfl, bnext hA hb1⟩
theorem heavy4_any (ao bo co : Option Addr) (la ca lb cb lc cc : Nat) (n n4 n5 n6 : Bool) (o4 p4 o5 p5 o6 p6 : Option Addr) (l4 c4 m4 k4 l5 c5 m5 k5 l6 c6 m6 k6 : Nat) (rs ts : List (Bool × List Int)) (w : World) (hp : RawsAt w ao la ca rs) (hs : RawsAt w bo lb cb ts) (hla : la ≤ 9223372036854775807) (hlb : lb ≤ 9223372036854775807) :
  Calls Tryz.prog 4 #[.agg #[.slice ao la ca, .slice bo lb cb, .bool n, .slice co lc cc, .bool n4, .slice o4 l4 c4, .slice p4 m4 k4, .bool n5, .slice o5 l5 c5, .slice p5 m5 k5, .bool n6, .slice o6 l6 c6, .slice p6 m6 k6]] w fun e w' => ∃ hv : Bool, e = .returned (.bool hv) ∧ (hv = false → heavyB 10 3 la rs = false ∧ heavyB 10 3 lb ts = false ∧ lc ≤ 3) ∧ Below w.heap.size w w' := by
 obtain ⟨W, hW⟩ : ∃ W, W = (w.alloc (.cells #[.slice ao la ca, .slice bo lb cb, .bool n, .slice co lc cc, .bool n4, .slice o4 l4 c4, .slice p4 m4 k4, .bool n5, .slice o5 l5 c5, .slice p5 m5 k5, .bool n6, .slice o6 l6 c6, .slice p6 m6 k6] 34)) := ⟨_, rfl⟩
 have HC : Hid ((∀ W', Below W.heap.size W W' → Cells W' w.heap.size [.slice ao la ca, .slice bo lb cb, .bool n, .slice co lc cc, .bool n4, .slice o4 l4 c4, .slice p4 m4 k4, .bool n5, .slice o5 l5 c5, .slice p5 m5 k5, .bool n6, .slice o6 l6 c6, .slice p6 m6 k6]) ∧ Below w.heap.size w W) := by
  rw [hW]
  exact ⟨fun W' hb => (Cells.new w #[.slice ao la ca, .slice bo lb cb, .bool n, .slice co lc cc, .bool n4, .slice o4 l4 c4, .slice p4 m4 k4, .bool n5, .slice o5 l5 c5, .slice p5 m5 k5, .bool n6, .slice o6 l6 c6, .slice p6 m6 k6] 34).later hb (by simp), (Below.refl _ _).alloc (Nat.le_refl _) _⟩
 obtain ⟨b1, hb1⟩ : ∃ b, heavyB 10 3 la rs = b := ⟨_, rfl⟩
 obtain ⟨b2, hb2⟩ : ∃ b, heavyB 10 3 lb ts = b := ⟨_, rfl⟩
 obtain ⟨b3, hb3⟩ : ∃ b, decide ((3 : Int) < (lc : Int)) = b := ⟨_, rfl⟩
 have HB : Hid (heavyB 10 3 la rs = b1 ∧ heavyB 10 3 lb ts = b2 ∧ decide ((3 : Int) < (lc : Int)) = b3) := ⟨hb1, hb2, hb3⟩
 have h1 : ∀ X, Below W.heap.size W X → Calls Tryz.prog 33 #[.slice ao la ca, .int .i64 10, .int .i64 3] X fun e w' => e = .returned (.bool b1) ∧ Below X.heap.size X w' := fun X hb => heavyPoly_any 10 3 ao la ca rs X ((hp.later HC.out.2).later hb) (by omega) (by decide) b1 hb1
 have h2 : ∀ X, Below W.heap.size W X → Calls Tryz.prog 33 #[.slice bo lb cb, .int .i64 10, .int .i64 3] X fun e w' => e = .returned (.bool b2) ∧ Below X.heap.size X w' := fun X hb => heavyPoly_any 10 3 bo lb cb ts X ((hs.later HC.out.2).later hb) (by omega) (by decide) b2 hb2
 have h3 : ∀ X, Calls Tryz.prog 34 #[.agg #[.bool n, .slice co lc cc], .int .i64 3] X fun e w' => e = .returned (.bool b3) ∧ Below X.heap.size X w' := fun X => (long_any n co lc cc 3 X).mono fun e w' h => by rw [hb3] at h; exact h
 clear hb1 hb2 hb3 hp hs
 cases b1
 ·
  cases b2
  ·
   cases b3
   ·
    have HF : Hid (heavyB 10 3 la rs = false ∧ heavyB 10 3 lb ts = false ∧ lc ≤ 3) := ⟨HB.out.1, HB.out.2.1, by have := of_decide_eq_false HB.out.2.2; omega⟩
    go_enter Tryz.func4, Tryz.ntmps4
    go_wp2_with (first
     | (go_at_call 34; refine (h3 _).mono ?_; rintro e w3 ⟨rfl, hb3'⟩; have hb3 := bnext hb2 hb3'; clear hb3' q2 q3; have q4 := HC.out.1 _ hb3 4 _ rfl; have q5 := HC.out.1 _ hb3 5 _ rfl; have q6 := HC.out.1 _ hb3 6 _ rfl)
     | (go_at_call 33; have _t := hb1; refine (h2 _ hb1).mono ?_; rintro e w2 ⟨rfl, hb2'⟩; have hb2 := bnext hb1 hb2'; clear hb2' q1; have q2 := HC.out.1 _ hb2 2 _ rfl; have q3 := HC.out.1 _ hb2 3 _ rfl)
     | (go_at_call 33; rw [← hW]; refine (h1 _ (Below.refl _ _)).mono ?_; rintro e w1 ⟨rfl, hb1⟩; have q1 := HC.out.1 _ hb1 1 _ rfl)
     | (go_at_call 35; have _t := hb5; refine (longRat4_any _ _ _ _ _ _ _ _ _).mono ?_; rintro e w6 ⟨b6, rfl, hb6'⟩; have hb6 := bnext hb5 hb6'; clear hb6' q10 q11 q12)
     | (go_at_call 35; have _t := hb4; refine (longRat4_any _ _ _ _ _ _ _ _ _).mono ?_; rintro e w5 ⟨b5, rfl, hb5'⟩; have hb5 := bnext hb4 hb5'; clear hb5' q7 q8 q9; have q10 := HC.out.1 _ hb5 10 _ rfl; have q11 := HC.out.1 _ hb5 11 _ rfl; have q12 := HC.out.1 _ hb5 12 _ rfl; cases b5)
     | (go_at_call 35; have _t := hb3; refine (longRat4_any _ _ _ _ _ _ _ _ _).mono ?_; rintro e w4 ⟨b4, rfl, hb4'⟩; have hb4 := bnext hb3 hb4'; clear hb4' q4 q5 q6; have q7 := HC.out.1 _ hb4 7 _ rfl; have q8 := HC.out.1 _ hb4 8 _ rfl; have q9 := HC.out.1 _ hb4 9 _ rfl; cases b4))
    all_goals go_ret
    all_goals first
     | exact ⟨_, rfl, fun _ => HF.out, bnext HC.out.2 hb6⟩
     | exact ⟨_, rfl, fun _ => HF.out, bnext HC.out.2 hb5⟩
     | exact ⟨_, rfl, fun _ => HF.out, bnext HC.out.2 hb4⟩
   ·
    go_enter Tryz.func4, Tryz.ntmps4
    go_wp2_with (first
     | (go_at_call 34; refine (h3 _).mono ?_; rintro e w3 ⟨rfl, hb3'⟩; have hb3 := bnext hb2 hb3'; clear hb3' q2 q3; have q4 := HC.out.1 _ hb3 4 _ rfl; have q5 := HC.out.1 _ hb3 5 _ rfl; have q6 := HC.out.1 _ hb3 6 _ rfl)
     | (go_at_call 33; have _t := hb1; refine (h2 _ hb1).mono ?_; rintro e w2 ⟨rfl, hb2'⟩; have hb2 := bnext hb1 hb2'; clear hb2' q1; have q2 := HC.out.1 _ hb2 2 _ rfl; have q3 := HC.out.1 _ hb2 3 _ rfl)
     | (go_at_call 33; rw [← hW]; refine (h1 _ (Below.refl _ _)).mono ?_; rintro e w1 ⟨rfl, hb1⟩; have q1 := HC.out.1 _ hb1 1 _ rfl))
    go_ret
    exact ⟨true, rfl, fun h => (by cases h), bnext HC.out.2 hb3⟩
  ·
   go_enter Tryz.func4, Tryz.ntmps4
   go_wp2_with (first
    | (go_at_call 33; have _t := hb1; refine (h2 _ hb1).mono ?_; rintro e w2 ⟨rfl, hb2'⟩; have hb2 := bnext hb1 hb2'; clear hb2' q1; have q2 := HC.out.1 _ hb2 2 _ rfl; have q3 := HC.out.1 _ hb2 3 _ rfl)
    | (go_at_call 33; rw [← hW]; refine (h1 _ (Below.refl _ _)).mono ?_; rintro e w1 ⟨rfl, hb1⟩; have q1 := HC.out.1 _ hb1 1 _ rfl))
   go_ret
   exact ⟨true, rfl, fun h => (by cases h), bnext HC.out.2 hb2⟩
 ·
  go_enter Tryz.func4, Tryz.ntmps4
  go_wp2_with (first
   | (go_at_call 33; rw [← hW]; refine (h1 _ (Below.refl _ _)).mono ?_; rintro e w1 ⟨rfl, hb1⟩; have q1 := HC.out.1 _ hb1 1 _ rfl))
  go_ret
  exact ⟨true, rfl, fun h => (by cases h), bnext HC.out.2 hb1⟩
theorem one4_any (ao bo co : Option Addr) (la ca lb cb lc cc : Nat) (n n4 n5 n6 : Bool) (o4 p4 o5 p5 o6 p6 : Option Addr) (l4 c4 m4 k4 l5 c5 m5 k5 l6 c6 m6 k6 : Nat) (rs : List (Bool × List Int)) (w : World) (hp : RawsAt w ao la ca rs) (hla : la ≤ 1000) (hlim : ∀ r ∈ rs, r.2.length ≤ 3) (m : Bool) (hm : pmayB la rs = m) (c : Int) (hc : bad1 m = c) :
  Calls Tryz.prog 7 #[.agg #[.slice ao la ca, .slice bo lb cb, .bool n, .slice co lc cc, .bool n4, .slice o4 l4 c4, .slice p4 m4 k4, .bool n5, .slice o5 l5 c5, .slice p5 m5 k5, .bool n6, .slice o6 l6 c6, .slice p6 m6 k6]] w fun e w' => e = .returned (.int .i64 c) ∧ Below w.heap.size w w' := by
 have hA : Below w.heap.size w (w.alloc (.cells #[.slice ao la ca, .slice bo lb cb, .bool n, .slice co lc cc, .bool n4, .slice o4 l4 c4, .slice p4 m4 k4, .bool n5, .slice o5 l5 c5, .slice p5 m5 k5, .bool n6, .slice o6 l6 c6, .slice p6 m6 k6] 34)) := (Below.refl _ _).alloc (Nat.le_refl _) _
 have h1 : Calls Tryz.prog 37 #[.slice ao la ca] (w.alloc (.cells #[.slice ao la ca, .slice bo lb cb, .bool n, .slice co lc cc, .bool n4, .slice o4 l4 c4, .slice p4 m4 k4, .bool n5, .slice o5 l5 c5, .slice p5 m5 k5, .bool n6, .slice o6 l6 c6, .slice p6 m6 k6] 34)) fun e w' => e = .returned (.bool m) ∧ Below (w.alloc (.cells #[.slice ao la ca, .slice bo lb cb, .bool n, .slice co lc cc, .bool n4, .slice o4 l4 c4, .slice p4 m4 k4, .bool n5, .slice o5 l5 c5, .slice p5 m5 k5, .bool n6, .slice o6 l6 c6, .slice p6 m6 k6] 34)).heap.size (w.alloc (.cells #[.slice ao la ca, .slice bo lb cb, .bool n, .slice co lc cc, .bool n4, .slice o4 l4 c4, .slice p4 m4 k4, .bool n5, .slice o5 l5 c5, .slice p5 m5 k5, .bool n6, .slice o6 l6 c6, .slice p6 m6 k6] 34)) w' := pmay_any ao la ca rs _ (hp.later hA) (by omega) (fun r hr => Nat.le_trans (hlim r hr) (by decide)) m hm
 clear hp hlim hm
 cases m
 ·
  obtain rfl : c = 50 := hc.symm
  clear hc
  go_enter Tryz.func7, Tryz.ntmps7
  go_wp2_with (go_at_call 37; refine h1.mono ?_; rintro e w1 ⟨rfl, hb1⟩)
  go_ret
  exact ⟨rfl, bnext hA hb1⟩
 ·
  obtain rfl : c = 0 := hc.symm
  clear hc
  go_enter Tryz.func7, Tryz.ntmps7
  go_wp2_with (go_at_call 37; refine h1.mono ?_; rintro e w1 ⟨rfl, hb1⟩)
  go_ret
  exact ⟨rfl, bnext hA hb1⟩
theorem two4_any (ao bo co : Option Addr) (la ca lb cb lc cc : Nat) (n n4 n5 n6 : Bool) (o4 p4 o5 p5 o6 p6 : Option Addr) (l4 c4 m4 k4 l5 c5 m5 k5 l6 c6 m6 k6 : Nat) (rs ts : List (Bool × List Int)) (w : World) (hp : RawsAt w ao la ca rs) (hs : RawsAt w bo lb cb ts) (hla : la ≤ 1000) (hlb : lb ≤ 1000) (hlim : ∀ r ∈ rs, r.2.length ≤ 3) (hlim' : ∀ r ∈ ts, r.2.length ≤ 3) (m k : Bool) (hm : pmayB la rs = m) (hk : pmayB lb ts = k) (c : Int) (hc : bad1 (m && k) = c) :
  Calls Tryz.prog 6 #[.agg #[.slice ao la ca, .slice bo lb cb, .bool n, .slice co lc cc, .bool n4, .slice o4 l4 c4, .slice p4 m4 k4, .bool n5, .slice o5 l5 c5, .slice p5 m5 k5, .bool n6, .slice o6 l6 c6, .slice p6 m6 k6]] w fun e w' => e = .returned (.int .i64 c) ∧ Below w.heap.size w w' := by
 obtain ⟨W, hW⟩ : ∃ W, W = (w.alloc (.cells #[.slice ao la ca, .slice bo lb cb, .bool n, .slice co lc cc, .bool n4, .slice o4 l4 c4, .slice p4 m4 k4, .bool n5, .slice o5 l5 c5, .slice p5 m5 k5, .bool n6, .slice o6 l6 c6, .slice p6 m6 k6] 34)) := ⟨_, rfl⟩
 have HC : Hid ((∀ W', Below W.heap.size W W' → Cells W' w.heap.size [.slice ao la ca, .slice bo lb cb, .bool n, .slice co lc cc, .bool n4, .slice o4 l4 c4, .slice p4 m4 k4, .bool n5, .slice o5 l5 c5, .slice p5 m5 k5, .bool n6, .slice o6 l6 c6, .slice p6 m6 k6]) ∧ Below w.heap.size w W) := by
  rw [hW]
  exact ⟨fun W' hb => (Cells.new w #[.slice ao la ca, .slice bo lb cb, .bool n, .slice co lc cc, .bool n4, .slice o4 l4 c4, .slice p4 m4 k4, .bool n5, .slice o5 l5 c5, .slice p5 m5 k5, .bool n6, .slice o6 l6 c6, .slice p6 m6 k6] 34).later hb (by simp), (Below.refl _ _).alloc (Nat.le_refl _) _⟩
 have h1 : Calls Tryz.prog 37 #[.slice ao la ca] W fun e w' => e = .returned (.bool m) ∧ Below W.heap.size W w' := pmay_any ao la ca rs _ (hp.later HC.out.2) (by omega) (fun r hr => Nat.le_trans (hlim r hr) (by decide)) m hm
 have h2 : ∀ X, Below W.heap.size W X → Calls Tryz.prog 37 #[.slice bo lb cb] X fun e w' => e = .returned (.bool k) ∧ Below X.heap.size X w' := fun X hb => pmay_any bo lb cb ts _ ((hs.later HC.out.2).later hb) (by omega) (fun r hr => Nat.le_trans (hlim' r hr) (by decide)) k hk
 clear hp hlim hm hs hlim' hk
 cases m
 ·
  obtain rfl : c = 50 := hc.symm
  clear hc
  go_enter Tryz.func6, Tryz.ntmps6
  go_wp2_with (go_at_call 37; rw [← hW]; refine h1.mono ?_; rintro e w1 ⟨rfl, hb1⟩)
  go_ret
  exact ⟨rfl, bnext HC.out.2 hb1⟩
 ·
  cases k
  ·
   obtain rfl : c = 50 := hc.symm
   clear hc
   go_enter Tryz.func6, Tryz.ntmps6
   go_wp2_with (first
    | (go_at_call 37; have _t := hb1; refine (h2 _ hb1).mono ?_; rintro e w2 ⟨rfl, hb2⟩)
    | (go_at_call 37; rw [← hW]; refine h1.mono ?_; rintro e w1 ⟨rfl, hb1⟩; have q1 := HC.out.1 _ hb1 1 _ rfl))
   go_ret
   exact ⟨rfl, bnext HC.out.2 (bnext hb1 hb2)⟩
  ·
   obtain rfl : c = 0 := hc.symm
   clear hc
   go_enter Tryz.func6, Tryz.ntmps6
   go_wp2_with (first
    | (go_at_call 37; have _t := hb1; refine (h2 _ hb1).mono ?_; rintro e w2 ⟨rfl, hb2⟩)
    | (go_at_call 37; rw [← hW]; refine h1.mono ?_; rintro e w1 ⟨rfl, hb1⟩; have q1 := HC.out.1 _ hb1 1 _ rfl))
   go_ret
   exact ⟨rfl, bnext HC.out.2 (bnext hb1 hb2)⟩
theorem num4_any (v : Int) (w : World) : Calls Tryz.prog 18 #[.int .i64 v] w fun e w' => e = .returned (.int .i64 v) ∧ Below w.heap.size w w' := by
 go_enter Tryz.func18, Tryz.ntmps18
 go_wp2
 go_ret
 exact ⟨rfl, Below.refl _ _⟩
theorem is4_any (B : Nat) (c : Int) (ao qo : Option Addr) (l lq cq : Nat) (L : List Int) (w : World) (ha : PAns B w c ao l L) (hw : c = 0 → PolyAt w qo lq cq L) (hB : B ≤ w.heap.size) (hl : c = 0 → L.length ≤ 1000) (hM : c = 0 → Lim 100000 L) :
  Calls Tryz.prog 25 #[.slice ao l l, .int .i64 c, .int .i64 c, .slice qo lq cq] w fun e w' => e = .returned (.bool true) ∧ Below B w w' := by
 rcases ha with ⟨rfl, ho⟩ | ⟨rfl, rfl, rfl⟩
 ·
  have hp := ho.poly
  have hq := hw rfl
  replace hl := hl rfl
  replace hM := hM rfl
  obtain rfl : lq = l := by rw [hq.hlen, hp.hlen]
  have h1 : ∀ X, Below w.heap.size w X → Calls Tryz.prog 31 #[.slice ao lq lq, .slice qo lq cq] X fun e w' => e = .returned (.bool true) ∧ Below X.heap.size X w' := fun X hb => eqpoly_of (eqints_same ao qo lq lq cq L X (hp.later hb) (hq.later hb) (by rw [hp.hlen]; omega) (hM.mono (by decide)))
  have h2 : ∀ X, Below w.heap.size w X → Calls Tryz.prog 55 #[.slice ao lq lq] X fun e w' => e = .returned (.tuple #[]) ∧ Below B X w' := fun X hb => spoilPoly_any B ao lq L X (ho.later hb) (Nat.le_trans hB hb.size) (by rw [hp.hlen]; exact hl) hM
  clear ho hw hp hq hM hl
  go_enter Tryz.func25, Tryz.ntmps25
  go_wp2_with (first
   | (go_at_call 18; refine (num4_any _ _).mono ?_; rintro e w1 ⟨rfl, hb1⟩)
   | (go_at_call 31; refine (h1 _ hb1).mono ?_; rintro e w2 ⟨rfl, hb2'⟩; have hb2 := bnext hb1 hb2')
   | (go_at_call 55; refine (h2 _ hb2).mono ?_; rintro e w3 ⟨rfl, hb3⟩))
  go_ret
  exact ⟨rfl, (hb2.mono hB).trans hb3⟩
 ·
  clear hw hM hl
  go_enter Tryz.func25, Tryz.ntmps25
  go_wp2_with (go_at_call 18; refine (num4_any _ _).mono ?_; rintro e w1 ⟨rfl, hb1⟩)
  go_ret
  exact ⟨rfl, hb1.mono hB⟩
theorem mayB_int (v : Int) : mayB (sgB v) (mag v.natAbs) = true := by
 by_cases e : v = 0
 ·
  subst e; rfl
 ·
  rw [mayB_last (fun q => lim_pos e (by unfold lim; rw [q]; rfl))]
  have := mag_can v.natAbs
  unfold Can at this
  rw [List.getLast?_eq_getElem?] at this
  simp only [bne_iff_ne, ne_eq]
  intro q
  apply this
  have hl : (mag v.natAbs).length - 1 < (mag v.natAbs).length := by have := lim_pos e; unfold lim at this; omega
  rw [List.getElem?_eq_getElem hl]
  unfold dig at q
  rw [List.getD_eq_getElem?_getD, List.getElem?_eq_getElem hl] at q
  simpa using q
theorem parg_of_poly {w : World} {ao : Option Addr} {len cap : Nat} {p : List Int} (hp : PolyAt w ao len cap p) (hs : len ≤ 11) (hL : Lead p) (hM : Lim 3 p) : PArg w ao len cap (rsOf p) true p := by
 have hrv : ∀ t, (rv (rsOf p) t).2.length ≤ 3 := fun t => by
  by_cases h : t < (rsOf p).length
  ·
   rw [rv_eq h, rsOf_get]; exact hM t
  ·
   unfold rv; rw [List.getD_eq_getElem?_getD, List.getElem?_eq_none (by omega)]; simp
 refine ⟨⟨by rw [rsOf_len]; exact hp.hlen, hp.hcap, hp.hnil, ?_⟩, hs, hrv, ?_, fun _ => ⟨hp, hL, hM⟩⟩
 ·
  rcases hp.hat with h0 | ⟨b, off, h1, h2⟩
  ·
   exact Or.inl h0
  ·
   refine Or.inr ⟨b, off, h1, fun t ht => ?_⟩
   obtain ⟨n, ao', l, c, hc, hi⟩ := h2 t (by rw [hp.hlen, ← rsOf_len]; exact ht)
   rw [rsOf_get]
   exact ⟨ao', l, c, ⟨by rw [← hi.sg]; exact hc.1, hc.2⟩, hi.row, mag_wd _⟩
 ·
  unfold pmayB
  rw [decide_eq_true (show len ≤ 1025 by omega), Bool.true_and, Bool.and_eq_true]
  refine ⟨?_, ?_⟩
  ·
   rw [List.all_eq_true]
   intro r hr
   obtain ⟨v, _, rfl⟩ := List.mem_map.1 hr
   exact mayB_int v
  ·
   by_cases e : len = 0
   ·
    rw [decide_eq_true e]; rfl
   ·
    rw [Bool.or_eq_true]
    right
    have hl : len - 1 < (rsOf p).length := by rw [rsOf_len, ← hp.hlen]; omega
    have e2 : (rsOf p).getD (len - 1) (false, []) = _ := rv_eq hl
    rw [e2, rsOf_get]
    refine decide_eq_true (fun q => ?_)
    have h3 := hL (by rw [← hp.hlen]; omega)
    rw [← hp.hlen] at h3
    exact lim_pos h3 (by unfold lim; rw [show mag (dig p (len - 1)).natAbs = [] from q]; rfl)
end Go.Proofs.YtojmlcignlcbhaaGreat
