/-
  Walks: an answer is written over (Words).
-/
import Derived.Test.YtdanaebhjkbfmaaGreatPH09
import Derived.Test.YtdanaebhjkbfmaaGreatPH12
import Derived.ArgAppend
namespace Go.Proofs.YtdanaebhjkbfmaaGreat
open Go.RowKit
set_option linter.unusedVariables false
set_option linter.unusedSimpArgs false
/-- a row that may be written, with its spare room -/
structure Spoil (w : World) (g off len cap : Nat) : Prop where
  cell : ∀ j, j < len → ∃ z, w.cell? ⟨g, off + j, none⟩ = some (.int .u64 z)
  room : ∀ j, j < cap → (w.cell? ⟨g, off + j, none⟩).isSome = true
  soft : ∀ j, w.frozen? ⟨g, j, none⟩ = false
  lt : g < w.heap.size
theorem Spoil.ofOwn {B : Nat} {w : World} {t : TypeId} {g off len cap : Nat} {zs : List Int} (h : Own B w .u64 t (some ⟨g, off, none⟩) len cap zs) : Spoil w g off len cap ∧ B ≤ g ∧ len ≤ cap := by
  rcases h with ⟨h, _⟩ | ⟨g', off', cur, he, hB, hh, hc, hl, _, hz⟩
  · cases h
  · cases he
    have hlt := heap_lt hh
    refine ⟨⟨fun j hj => ⟨dig zs j, ?_⟩, fun j hj => ?_, fun j => ?_, hlt⟩, hB, hl⟩
    · simp only [World.cell?, hh]; exact hz j hj
    · simp only [World.cell?, hh]; simp; omega
    · simp [World.frozen?, hh]
theorem Spoil.later {w w' : World} {g off len cap : Nat} (h : Spoil w g off len cap) (hb : Below w.heap.size w w') : Spoil w' g off len cap :=
  ⟨fun j hj => by obtain ⟨z, hz⟩ := h.cell j hj; exact ⟨z, (hb.cell (p := ⟨g, off + j, none⟩) h.lt).trans hz⟩,
   fun j hj => by rw [hb.cell (p := ⟨g, off + j, none⟩) h.lt]; exact h.room j hj,
   fun j => by rw [hb.frozen (p := ⟨g, j, none⟩) h.lt]; exact h.soft j, Nat.lt_of_lt_of_le h.lt hb.size⟩
theorem Spoil.set {w : World} {g off len cap k : Nat} (h : Spoil w g off len cap) (hk : k < len) (z : Int) : Spoil (w.setCell ⟨g, off + k, none⟩ (.int .u64 z)) g off len cap := by
  have hs : (w.cell? ⟨g, off + k, none⟩).isSome = true := by obtain ⟨y, hy⟩ := h.cell k hk; rw [hy]; rfl
  refine ⟨fun j hj => ?_, fun j hj => ?_, fun j => ?_, by simpa using h.lt⟩
  · by_cases e : j = k
    · subst e; obtain ⟨y, hy⟩ := h.cell j hj; exact ⟨z, by simp [go_sem, hy]⟩
    · obtain ⟨y, hy⟩ := h.cell j hj; obtain ⟨y', hy'⟩ := h.cell k hk; exact ⟨y, by simp [go_sem, hy, hy', e]⟩
  · by_cases e : j = k
    · subst e; obtain ⟨y, hy⟩ := h.cell j hk; simp [go_sem, hy]
    · have := h.room j hj; obtain ⟨y', hy'⟩ := h.cell k hk; simpa [go_sem, hy', e] using this
  · have := h.soft j; simpa [go_sem] using this
/-- of what was there all stays, but for the slice's own block -/
structure Stay (ao : Option Addr) (w w' : World) : Prop where
  size : w.heap.size ≤ w'.heap.size
  block : ∀ k, k < w.heap.size → (∀ p : Addr, ao = some p → p.block ≠ k) → w'.heap[k]? = w.heap[k]?
theorem Stay.refl (ao : Option Addr) (w : World) : Stay ao w w := ⟨Nat.le_refl _, fun _ _ _ => rfl⟩
theorem Stay.set {g off : Nat} {w w' : World} (h : Stay (some ⟨g, off, none⟩) w w') (j : Nat) (v : Value) : Stay (some ⟨g, off, none⟩) w (w'.setCell ⟨g, j, none⟩ v) :=
  ⟨by simpa [World.setCell] using h.size, fun k hk hp => by rw [Below.heap_setCell w' ⟨g, j, none⟩ v k (fun e => hp _ rfl e.symm)]; exact h.block k hk hp⟩
theorem Stay.next {ao : Option Addr} {w w' w2 : World} (h : Stay ao w w') (hb : Below w'.heap.size w' w2) : Stay ao w w2 :=
  ⟨Nat.le_trans h.size hb.size, fun k hk hp => (hb.block k (Nat.lt_of_lt_of_le hk h.size)).trans (h.block k hk hp)⟩
theorem Stay.after {ao : Option Addr} {w w' w2 : World} (hb : Below w.heap.size w w') (h : Stay ao w' w2) : Stay ao w w2 :=
  ⟨Nat.le_trans hb.size h.size, fun k hk hp => (h.block k (Nat.lt_of_lt_of_le hk hb.size) hp).trans (hb.block k hk)⟩
theorem Stay.cell {ao : Option Addr} {w w' : World} (h : Stay ao w w') {r j : Nat} (hr : r < w.heap.size) (hp : ∀ p : Addr, ao = some p → p.block ≠ r) : w'.cell? ⟨r, j, none⟩ = w.cell? ⟨r, j, none⟩ := by
  simp only [World.cell?, h.block r hr hp]
theorem Stay.frozen {ao : Option Addr} {w w' : World} (h : Stay ao w w') {r j : Nat} (hr : r < w.heap.size) (hp : ∀ p : Addr, ao = some p → p.block ≠ r) : w'.frozen? ⟨r, j, none⟩ = w.frozen? ⟨r, j, none⟩ := by
  simp only [World.frozen?, h.block r hr hp]
theorem below_cells {B g o : Nat} {w w' : World} {v : Value} (h : Below B w w') (hg : B ≤ g) : Below B w (w'.setCells g o [v]) := h.setCell (p := ⟨g, o, none⟩) hg v
theorem Spoil.olds {w : World} {g off len cap : Nat} (h : Spoil w g off len cap) : ∃ olds : List Value, olds.length = len * 1 ∧ ∀ j u, olds[j]? = some u → w.cell? ⟨g, off + j, none⟩ = some u := by
  refine ⟨(List.range len).map fun j => (w.cell? ⟨g, off + j, none⟩).getD undef, by simp, fun j u hj => ?_⟩
  rw [List.getElem?_map] at hj
  by_cases hl : j < len
  · rw [List.getElem?_range hl] at hj
    obtain ⟨z, hz⟩ := h.cell j hl
    simp only [Option.map_some, hz, Option.getD_some, Option.some.injEq] at hj
    rw [hz, hj]
  · rw [List.getElem?_eq_none (by simpa using hl)] at hj
    cases hj
set_option maxRecDepth 100000 in
set_option maxHeartbeats 2000000 in
theorem words_any (B : Nat) (ao : Option Addr) (len cap : Nat) (zs : List Int) (w : World) (ho : Own B w .u64 73 ao len cap zs) (hB : B ≤ w.heap.size) (hl : len ≤ 8589934592) :
    Calls Tryz.prog 91 #[.slice ao len cap] w fun e w' => e = .returned (.tuple #[]) ∧ Below B w w' ∧ Stay ao w w' := by
  obtain ⟨i0, hi, hz0, hz1, hz2⟩ := info_parts info64
  have h63 : Hid (len + 1 ≤ maxLen) := by show _ ≤ _; unfold maxLen; omega
  have hby : Hid ((len + 1) * 8 ≤ 140737488355328) := by show _ ≤ _; omega
  have HO : Hid (Own B w .u64 73 ao len cap zs) := ho
  by_cases hao : ao = none
  · subst hao
    obtain ⟨rfl, rfl⟩ : len = 0 ∧ cap = 0 := by
      rcases ho with ⟨_, h1, h2, _⟩ | ⟨g', off', cur, he, _⟩
      · exact ⟨h1, h2⟩
      · cases he
    have hbA : Below B w (w.alloc (.cells #[.int .u64 7] 73)) := (Below.refl B w).alloc hB _
    clear ho
    go_enter Tryz.func91, Tryz.ntmps91
    go_wp2
    go_loopw [2] (fun i wr => i = .int .i64 0 ∧ wr = w) (fun i _ => 0)
    case atStart => exact ⟨rfl, rfl⟩
    case round =>
      obtain ⟨rfl, rfl⟩ := hrel
      go_wp2_with (at_builtin; refine wpList_append_grows _ rfl _ _ 25 rfl 73 i0 (.int .u64 0) 1 8 Tryz.underlying25 hi hz0 hz1 hz2 rfl (by decide) none 0 0 [] rfl (fun _ => ⟨rfl, rfl⟩) rfl (fun b h => by cases h) ⟨wr.heap.size, 0, none⟩ 1 1 [.int .u64 7] rfl rfl (World.news_of_block (cs := #[.int .u64 7]) (t := 73) (fr := (0, 0)) (heap_alloc_new wr _)) (by simp [Value.oneCell']) (by decide) h63.out hby.out ?_; intro v' w' hown hgrow)
      go_end0
      exact ⟨rfl, hbA.trans ((grown_below hgrow).mono (Nat.le_trans hB hbA.size)), ((Stay.refl _ _).next ((Below.refl _ _).alloc (Nat.le_refl _) _)).next (grown_below hgrow)⟩
  · obtain ⟨⟨g, off, sp⟩, rfl⟩ : ∃ x, ao = some x := Option.ne_none_iff_exists'.1 hao
    obtain rfl : sp = none := by
      rcases ho with ⟨h, _⟩ | ⟨g', off', cur, he, _⟩
      · cases h
      · cases he; rfl
    obtain ⟨hsp, hBg, hlc⟩ := Spoil.ofOwn ho
    have HSP : Hid (Spoil w g off len cap) := hsp
    clear ho hsp hao
    go_enter Tryz.func91, Tryz.ntmps91
    go_wp2
    go_loopw [2] (fun i wr => ∃ k : Nat, k ≤ len ∧ i = .int .i64 k ∧ Spoil wr g off len cap ∧ Below B w wr ∧ Stay (some ⟨g, off, none⟩) w wr) (fun i _ => len - (intOf i).toNat)
    case atStart => exact ⟨0, Nat.zero_le _, rfl, HSP.out, Below.refl _ _, Stay.refl _ _⟩
    case round =>
      obtain ⟨k, hk, rfl, hsp, hbel, hsy⟩ := hrel
      have HSY : Hid (Stay (some ⟨g, off, none⟩) w wr) := hsy
      clear hsy
      have HS : Hid (Spoil wr g off len cap) := hsp
      have hgl := hsp.lt
      by_cases hlt : k < len
      · obtain ⟨z, hz⟩ := hsp.cell k hlt
        have hfz := hsp.soft (off + k)
        clear hsp
        go_wp2
        go_roundw
        case rel => exact ⟨k + 1, by omega, by go_num, HS.out.set hlt _, hbel.setCell (p := ⟨g, off + k, none⟩) hBg _, HSY.out.set _ _⟩
        case measure => simp [intOf]; omega
      · obtain rfl : k = len := by omega
        have hA := HS.out.later ((Below.refl wr.heap.size wr).alloc (Nat.le_refl _) (.cells #[.int .u64 7] 73))
        have hbA : Below B w (wr.alloc (.cells #[.int .u64 7] 73)) := hbel.alloc (Nat.le_trans hB hbel.size) _
        obtain ⟨olds, hol⟩ := hA.olds
        have HL : Hid (olds.length = k * 1 ∧ ∀ j u, olds[j]? = some u → (wr.alloc (.cells #[.int .u64 7] 73)).cell? ⟨g, off + j, none⟩ = some u) := hol
        have HP : Hid (k + 1 ≤ cap → ∀ j, j < [Value.int .u64 7].length → ((wr.alloc (.cells #[.int .u64 7] 73)).cell? ⟨g, off + k * 1 + j, none⟩).isSome = true ∧ (wr.alloc (.cells #[.int .u64 7] 73)).frozen? ⟨g, off + k * 1 + j, none⟩ = false) := fun h j hj => by
          obtain rfl : j = 0 := by simpa using hj
          exact ⟨by simpa using hA.room k (by omega), hA.soft _⟩
        clear hsp hol hA
        by_cases hr : k + 1 ≤ cap
        · go_wp2_with (at_builtin; refine wpList_append_arg _ rfl _ _ 25 rfl 73 i0 (.int .u64 0) 1 8 Tryz.underlying25 hi hz0 hz1 hz2 rfl (by decide) g off k cap olds rfl HL.out.1 HL.out.2 ⟨wr.heap.size, 0, none⟩ 1 1 [.int .u64 7] rfl rfl (World.news_of_block (cs := #[.int .u64 7]) (t := 73) (fr := (0, 0)) (heap_alloc_new wr _)) (by simp [Value.oneCell']) HP.out h63.out hby.out (fun _ => ?_) (fun h => absurd h (by omega)))
          go_end0
          exact ⟨rfl, below_cells hbA hBg, (HSY.out.next ((Below.refl _ _).alloc (Nat.le_refl _) _)).set _ _⟩
        · go_wp2_with (at_builtin; refine wpList_append_arg _ rfl _ _ 25 rfl 73 i0 (.int .u64 0) 1 8 Tryz.underlying25 hi hz0 hz1 hz2 rfl (by decide) g off k cap olds rfl HL.out.1 HL.out.2 ⟨wr.heap.size, 0, none⟩ 1 1 [.int .u64 7] rfl rfl (World.news_of_block (cs := #[.int .u64 7]) (t := 73) (fr := (0, 0)) (heap_alloc_new wr _)) (by simp [Value.oneCell']) HP.out h63.out hby.out (fun h => absurd h hr) (fun _ => ?_); intro v' w' hown hgrow)
          go_end0
          exact ⟨rfl, hbA.trans ((grown_below hgrow).mono (Nat.le_trans hB hbA.size)), (HSY.out.next ((Below.refl _ _).alloc (Nat.le_refl _) _)).next (grown_below hgrow)⟩
set_option maxRecDepth 100000 in
set_option maxHeartbeats 1000000 in
theorem spoil_any (B : Nat) (neg : Bool) (ao : Option Addr) (len cap : Nat) (zs : List Int) (w : World) (ho : Own B w .u64 73 ao len cap zs) (hB : B ≤ w.heap.size) (hl : len ≤ 8589934592) :
    Calls Tryz.prog 67 #[.agg #[.bool neg, .slice ao len cap]] w fun e w' => e = .returned (.tuple #[]) ∧ Below B w w' ∧ Stay ao w w' := by
  have hA : Below w.heap.size w (w.alloc (.cells #[.bool neg, .slice ao len cap] 28)) := (Below.refl _ _).alloc (Nat.le_refl _) _
  have HO : Hid (Own B (w.alloc (.cells #[.bool neg, .slice ao len cap] 28)) .u64 73 ao len cap zs) := ho.later hA
  clear ho
  go_enter Tryz.func67, Tryz.ntmps67
  go_wp2_with (go_at_call 91; refine (words_any B ao len cap zs _ HO.out (Nat.le_trans hB hA.size) hl).mono ?_; rintro e w1 ⟨rfl, hb1, hsy⟩)
  go_end0
  exact ⟨rfl, (below_less hA hB).trans hb1, Stay.after hA hsy⟩
end Go.Proofs.YtdanaebhjkbfmaaGreat
/-
  Walks: a copy, an answer held against the page's, what is refused.
-/
namespace Go.Proofs.YtdanaebhjkbfmaaGreat
open Go.RowKit
set_option linter.unusedVariables false
set_option linter.unusedSimpArgs false
theorem RowAt.cellKept {w : World} {k : IntKind} {ao : Option Addr} {len cap r j : Nat} {zs : List Int} {v : Value} (h : RowAt w k ao len cap zs) (hv : w.cell? ⟨r, j, none⟩ = some v) (hn : ∀ z, v ≠ .int k z) (x : Value) : RowAt (w.setCell ⟨r, j, none⟩ x) k ao len cap zs := by
  refine ⟨h.hlen, h.hcap, h.hnil, ?_⟩
  rcases h.hat with h0 | ⟨b, off, h1, hlt, h2⟩
  · exact Or.inl h0
  · refine Or.inr ⟨b, off, h1, by simpa [World.setCell] using hlt, fun t ht => ?_⟩
    have hc := h2 t ht
    rw [setCell_ne]
    · exact hc
    · rintro ⟨e1, e2⟩
      simp only at e1 e2
      rw [e1, e2, hv] at hc
      exact hn _ (Option.some.inj hc)
theorem eqint_same (neg : Bool) (ao bo : Option Addr) (la ca lb cb : Nat) (x : List Int) (w : World) (hx : RowAt w .u64 ao la ca x) (hy : RowAt w .u64 bo lb cb x) (hl : la ≤ 4611686018427387904) :
    Calls Tryz.prog 82 #[.agg #[.bool neg, .slice ao la ca], .agg #[.bool neg, .slice bo lb cb]] w fun e w' => e = .returned (.bool true) ∧ Below w.heap.size w w' := by
  refine (eqint_any neg neg ao bo la ca lb cb x x w hx hy hl).mono fun e w' h => ?_
  simpa using h
theorem own_of_owns {w : World} {B : Nat} {t : TypeId} {k : IntKind} {v : Value} {n : Nat} {L : List Int} (hl : L.length = n) (h : w.ownsRow B t 1 v n (L.map (Value.int k))) : ∃ ao cap, v = .slice ao n cap ∧ Own B w k t ao n cap L := by
  rcases h.2 with ⟨hv, h0⟩ | ⟨g, cap, cur, hv, hg, hh, hc1, _, hs, ht⟩
  · subst hv; subst h0
    exact ⟨none, 0, rfl, Or.inl ⟨rfl, rfl, rfl, List.eq_nil_of_length_eq_zero hl⟩⟩
  · refine ⟨_, _, hv, Or.inr ⟨g, 0, cur, rfl, hg, hh, by omega, hc1, hl, fun j hj => ?_⟩⟩
    have hjl : j < L.length := by omega
    have e2 : L[j]? = some (dig L j) := by unfold dig; rw [List.getD_eq_getElem?_getD, List.getElem?_eq_getElem hjl]; rfl
    have e1 : (cur.toList.take (n * 1))[j]? = some (.int k (dig L j)) := by rw [ht, List.getElem?_map, e2]; rfl
    rw [List.getElem?_take_of_lt (show j < n * 1 by omega)] at e1
    rw [Nat.zero_add]
    simpa using e1
set_option maxRecDepth 100000 in
set_option maxHeartbeats 1000000 in
theorem copyInt_own (neg : Bool) (ao : Option Addr) (len cap : Nat) (zs : List Int) (w : World) (hr : RowAt w .u64 ao len cap zs) (hl : len ≤ 4294967296) :
    Calls Tryz.prog 57 #[.agg #[.bool neg, .slice ao len cap]] w fun e w' => ∃ ao' c', e = .returned (.agg #[.bool neg, .slice ao' len c']) ∧ Own w.heap.size w' .u64 73 ao' len c' zs ∧ Below w.heap.size w w' := by
  obtain ⟨W, hW⟩ : ∃ W, W = ((w.alloc (.cells #[.bool neg, .slice ao len cap] 28)).alloc (.cells #[.bool false, .slice none 0 0] 28)).alloc (.cells #[.bool neg, .slice ao len cap] 28) := ⟨_, rfl⟩
  have HW : Hid (Below w.heap.size w W ∧ W.heap.size = w.heap.size + 3 ∧ Fresh W (w.heap.size + 1) ∧ Boxed W (w.heap.size + 1 + 1) neg ao len cap ∧ (∀ j, W.frozen? ⟨w.heap.size + 1 + 1, j, none⟩ = false)) := by
    rw [hW]
    refine ⟨(((Below.refl _ _).alloc (Nat.le_refl _) _).alloc (by simp) _).alloc (by simp; omega) _, by simp, ⟨fun j => by simp [go_sem], by simp [go_sem], by simp [go_sem]⟩, ⟨by simp [go_sem], by simp [go_sem]⟩, fun j => by simp [go_sem]⟩
  have HR : Hid (RowAt W .u64 ao len cap zs) := hr.later HW.out.1
  have HL : Hid (len = zs.length) := hr.hlen
  have hsz : W.heap.size = w.heap.size + 3 := HW.out.2.1
  clear hr
  go_enter Tryz.func57, Tryz.ntmps57
  go_wp2_with (go_at_call 83; rw [← hW]; clear hW; refine (copyWords_any ao len cap zs _ HR.out hl).mono ?_; rintro e w1 ⟨v, rfl, hown, hb1⟩; obtain ⟨ao1, c1, hv, hrow⟩ := own_of_owns HL.out.symm hown; subst hv; have HO : Hid (Own W.heap.size w1 .u64 73 ao1 len c1 zs) := hrow; clear hown hrow; obtain ⟨g5, g3, g4⟩ := HW.out.2.2.1.later hb1 (by omega); obtain ⟨q0, q1⟩ := HW.out.2.2.2.1.later hb1 (by omega); have q2 : ∀ j, w1.frozen? ⟨w.heap.size + 1 + 1, j, none⟩ = false := (fun j => (hb1.frozen (p := ⟨w.heap.size + 1 + 1, j, none⟩) (by show w.heap.size + 1 + 1 < _; omega)).trans (HW.out.2.2.2.2 j)))
  have f1 : Fresh (w1.setCell ⟨w.heap.size + 1 + 1, 1, none⟩ (.slice ao1 len c1)) (w.heap.size + 1) := ⟨fun j => by rw [frozen_far]; exact g5 j, by rw [cell_far (by omega)]; exact g3, by rw [cell_far (by omega)]; exact g4⟩
  exact bodyPost_ret (v := .agg #[.bool neg, .slice ao1 len c1]) (by simp [results, Tryz.results57, go_sem, g3, g4]) rfl
    ⟨_, _, rfl, ((own_set HO.out (by show _ < W.heap.size; omega)).store (by show _ < W.heap.size; omega) _ _).mono (by show _ ≤ W.heap.size; omega), below_store ((bnext HW.out.1 hb1).setCell (p := ⟨w.heap.size + 1 + 1, 1, none⟩) (by show _ ≤ w.heap.size + 1 + 1; omega) _) (by omega) _ _⟩
end Go.Proofs.YtdanaebhjkbfmaaGreat
/-
  Polynomials: what is left without noughts at the end; tables; lists of the call's own with numbers of the call's own; lists made by append.
-/
namespace Go.Proofs.YtdanaebhjkbfmaaGreat
open Go.RowKit
set_option linter.unusedVariables false
set_option linter.unusedSimpArgs false
/-- how many are left of the first n without noughts at the end -/
def trimN (l : List Int) : Nat → Nat
  | 0 => 0
  | n + 1 => if dig l n = 0 then trimN l n else n + 1
theorem trimN_le (l : List Int) (n : Nat) : trimN l n ≤ n := by
  induction n with
  | zero => exact Nat.le_refl _
  | succ n ih => unfold trimN; split <;> omega
theorem trimN_zero {l : List Int} {n : Nat} (h : dig l n = 0) : trimN l (n + 1) = trimN l n := by simp [trimN, h]
theorem trimN_keep {l : List Int} {n : Nat} (h : dig l n ≠ 0) : trimN l (n + 1) = n + 1 := by simp [trimN, h]
theorem trimN_past (l : List Int) (n t : Nat) (h : trimN l n ≤ t) (ht : t < n) : dig l t = 0 := by
  induction n with
  | zero => omega
  | succ n ih =>
    by_cases e : dig l n = 0
    · rw [trimN_zero e] at h
      by_cases e2 : t = n
      · subst e2; exact e
      · exact ih h (by omega)
    · rw [trimN_keep e] at h; omega
/-- without the noughts at its end -/
def trimL (l : List Int) : List Int := l.take (trimN l l.length)
theorem trimL_len (l : List Int) : (trimL l).length = trimN l l.length := by
  unfold trimL; rw [List.length_take]; exact Nat.min_eq_left (trimN_le _ _)
theorem trimL_dig (l : List Int) (t : Nat) : dig (trimL l) t = dig l t := by
  by_cases h : t < trimN l l.length
  · unfold trimL; rw [dig_take h]
  · rw [dig_past (by rw [trimL_len]; omega)]
    by_cases h2 : t < l.length
    · exact (trimN_past l l.length t (by omega) h2).symm
    · rw [dig_past (by omega)]
theorem trimN_lead {l : List Int} (h : Lead l) : trimN l l.length = l.length := by
  cases hl : l.length with
  | zero => rfl
  | succ n =>
    have := h (by omega)
    rw [hl] at this
    exact trimN_keep (by simpa using this)
theorem trimL_of_lead {l : List Int} (h : Lead l) : trimL l = l := by unfold trimL; rw [trimN_lead h, List.take_length]
theorem trimL_lim {K : Nat} {l : List Int} (h : Lim K l) : Lim K (trimL l) := fun t => by rw [trimL_dig]; exact h t
/-- a table -/
def tab (n : Nat) (f : Nat → Int) : List Int := (List.range n).map f
theorem tab_len (n : Nat) (f : Nat → Int) : (tab n f).length = n := by simp [tab]
theorem tab_dig {n t : Nat} (f : Nat → Int) (h : t < n) : dig (tab n f) t = f t := by
  unfold tab dig
  rw [List.getD_eq_getElem?_getD, List.getElem?_map, List.getElem?_range h]; rfl
theorem tab_succ (n : Nat) (f : Nat → Int) : tab (n + 1) f = tab n f ++ [f n] := by simp [tab, List.range_succ]
theorem tab_congr {n : Nat} {f g : Nat → Int} (h : ∀ t, t < n → f t = g t) : tab n f = tab n g :=
  dig_ext (by simp [tab_len]) fun t ht => by rw [tab_len] at ht; rw [tab_dig _ ht, tab_dig _ ht, h t ht]
theorem tab_lim {K n : Nat} {f : Nat → Int} (h : ∀ t, t < n → lim (f t) ≤ K) : Lim K (tab n f) := fun t => by
  by_cases ht : t < n
  · rw [tab_dig _ ht]; exact h t ht
  · rw [dig_past (by rw [tab_len]; omega), lim_zero]; omega
/-- a table filled up to place k, 0 behind -/
def FillSt (n : Nat) (f : Nat → Int) (k : Nat) (l : List Int) : Prop := l.length = n ∧ ∀ t, t < n → dig l t = if t < k then f t else 0
theorem FillSt.start (n : Nat) (f : Nat → Int) : FillSt n f 0 (List.replicate n 0) := ⟨by simp, fun t ht => by rw [rep_dig, if_neg (by omega)]⟩
theorem FillSt.step {n : Nat} {f : Nat → Int} {k : Nat} {l : List Int} (h : FillSt n f k l) (hk : k < n) : FillSt n f (k + 1) (l.set k (f k)) := by
  refine ⟨by simpa using h.1, fun t ht => ?_⟩
  rw [pdig_set _ _ _ _ (by rw [h.1]; exact ht)]
  by_cases e : t = k
  · subst e; rw [if_pos rfl, if_pos (by omega)]
  · rw [if_neg e, h.2 t ht]
    by_cases e2 : t < k
    · rw [if_pos e2, if_pos (by omega)]
    · rw [if_neg e2, if_neg (by omega)]
theorem FillSt.done {n : Nat} {f : Nat → Int} {l : List Int} (h : FillSt n f n l) : l = tab n f :=
  dig_ext (by rw [h.1, tab_len]) fun t ht => by rw [h.1] at ht; rw [h.2 t ht, if_pos ht, tab_dig _ ht]
/-- a number of the call's own lies at o in block g -/
def CoefO (B : Nat) (w : World) (g o : Nat) (v : Int) : Prop := ∃ n ao l c, (w.cell? ⟨g, o, none⟩ = some (.bool n) ∧ w.cell? ⟨g, o + 1, none⟩ = some (.slice ao l c)) ∧ n = sgB v ∧ Own B w .u64 73 ao l c (mag v.natAbs)
theorem CoefO.coef {B : Nat} {w : World} {g o : Nat} {v : Int} (h : CoefO B w g o v) : CoefAt w g o v := by
  obtain ⟨n, ao, l, c, hc, hs, ho⟩ := h
  exact ⟨n, ao, l, c, hc, ho.int hs⟩
/-- a list of the call's own, whose numbers lie in blocks of their own -/
structure PBlkO (B : Nat) (w : World) (g : Nat) (p : List Int) : Prop where
  soft : ∀ j, w.frozen? ⟨g, j, none⟩ = false
  coef : ∀ t, t < p.length → CoefO B w g (t * 2) (dig p t)
  apart : ∀ s t, s < p.length → t < p.length → s ≠ t → ∀ (a b : Addr) (l l' c c' : Nat), w.cell? ⟨g, s * 2 + 1, none⟩ = some (.slice (some a) l c) → w.cell? ⟨g, t * 2 + 1, none⟩ = some (.slice (some b) l' c') → a.block ≠ b.block
  away : ∀ t, t < p.length → ∀ (a : Addr) (l c : Nat), w.cell? ⟨g, t * 2 + 1, none⟩ = some (.slice (some a) l c) → a.block ≠ g
theorem PBlkO.blk {B : Nat} {w : World} {g : Nat} {p : List Int} (h : PBlkO B w g p) : PBlk w g p := ⟨h.soft, fun t ht => (h.coef t ht).coef⟩
theorem PBlkO.later {B : Nat} {w w' : World} {g : Nat} {p : List Int} (h : PBlkO B w g p) (hb : Below w.heap.size w w') (hg : g < w.heap.size) : PBlkO B w' g p := by
  have e : ∀ j, w'.cell? ⟨g, j, none⟩ = w.cell? ⟨g, j, none⟩ := fun j => hb.cell (p := ⟨g, j, none⟩) hg
  refine ⟨fun j => (hb.frozen (p := ⟨g, j, none⟩) hg).trans (h.soft j), fun t ht => ?_, fun s t hs ht hn a b l l' c c' h1 h2 => h.apart s t hs ht hn a b l l' c c' (by rw [← e]; exact h1) (by rw [← e]; exact h2), fun t ht a l c h1 => h.away t ht a l c (by rw [← e]; exact h1)⟩
  obtain ⟨n, ao, l, c, ⟨h0, h1⟩, hs, ho⟩ := h.coef t ht
  exact ⟨n, ao, l, c, ⟨(e _).trans h0, (e _).trans h1⟩, hs, ho.later hb⟩
theorem PBlkO.take {B : Nat} {w : World} {g : Nat} {p : List Int} (h : PBlkO B w g p) (n : Nat) : PBlkO B w g (p.take n) := by
  have hl : ∀ t, t < (p.take n).length → t < p.length ∧ t < n := fun t ht => by rw [List.length_take] at ht; omega
  exact ⟨h.soft, fun t ht => by rw [dig_take (hl t ht).2]; exact h.coef t (hl t ht).1, fun s t hs ht => h.apart s t (hl s hs).1 (hl t ht).1, fun t ht => h.away t (hl t ht).1⟩
theorem PBlkO.mono {B B' : Nat} {w : World} {g : Nat} {p : List Int} (h : PBlkO B w g p) (hB : B' ≤ B) : PBlkO B' w g p := by
  refine ⟨h.soft, fun t ht => ?_, h.apart, h.away⟩
  obtain ⟨n, ao, l, c, hc, hs, ho⟩ := h.coef t ht
  exact ⟨n, ao, l, c, hc, hs, ho.mono hB⟩
theorem own_lt {B : Nat} {w : World} {k : IntKind} {t : TypeId} {a : Addr} {l c : Nat} {zs : List Int} (h : Own B w k t (some a) l c zs) : B ≤ a.block ∧ a.block < w.heap.size := by
  rcases h with ⟨h, _⟩ | ⟨g, off, cur, h1, h2, h3, _⟩
  · cases h
  · cases h1; exact ⟨h2, heap_lt h3⟩
/-- a new number put into the list -/
theorem PBlkO.put {B : Nat} {w w1 : World} {g t l c : Nat} {n : Bool} {ao : Option Addr} {p : List Int} {v : Int} (h : PBlkO B w g p) (hb : Below w.heap.size w w1) (hg : g < w.heap.size) (hB : B ≤ w.heap.size) (ht : t < p.length) (hsg : n = sgB v) (ho : Own w.heap.size w1 .u64 73 ao l c (mag v.natAbs)) : PBlkO B ((w1.setCell ⟨g, t * 2, none⟩ (.bool n)).setCell ⟨g, t * 2 + 1, none⟩ (.slice ao l c)) g (p.set t v) := by
  have h1 := h.later hb hg
  obtain ⟨n0, ao0, l0, c0, ⟨e0, e1⟩, _⟩ := h1.coef t ht
  have hne : ∀ {b : Nat}, b ≠ g → ∀ (x y : Value) (i j : Nat), ((w1.setCell ⟨g, i, none⟩ x).setCell ⟨g, j, none⟩ y).heap[b]? = w1.heap[b]? := fun hb x y i j => by
    rw [Below.heap_setCell _ ⟨g, j, none⟩ y _ hb, Below.heap_setCell _ ⟨g, i, none⟩ x _ hb]
  have keep : ∀ {B' : Nat} {bo : Option Addr} {k d : Nat} {zs : List Int}, (∀ a : Addr, bo = some a → a.block ≠ g) → Own B' w1 .u64 73 bo k d zs → Own B' ((w1.setCell ⟨g, t * 2, none⟩ (.bool n)).setCell ⟨g, t * 2 + 1, none⟩ (.slice ao l c)) .u64 73 bo k d zs := by
    intro B' bo k d zs ha hO
    rcases hO with hO | ⟨g', off, cur, q1, q2, q3, q4⟩
    · exact Or.inl hO
    · exact Or.inr ⟨g', off, cur, q1, q2, by rw [hne (ha _ q1)]; exact q3, q4⟩
  have hnew : ∀ a : Addr, ao = some a → w.heap.size ≤ a.block := fun a ha => by subst ha; exact (own_lt ho).1
  have c0' : ((w1.setCell ⟨g, t * 2, none⟩ (.bool n)).setCell ⟨g, t * 2 + 1, none⟩ (.slice ao l c)).cell? ⟨g, t * 2 + 1, none⟩ = some (.slice ao l c) := by simp [go_sem, e0, e1]
  have c1' : ∀ s, s ≠ t → ((w1.setCell ⟨g, t * 2, none⟩ (.bool n)).setCell ⟨g, t * 2 + 1, none⟩ (.slice ao l c)).cell? ⟨g, s * 2 + 1, none⟩ = w1.cell? ⟨g, s * 2 + 1, none⟩ := fun s hs => by
    rw [setCell_ne (by rintro ⟨_, h⟩; simp only at h; omega), setCell_ne (by rintro ⟨_, h⟩; simp only at h; omega)]
  have c2' : ∀ s, s ≠ t → ((w1.setCell ⟨g, t * 2, none⟩ (.bool n)).setCell ⟨g, t * 2 + 1, none⟩ (.slice ao l c)).cell? ⟨g, s * 2, none⟩ = w1.cell? ⟨g, s * 2, none⟩ := fun s hs => by
    rw [setCell_ne (by rintro ⟨_, h⟩; simp only at h; omega), setCell_ne (by rintro ⟨_, h⟩; simp only at h; omega)]
  have old : ∀ s, s < p.length → ∀ (a : Addr) (k d : Nat), w1.cell? ⟨g, s * 2 + 1, none⟩ = some (.slice (some a) k d) → a.block < w.heap.size := by
    intro s hs a k d hc
    obtain ⟨m, bo, k', d', ⟨_, q1⟩, _, hO⟩ := h.coef s hs
    have q2 := (hb.cell (p := ⟨g, s * 2 + 1, none⟩) hg).trans q1
    rw [hc] at q2
    simp only [Option.some.injEq, Value.slice.injEq] at q2
    obtain ⟨q3, _⟩ := q2
    subst q3
    exact (own_lt hO).2
  refine ⟨fun j => by rw [soft_far, soft_far]; exact h1.soft j, fun s hs => ?_, fun s u hs hu hn a b k k' d d' q1 q2 => ?_, fun s hs a k d q1 => ?_⟩
  · rw [List.length_set] at hs
    rw [pdig_set _ _ _ _ hs]
    by_cases e : s = t
    · subst e
      rw [if_pos rfl]
      exact ⟨n, ao, l, c, ⟨by simp [go_sem, e0, e1], c0'⟩, hsg, keep (fun a ha => by have := hnew a ha; omega) (ho.mono hB)⟩
    · rw [if_neg e]
      obtain ⟨m, bo, k, d, ⟨q0, q1⟩, q2, hO⟩ := h1.coef s hs
      exact ⟨m, bo, k, d, ⟨by rw [c2' s e]; exact q0, by rw [c1' s e]; exact q1⟩, q2, keep (fun a ha => by subst ha; exact h1.away s hs a k d q1) hO⟩
  · rw [List.length_set] at hs hu
    by_cases e1 : s = t
    · subst e1
      rw [c0'] at q1
      rw [c1' u (Ne.symm hn)] at q2
      simp only [Option.some.injEq, Value.slice.injEq] at q1
      have := hnew a q1.1
      have := old u hu b k' d' q2
      omega
    · rw [c1' s e1] at q1
      by_cases e2 : u = t
      · subst e2
        rw [c0'] at q2
        simp only [Option.some.injEq, Value.slice.injEq] at q2
        have := hnew b q2.1
        have := old s hs a k d q1
        omega
      · rw [c1' u e2] at q2
        exact h1.apart s u hs hu hn a b k k' d d' q1 q2
  · rw [List.length_set] at hs
    by_cases e : s = t
    · subst e
      rw [c0'] at q1
      simp only [Option.some.injEq, Value.slice.injEq] at q1
      have := hnew a q1.1
      omega
    · rw [c1' s e] at q1
      exact h1.away s hs a k d q1
/-- what was just made -/
theorem pblkO_of_made {w w' : World} {B C n : Nat} {t : TypeId} (h : w'.ownsRow B t 2 (.slice (some ⟨w.heap.size, 0, none⟩) n n) n (madeCells (Value.agg #[.bool false, .slice none 0 0]).cells (n * 2)).toList) : PBlkO C w' w.heap.size (List.replicate n 0) ∧ w.heap.size < w'.heap.size := by
  obtain ⟨_, h2⟩ := h
  rcases h2 with ⟨h2, _⟩ | ⟨g', cap, cur, hv, hg, hh, hc1, _, hs, ht⟩
  · cases h2
  · simp only [Value.slice.injEq, Option.some.injEq, Addr.mk.injEq] at hv
    obtain ⟨⟨hge, _⟩, _, hce⟩ := hv
    subst hge
    subst hce
    have hcell : ∀ j, j < n * 2 → w'.cell? ⟨w.heap.size, j, none⟩ = some (if j % 2 = 0 then .bool false else .slice none 0 0) := by
      intro j hj
      have e1 : cur.toList[j]? = (madeCells (Value.agg #[.bool false, .slice none 0 0]).cells (n * 2)).toList[j]? := by
        rw [← ht, List.getElem?_take, if_pos hj]
      have e2 : (madeCells (Value.agg #[.bool false, .slice none 0 0]).cells (n * 2)).toList[j]? = some (if j % 2 = 0 then .bool false else .slice none 0 0) := by
        simp only [madeCells, Array.toList_map, List.getElem?_map, Array.toList_range, List.getElem?_range hj, Option.map_some]
        congr 1
        have e3 : (Value.agg #[.bool false, .slice none 0 0]).cells = #[.bool false, .slice none 0 0] := by simp [Value.cells]
        rw [e3]
        have : j % 2 = 0 ∨ j % 2 = 1 := by omega
        rcases this with h | h <;> simp [h]
      rw [e2] at e1
      simp only [World.cell?, hh]
      simpa using e1
    have hodd : ∀ t, t < n → w'.cell? ⟨w.heap.size, t * 2 + 1, none⟩ = some (.slice none 0 0) := fun t ht => by rw [hcell _ (by omega), if_neg (by omega)]
    have hno : ∀ t, t < (List.replicate n (0 : Int)).length → ∀ (a : Addr) (l c : Nat), ¬ w'.cell? ⟨w.heap.size, t * 2 + 1, none⟩ = some (.slice (some a) l c) := fun t ht a l c q => by
      rw [hodd t (by simpa using ht)] at q
      simp at q
    refine ⟨⟨fun j => by simp [World.frozen?, hh], fun t ht => ?_, fun s t hs _ _ a b l l' c c' q _ => absurd q (hno s hs a l c), fun t ht a l c q => absurd q (hno t ht a l c)⟩, heap_lt hh⟩
    have ht' : t < n := by simpa using ht
    rw [rep_dig]
    exact ⟨false, none, 0, 0, ⟨by rw [hcell _ (by omega), if_pos (by omega)], hodd t ht'⟩, rfl, Or.inl ⟨rfl, rfl, rfl, rfl⟩⟩
/-- a polynomial of the call's own: what a call hands back -/
def POwn (B : Nat) (w : World) (ao : Option Addr) (len cap : Nat) (p : List Int) : Prop :=
  len = p.length ∧ cap = len ∧ ((len = 0 ∧ ao = none) ∨ (0 < len ∧ ∃ g, ao = some ⟨g, 0, none⟩ ∧ B ≤ g ∧ g < w.heap.size ∧ PBlkO B w g p))
theorem POwn.nil (B : Nat) (w : World) : POwn B w none 0 0 [] := ⟨rfl, rfl, Or.inl ⟨rfl, rfl⟩⟩
theorem POwn.poly {B : Nat} {w : World} {ao : Option Addr} {len cap : Nat} {p : List Int} (h : POwn B w ao len cap p) : PolyAt w ao len cap p := by
  obtain ⟨h1, h2, h3⟩ := h
  subst h2
  rcases h3 with ⟨h0, rfl⟩ | ⟨h0, g, rfl, _, _, hp⟩
  · subst h0
    obtain rfl : p = [] := List.eq_nil_of_length_eq_zero h1.symm
    exact PolyAt.nilPoly _
  · exact hp.blk.poly h1
theorem POwn.later {B : Nat} {w w' : World} {ao : Option Addr} {len cap : Nat} {p : List Int} (h : POwn B w ao len cap p) (hb : Below w.heap.size w w') : POwn B w' ao len cap p := by
  obtain ⟨h1, h2, h3⟩ := h
  refine ⟨h1, h2, ?_⟩
  rcases h3 with h3 | ⟨h0, g, h4, h5, h6, hp⟩
  · exact Or.inl h3
  · exact Or.inr ⟨h0, g, h4, h5, Nat.lt_of_lt_of_le h6 hb.size, hp.later hb h6⟩
theorem POwn.mono {B B' : Nat} {w : World} {ao : Option Addr} {len cap : Nat} {p : List Int} (h : POwn B w ao len cap p) (hB : B' ≤ B) : POwn B' w ao len cap p := by
  obtain ⟨h1, h2, h3⟩ := h
  refine ⟨h1, h2, ?_⟩
  rcases h3 with h3 | ⟨h0, g, h4, h5, h6, hp⟩
  · exact Or.inl h3
  · exact Or.inr ⟨h0, g, h4, Nat.le_trans hB h5, h6, hp.mono hB⟩
end Go.Proofs.YtdanaebhjkbfmaaGreat
/-
  Walks: the page's product of polynomials.
-/
namespace Go.Proofs.YtdanaebhjkbfmaaGreat
open Go.RowKit
set_option linter.unusedVariables false
set_option linter.unusedSimpArgs false
set_option maxRecDepth 100000 in
set_option maxHeartbeats 1000000 in
/-- what has a lead stays as it is -/
theorem ptrim_lead (ao : Option Addr) (len cap : Nat) (p : List Int) (w : World) (hp : PolyAt w ao len cap p) (hpos : 0 < len) (hl : len ≤ 1048576) (hL : Lead p) :
    Calls Tryz.prog 30 #[.slice ao len cap] w fun e w' => e = .returned (.slice ao len cap) ∧ Below w.heap.size w w' := by
  obtain ⟨b, off, rfl, hat⟩ := hp.get hpos
  obtain ⟨n1, ao1, l1, c1, ⟨e0, e1⟩, hi1⟩ := hat (len - 1) (by omega)
  have hz : ((l1 : Int) == 0) = false := by
    have h3 := hL (by rw [← hp.hlen]; exact hpos)
    rw [← hp.hlen] at h3
    have h4 := lim_pos h3
    have h5 := hi1.lim
    simp; omega
  have hcon : ∀ W', Calls Tryz.prog 27 #[.agg #[.bool n1, .slice ao1 l1 c1]] W' fun e w' => e = .returned (.bool false) ∧ Below W'.heap.size W' w' := fun W' => rzero_any n1 ao1 l1 c1 W' false hz
  have hcap := hp.hcap
  have hidx : (len : Int) - 1 = ((len - 1 : Nat) : Int) := by omega
  have hk1 : len - 1 < len := by omega
  have hpI : (0 : Int) < (len : Int) := by omega
  have y1 : (0 : Int) ≤ (len : Int) := by omega
  have y2 : (len : Int) ≤ (cap : Int) := by omega
  clear hp hL hat hi1 hz
  go_enter Tryz.func30, Tryz.ntmps30
  go_wp2
  go_loopw [3] (fun i wr => i = .int .i64 (len : Int) ∧ wr = w) (fun i _ => 0)
  case atStart => exact ⟨rfl, rfl⟩
  case round =>
    obtain ⟨rfl, rfl⟩ := hrel
    go_wp2_with (go_at_call 27; refine (hcon _).mono ?_; rintro e w1 ⟨rfl, hb1⟩)
    go_ret
    exact ⟨rfl, hb1⟩
theorem PolyAt.at {w : World} {ao : Option Addr} {len cap k : Nat} {p : List Int} (h : PolyAt w ao len cap p) (hk : k < len) : ∃ b off n1 ao1 l1 c1, ao = some ⟨b, off, none⟩ ∧ w.cell? ⟨b, off + k * 2, none⟩ = some (.bool n1) ∧ w.cell? ⟨b, off + k * 2 + 1, none⟩ = some (.slice ao1 l1 c1) ∧ IntAt w n1 ao1 l1 c1 (dig p k) := by
  obtain ⟨b, off, h1, hat⟩ := h.get (by omega)
  obtain ⟨n1, ao1, l1, c1, ⟨h0, h1'⟩, hi⟩ := hat k hk
  exact ⟨b, off, n1, ao1, l1, c1, h1, h0, h1', hi⟩
theorem lim_set {M D : Nat} {l : List Int} {j : Nat} {v : Int} (h : Lim M l) (hv : lim v ≤ M + D) : Lim (M + D) (l.set j v) := by
  intro t
  by_cases ht : t < l.length
  · rw [pdig_set _ _ _ _ ht]
    split
    · exact hv
    · exact Nat.le_trans (h t) (by omega)
  · rw [dig_past (by simp; omega), lim_zero]; omega
theorem mul_lims {M A i k : Nat} {a b : Int} {l : List Int} (h : Lim (M * (2 * A + 1)) l) (ha : lim a ≤ A) (hb : lim b ≤ A) : Lim ((M + 1) * (2 * A + 1)) (l.set (i + k) (dig l (i + k) + a * b)) := by
  rw [Nat.succ_mul]
  refine lim_set h ?_
  have h1 := lim_add (dig l (i + k)) (a * b)
  have h2 := lim_mul a b
  have h3 := h (i + k)
  omega
set_option maxRecDepth 100000 in
set_option maxHeartbeats 4000000 in
theorem ptimes_new (ao bo : Option Addr) (la ca lb cb A : Nat) (p s : List Int) (w : World) (hp : PolyAt w ao la ca p) (hs : PolyAt w bo lb cb s) (hla : 0 < la) (hlb : 0 < lb) (hla' : la ≤ 20) (hlb' : lb ≤ 20) (hA : A ≤ 100000) (hlp : Lim A p) (hls : Lim A s) (hLp : Lead p) (hLs : Lead s) :
    Calls Tryz.prog 35 #[.slice ao la ca, .slice bo lb cb] w fun e w' => ∃ g N, w.heap.size ≤ g ∧ N = (mulL p s).length ∧ e = .returned (.slice (some ⟨g, 0, none⟩) N N) ∧ PolyAt w' (some ⟨g, 0, none⟩) N N (mulL p s) ∧ Lim (400 * (2 * A + 1)) (mulL p s) ∧ Below w.heap.size w w' := by
  have HR : Hid (PolyAt w ao la ca p ∧ PolyAt w bo lb cb s ∧ Lim A p ∧ Lim A s ∧ la = p.length ∧ lb = s.length) := ⟨hp, hs, hlp, hls, hp.hlen, hs.hlen⟩
  have HL : Hid (Lead p ∧ Lead s) := ⟨hLp, hLs⟩
  clear hp hs hlp hls hLp hLs
  obtain ⟨N, hN⟩ : ∃ N : Nat, N + 1 = la + lb := ⟨la + lb - 1, by omega⟩
  have hNI : (la : Int) + (lb : Int) - 1 = (N : Int) := by omega
  have HN : Hid (N = p.length + s.length - 1 ∧ N + 1 = la + lb) := ⟨by have := HR.out.2.2.2.2; omega, hN⟩
  have hN40 : N ≤ 40 := by omega
  clear hN
  have q1 : ((la : Int) == 0) = false := by simp; omega
  have q2 : ((lb : Int) == 0) = false := by simp; omega
  obtain ⟨i0, hi, hz0, hz1, hz2⟩ := info_parts infoInt
  have b1 : Hid (i0.bytes * N ≤ 281474976710656) := by show _ ≤ _; rw [hz2]; omega
  have b2 : Hid (N ≤ maxLen) := by show _ ≤ _; unfold maxLen; omega
  go_enter Tryz.func35, Tryz.ntmps35
  go_wp2_with (at_make; refine wpList_make_full _ rfl (.tmp 21) (.tmp 21) 24 rfl w.heap.size 28 i0 (.agg #[.bool false, .slice none 0 0]) 2 Tryz.underlying24 hi hz0 hz1 .i64 .i64 _ _ N rfl rfl rfl rfl b1.out b2.out (Nat.le_refl _) ?_; intro w1 hown1 hgrow1)
  have HM : Hid (PBlk w1 w.heap.size (List.replicate N 0) ∧ w.heap.size < w1.heap.size ∧ Below w.heap.size w w1) := ⟨(pblk_of_made hown1).1, (pblk_of_made hown1).2, grown_below hgrow1⟩
  clear hown1 hgrow1 hNI
  go_loopw [6] (fun ii wr => ∃ (i : Nat) (l : List Int), i ≤ la ∧ ii = .int .i64 i ∧ Below w.heap.size w wr ∧ w.heap.size < wr.heap.size ∧ PBlk wr w.heap.size l ∧ PMulSt p s i 0 l ∧ Lim (i * lb * (2 * A + 1)) l) (fun ii _ => la - (intOf ii).toNat)
  case atStart => exact ⟨0, _, Nat.zero_le _, rfl, HM.out.2.2, HM.out.2.1, HM.out.1, by rw [HN.out.1]; exact PMulSt.start p s, fun t => by rw [rep_dig, lim_zero]; omega⟩
  case round =>
    obtain ⟨i, l, hi', rfl, hbel, hgw, hPB, hst, hlm⟩ := hrel
    have HS : Hid (PBlk wr w.heap.size l ∧ PMulSt p s i 0 l ∧ Below w.heap.size w wr ∧ Lim (i * lb * (2 * A + 1)) l) := ⟨hPB, hst, hbel, hlm⟩
    clear hPB hst hbel hlm
    by_cases hlt : i < la
    · go_wp2
      go_loopw [7] (fun kk w3 => ∃ (k : Nat) (l : List Int), k ≤ lb ∧ kk = .int .i64 k ∧ Below w.heap.size w w3 ∧ w.heap.size < w3.heap.size ∧ PBlk w3 w.heap.size l ∧ PMulSt p s i k l ∧ Lim ((i * lb + k) * (2 * A + 1)) l) (fun kk _ => lb - (intOf kk).toNat)
      case atStart => exact ⟨0, l, Nat.zero_le _, rfl, HS.out.2.2.1, hgw, HS.out.1, HS.out.2.1, HS.out.2.2.2⟩
      case round =>
        obtain ⟨k, lk, hk, rfl, hbel, hgk, hPB, hst, hlm⟩ := hrel
        have HT : Hid (PBlk wr w.heap.size lk ∧ PMulSt p s i k lk ∧ Below w.heap.size w wr ∧ Lim ((i * lb + k) * (2 * A + 1)) lk) := ⟨hPB, hst, hbel, hlm⟩
        by_cases hkl : k < lb
        · have hlk : lk.length = N := by rw [hst.1]; exact HN.out.1.symm
          have hik : i + k < N := by have := HN.out.2; omega
          obtain ⟨n1, ao1, l1, c1, ⟨e0, e1⟩, hi1⟩ := hPB.coef (i + k) (by omega)
          obtain ⟨b2', off2, n2, ao2, l2, c2, rfl, f0, f1, hi2⟩ := (HR.out.1.later hbel).at hlt
          obtain ⟨b3', off3, n3, ao3, l3, c3, rfl, g0, g1, hi3⟩ := (HR.out.2.1.later hbel).at hkl
          have hM : (i * lb + k) * (2 * A + 1) ≤ 80000000 + 400 := by
            have h1 : i * lb ≤ 19 * 20 := Nat.mul_le_mul (by omega) (by omega)
            have h2 : (i * lb + k) * (2 * A + 1) ≤ 400 * 200001 := Nat.mul_le_mul (by omega) (by omega)
            omega
          have hl1 : l1 ≤ 90000000 := by rw [hi1.lim]; have := hlm (i + k); omega
          have hl2 : l2 ≤ 100000 := by rw [hi2.lim]; have := HR.out.2.2.1 i; omega
          have hl3 : l3 ≤ 100000 := by rw [hi3.lim]; have := HR.out.2.2.2.1 k; omega
          have HI : Hid (IntAt wr n1 ao1 l1 c1 (dig lk (i + k)) ∧ IntAt wr n2 ao2 l2 c2 (dig p i) ∧ IntAt wr n3 ao3 l3 c3 (dig s k) ∧ i + k < lk.length) := ⟨hi1, hi2, hi3, by omega⟩
          have hfz := hPB.soft
          have z1 : (0 : Int) ≤ (i : Int) := by omega
          have z2 : (i : Int) < (la : Int) := by omega
          have z3 : (0 : Int) ≤ (k : Int) := by omega
          have z4 : (k : Int) < (lb : Int) := by omega
          have z5 : IntKind.i64.wrap ((i : Int) + (k : Int)) = (i : Int) + (k : Int) := by rw [IntKind.wrap_i64]; omega
          have z6 : ((i : Int) + (k : Int)).toNat = i + k := by omega
          have z7 : (0 : Int) ≤ (i : Int) + (k : Int) := by omega
          have z8 : (i : Int) + (k : Int) < (N : Int) := by omega
          clear hPB hst hlk hi1 hi2 hi3 hlm hM
          go_wp2
          go_region_with (first
            | (go_at_call 60; refine (rtimes_any n2 n3 ao2 ao3 l2 c2 l3 c3 (dig p i) (dig s k) _ (HI.out.2.1.later (Below.refl _ _).drew) (HI.out.2.2.1.later (Below.refl _ _).drew) (by omega) (by omega)).mono ?_; rintro e w4 ⟨n4, ao4, l4, c4, rfl, hs4, ho4, hb4'⟩; have hb4 : Below wr.heap.size wr w4 := bnext (Below.refl _ _).drew hb4'; clear hb4'; have HI4 : Hid (IntAt w4 n4 ao4 l4 c4 (dig p i * dig s k) ∧ IntAt w4 n1 ao1 l1 c1 (dig lk (i + k))) := ⟨ho4.int hs4, HI.out.1.later hb4⟩; have hl4 : l4 ≤ 200000 := (by have h1 := (ho4.int hs4).lim; have h2 := lim_mul (dig p i) (dig s k); have h3 := HR.out.2.2.1 i; have h4 := HR.out.2.2.2.1 k; omega); clear hs4 ho4; obtain ⟨t0, t1, t2⟩ : w4.cell? ⟨w.heap.size, (i + k) * 2, none⟩ = some (.bool n1) ∧ w4.cell? ⟨w.heap.size, (i + k) * 2 + 1, none⟩ = some (.slice ao1 l1 c1) ∧ (∀ m, w4.frozen? ⟨w.heap.size, m, none⟩ = false) := ⟨(hb4.cell (p := ⟨w.heap.size, (i + k) * 2, none⟩) hgk).trans e0, (hb4.cell (p := ⟨w.heap.size, (i + k) * 2 + 1, none⟩) hgk).trans e1, fun m => (hb4.frozen (p := ⟨w.heap.size, m, none⟩) hgk).trans (hfz m)⟩)
            | (go_at_call 53; refine (rplus_any n1 n4 ao1 ao4 l1 c1 l4 c4 (dig lk (i + k)) (dig p i * dig s k) w4 HI4.out.2 HI4.out.1 (by omega) (by omega)).mono ?_; rintro e w5 ⟨n5, ao5, l5, c5, rfl, hi5, hb5⟩; have HI5 : Hid (IntAt w5 n5 ao5 l5 c5 (dig lk (i + k) + dig p i * dig s k)) := hi5; have hb6 : Below wr.heap.size wr w5 := bnext hb4 hb5; obtain ⟨r0, r1, r2⟩ : w5.cell? ⟨w.heap.size, (i + k) * 2, none⟩ = some (.bool n1) ∧ w5.cell? ⟨w.heap.size, (i + k) * 2 + 1, none⟩ = some (.slice ao1 l1 c1) ∧ (∀ m, w5.frozen? ⟨w.heap.size, m, none⟩ = false) := ⟨(hb6.cell (p := ⟨w.heap.size, (i + k) * 2, none⟩) hgk).trans e0, (hb6.cell (p := ⟨w.heap.size, (i + k) * 2 + 1, none⟩) hgk).trans e1, fun m => (hb6.frozen (p := ⟨w.heap.size, m, none⟩) hgk).trans (hfz m)⟩; clear hi5 hb5))
          all_goals go_wp2
          all_goals go_roundw
          all_goals first
            | exact ⟨k + 1, lk.set (i + k) (dig lk (i + k) + dig p i * dig s k), by omega, by go_num, ((bnext HT.out.2.2.1 hb6).setCell (p := ⟨w.heap.size, (i + k) * 2, none⟩) (Nat.le_refl _) _).setCell (p := ⟨w.heap.size, (i + k) * 2 + 1, none⟩) (Nat.le_refl _) _, by (have := hb6.size; simp; omega), (HT.out.1.later hb6 hgk).put HI.out.2.2.2 HI5.out, HT.out.2.1.step (by rw [← HR.out.2.2.2.2.1]; exact hlt) (by rw [← HR.out.2.2.2.2.2]; exact hkl), mul_lims HT.out.2.2.2 (HR.out.2.2.1 i) (HR.out.2.2.2.1 k)⟩
            | (simp [intOf]; omega)
        · obtain rfl : k = lb := by omega
          have HO : Hid (PMulSt p s (i + 1) 0 lk) := PMulSt.row (by have := HT.out.2.1; rw [← HR.out.2.2.2.2.2]; exact this) (by rw [← HR.out.2.2.2.2.1]; exact hlt)
          go_wp2
          go_roundw
          case rel => exact ⟨i + 1, lk, by omega, by go_num, HT.out.2.2.1, hgk, HT.out.1, HO.out, by rw [Nat.succ_mul]; exact HT.out.2.2.2⟩
          case measure => simp [intOf]; omega
    · obtain rfl : i = la := by omega
      have HD : Hid (l = mulL p s ∧ N = (mulL p s).length ∧ Lead (mulL p s) ∧ Lim (400 * (2 * A + 1)) l) := by
        have e1 : l = mulL p s := PMulSt.done (by have := HS.out.2.1; rw [← HR.out.2.2.2.2.1]; exact this) (by rw [← HR.out.2.2.2.2.2]; exact hlb)
        refine ⟨e1, by rw [mulL_len _ _ (by rw [← HR.out.2.2.2.2.2]; exact hlb)]; exact HN.out.1, mul_lead HL.out.1 HL.out.2 (by rw [← HR.out.2.2.2.2.1]; exact hla) (by rw [← HR.out.2.2.2.2.2]; exact hlb), HS.out.2.2.2.mono ?_⟩
        exact Nat.mul_le_mul (Nat.mul_le_mul hla' hlb') (Nat.le_refl _)
      have HPP : Hid (PolyAt wr (some ⟨w.heap.size, 0, none⟩) N N (mulL p s)) := by
        have := HS.out.1; rw [HD.out.1] at this; exact this.poly HD.out.2.1
      go_wp2_with (go_at_call 30; refine (ptrim_lead (some ⟨w.heap.size, 0, none⟩) N N (mulL p s) _ HPP.out (by have := HN.out.2; omega) (by omega) HD.out.2.2.1).mono ?_; rintro e w4 ⟨rfl, hb4⟩)
      go_ret
      exact ⟨w.heap.size, N, Nat.le_refl _, HD.out.2.1, rfl, HPP.out.later hb4, by rw [← HD.out.1]; exact HD.out.2.2.2, bnext HS.out.2.2.1 hb4⟩
theorem ptimes_any (ao bo : Option Addr) (la ca lb cb A : Nat) (p s : List Int) (w : World) (hp : PolyAt w ao la ca p) (hs : PolyAt w bo lb cb s) (hla : 0 < la) (hlb : 0 < lb) (hla' : la ≤ 20) (hlb' : lb ≤ 20) (hA : A ≤ 100000) (hlp : Lim A p) (hls : Lim A s) (hLp : Lead p) (hLs : Lead s) :
    Calls Tryz.prog 35 #[.slice ao la ca, .slice bo lb cb] w fun e w' => ∃ g N, N = (mulL p s).length ∧ e = .returned (.slice (some ⟨g, 0, none⟩) N N) ∧ PolyAt w' (some ⟨g, 0, none⟩) N N (mulL p s) ∧ Lim (400 * (2 * A + 1)) (mulL p s) ∧ Below w.heap.size w w' :=
  (ptimes_new ao bo la ca lb cb A p s w hp hs hla hlb hla' hlb' hA hlp hls hLp hLs).mono fun _ _ ⟨g, N, _, h⟩ => ⟨g, N, h⟩
end Go.Proofs.YtdanaebhjkbfmaaGreat
