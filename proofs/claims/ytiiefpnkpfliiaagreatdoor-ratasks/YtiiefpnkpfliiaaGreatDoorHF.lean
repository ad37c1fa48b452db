/-
  Walks: an answer is written over (Words).
-/
import Derived.Test.YtiiefpnkpfliiaaGreatDoorHE
import Derived.ArgAppend
namespace Go.Proofs.YtiiefpnkpfliiaaGreatDoor
open Go.RowKit
set_option linter.unusedVariables false
set_option linter.unusedSimpArgs false

/-- a row that may be written, with its spare room -/
structure Spoil (w : World) (g off len cap : Nat) : Prop where
  cell : ∀ j, j < len → ∃ z, w.cell? ⟨g, off + j, none⟩ = some (.int .u64 z)
  room : ∀ j, j < cap → (w.cell? ⟨g, off + j, none⟩).isSome = true
  soft : ∀ j, w.frozen? ⟨g, j, none⟩ = false
  lt : g < w.heap.size
theorem Spoil.ofOwn {B : Nat} {w : World} {t : TypeId} {g off len cap : Nat} {zs : List Int} (h : Own B w .u64 t (some ⟨g, off, none⟩) len cap zs) : Spoil w g off len cap ∧ B ≤ g ∧ len ≤ cap := by
  rcases h with ⟨h, _⟩ | ⟨g', off', cur, he, hB, hh, hc, hl, _, hz⟩
  · cases h
  · cases he
    have hlt := heap_lt hh
    refine ⟨⟨fun j hj => ⟨dig zs j, ?_⟩, fun j hj => ?_, fun j => ?_, hlt⟩, hB, hl⟩
    · simp only [World.cell?, hh]; exact hz j hj
    · simp only [World.cell?, hh]; simp; omega
    · simp [World.frozen?, hh]
theorem Spoil.later {w w' : World} {g off len cap : Nat} (h : Spoil w g off len cap) (hb : Below w.heap.size w w') : Spoil w' g off len cap :=
  ⟨fun j hj => by obtain ⟨z, hz⟩ := h.cell j hj; exact ⟨z, (hb.cell (p := ⟨g, off + j, none⟩) h.lt).trans hz⟩,
   fun j hj => by rw [hb.cell (p := ⟨g, off + j, none⟩) h.lt]; exact h.room j hj,
   fun j => by rw [hb.frozen (p := ⟨g, j, none⟩) h.lt]; exact h.soft j, Nat.lt_of_lt_of_le h.lt hb.size⟩
theorem Spoil.set {w : World} {g off len cap k : Nat} (h : Spoil w g off len cap) (hk : k < len) (z : Int) : Spoil (w.setCell ⟨g, off + k, none⟩ (.int .u64 z)) g off len cap := by
  have hs : (w.cell? ⟨g, off + k, none⟩).isSome = true := by obtain ⟨y, hy⟩ := h.cell k hk; rw [hy]; rfl
  refine ⟨fun j hj => ?_, fun j hj => ?_, fun j => ?_, by simpa using h.lt⟩
  · by_cases e : j = k
    · subst e; obtain ⟨y, hy⟩ := h.cell j hj; exact ⟨z, by simp [go_sem, hy]⟩
    · obtain ⟨y, hy⟩ := h.cell j hj; obtain ⟨y', hy'⟩ := h.cell k hk; exact ⟨y, by simp [go_sem, hy, hy', e]⟩
  · by_cases e : j = k
    · subst e; obtain ⟨y, hy⟩ := h.cell j hk; simp [go_sem, hy]
    · have := h.room j hj; obtain ⟨y', hy'⟩ := h.cell k hk; simpa [go_sem, hy', e] using this
  · have := h.soft j; simpa [go_sem] using this

/-- of what was there all stays, but for the slice's own block -/
structure Stay (ao : Option Addr) (w w' : World) : Prop where
  size : w.heap.size ≤ w'.heap.size
  block : ∀ k, k < w.heap.size → (∀ p : Addr, ao = some p → p.block ≠ k) → w'.heap[k]? = w.heap[k]?
theorem Stay.refl (ao : Option Addr) (w : World) : Stay ao w w := ⟨Nat.le_refl _, fun _ _ _ => rfl⟩
theorem Stay.set {g off : Nat} {w w' : World} (h : Stay (some ⟨g, off, none⟩) w w') (j : Nat) (v : Value) : Stay (some ⟨g, off, none⟩) w (w'.setCell ⟨g, j, none⟩ v) :=
  ⟨by simpa [World.setCell] using h.size, fun k hk hp => by rw [Below.heap_setCell w' ⟨g, j, none⟩ v k (fun e => hp _ rfl e.symm)]; exact h.block k hk hp⟩
theorem Stay.next {ao : Option Addr} {w w' w2 : World} (h : Stay ao w w') (hb : Below w'.heap.size w' w2) : Stay ao w w2 :=
  ⟨Nat.le_trans h.size hb.size, fun k hk hp => (hb.block k (Nat.lt_of_lt_of_le hk h.size)).trans (h.block k hk hp)⟩
theorem Stay.after {ao : Option Addr} {w w' w2 : World} (hb : Below w.heap.size w w') (h : Stay ao w' w2) : Stay ao w w2 :=
  ⟨Nat.le_trans hb.size h.size, fun k hk hp => (h.block k (Nat.lt_of_lt_of_le hk hb.size) hp).trans (hb.block k hk)⟩
theorem Stay.cell {ao : Option Addr} {w w' : World} (h : Stay ao w w') {r j : Nat} (hr : r < w.heap.size) (hp : ∀ p : Addr, ao = some p → p.block ≠ r) : w'.cell? ⟨r, j, none⟩ = w.cell? ⟨r, j, none⟩ := by
  simp only [World.cell?, h.block r hr hp]
theorem Stay.frozen {ao : Option Addr} {w w' : World} (h : Stay ao w w') {r j : Nat} (hr : r < w.heap.size) (hp : ∀ p : Addr, ao = some p → p.block ≠ r) : w'.frozen? ⟨r, j, none⟩ = w.frozen? ⟨r, j, none⟩ := by
  simp only [World.frozen?, h.block r hr hp]
theorem below_cells {B g o : Nat} {w w' : World} {v : Value} (h : Below B w w') (hg : B ≤ g) : Below B w (w'.setCells g o [v]) := h.setCell (p := ⟨g, o, none⟩) hg v
theorem Spoil.olds {w : World} {g off len cap : Nat} (h : Spoil w g off len cap) : ∃ olds : List Value, olds.length = len * 1 ∧ ∀ j u, olds[j]? = some u → w.cell? ⟨g, off + j, none⟩ = some u := by
  refine ⟨(List.range len).map fun j => (w.cell? ⟨g, off + j, none⟩).getD undef, by simp, fun j u hj => ?_⟩
  rw [List.getElem?_map] at hj
  by_cases hl : j < len
  · rw [List.getElem?_range hl] at hj
    obtain ⟨z, hz⟩ := h.cell j hl
    simp only [Option.map_some, hz, Option.getD_some, Option.some.injEq] at hj
    rw [hz, hj]
  · rw [List.getElem?_eq_none (by simpa using hl)] at hj
    cases hj

set_option maxRecDepth 100000 in
set_option maxHeartbeats 2000000 in
theorem words_any (B : Nat) (ao : Option Addr) (len cap : Nat) (zs : List Int) (w : World) (ho : Own B w .u64 59 ao len cap zs) (hB : B ≤ w.heap.size) (hl : len ≤ 8589934592) :
    Calls Tryz.prog 119 #[.slice ao len cap] w fun e w' => e = .returned (.tuple #[]) ∧ Below B w w' ∧ Stay ao w w' := by
  obtain ⟨i0, hi, hz0, hz1, hz2⟩ := info_parts info64
  have h63 : Hid (len + 1 ≤ maxLen) := by show _ ≤ _; unfold maxLen; omega
  have hby : Hid ((len + 1) * 8 ≤ 140737488355328) := by show _ ≤ _; omega
  have HO : Hid (Own B w .u64 59 ao len cap zs) := ho
  by_cases hao : ao = none
  · subst hao
    obtain ⟨rfl, rfl⟩ : len = 0 ∧ cap = 0 := by
      rcases ho with ⟨_, h1, h2, _⟩ | ⟨g', off', cur, he, _⟩
      · exact ⟨h1, h2⟩
      · cases he
    have hbA : Below B w (w.alloc (.cells #[.int .u64 7] 59)) := (Below.refl B w).alloc hB _
    clear ho
    go_enter Tryz.func119, Tryz.ntmps119
    go_wp2
    go_loopw [2] (fun i wr => i = .int .i64 0 ∧ wr = w) (fun i _ => 0)
    case atStart => exact ⟨rfl, rfl⟩
    case round =>
      obtain ⟨rfl, rfl⟩ := hrel
      go_wp2_with (at_builtin; refine wpList_append_grows _ rfl _ _ 23 rfl 59 i0 (.int .u64 0) 1 8 Tryz.underlying23 hi hz0 hz1 hz2 rfl (by decide) none 0 0 [] rfl (fun _ => ⟨rfl, rfl⟩) rfl (fun b h => by cases h) ⟨wr.heap.size, 0, none⟩ 1 1 [.int .u64 7] rfl rfl (World.news_of_block (cs := #[.int .u64 7]) (t := 59) (fr := (0, 0)) (heap_alloc_new wr _)) (by simp [Value.oneCell']) (by decide) h63.out hby.out ?_; intro v' w' hown hgrow)
      go_end0
      exact ⟨rfl, hbA.trans ((grown_below hgrow).mono (Nat.le_trans hB hbA.size)), ((Stay.refl _ _).next ((Below.refl _ _).alloc (Nat.le_refl _) _)).next (grown_below hgrow)⟩
  · obtain ⟨⟨g, off, sp⟩, rfl⟩ : ∃ x, ao = some x := Option.ne_none_iff_exists'.1 hao
    obtain rfl : sp = none := by
      rcases ho with ⟨h, _⟩ | ⟨g', off', cur, he, _⟩
      · cases h
      · cases he; rfl
    obtain ⟨hsp, hBg, hlc⟩ := Spoil.ofOwn ho
    have HSP : Hid (Spoil w g off len cap) := hsp
    clear ho hsp hao
    go_enter Tryz.func119, Tryz.ntmps119
    go_wp2
    go_loopw [2] (fun i wr => ∃ k : Nat, k ≤ len ∧ i = .int .i64 k ∧ Spoil wr g off len cap ∧ Below B w wr ∧ Stay (some ⟨g, off, none⟩) w wr) (fun i _ => len - (intOf i).toNat)
    case atStart => exact ⟨0, Nat.zero_le _, rfl, HSP.out, Below.refl _ _, Stay.refl _ _⟩
    case round =>
      obtain ⟨k, hk, rfl, hsp, hbel, hsy⟩ := hrel
      have HSY : Hid (Stay (some ⟨g, off, none⟩) w wr) := hsy
      clear hsy
      have HS : Hid (Spoil wr g off len cap) := hsp
      have hgl := hsp.lt
      by_cases hlt : k < len
      · obtain ⟨z, hz⟩ := hsp.cell k hlt
        have hfz := hsp.soft (off + k)
        clear hsp
        go_wp2
        go_roundw
        case rel => exact ⟨k + 1, by omega, by go_num, HS.out.set hlt _, hbel.setCell (p := ⟨g, off + k, none⟩) hBg _, HSY.out.set _ _⟩
        case measure => simp [intOf]; omega
      · obtain rfl : k = len := by omega
        have hA := HS.out.later ((Below.refl wr.heap.size wr).alloc (Nat.le_refl _) (.cells #[.int .u64 7] 59))
        have hbA : Below B w (wr.alloc (.cells #[.int .u64 7] 59)) := hbel.alloc (Nat.le_trans hB hbel.size) _
        obtain ⟨olds, hol⟩ := hA.olds
        have HL : Hid (olds.length = k * 1 ∧ ∀ j u, olds[j]? = some u → (wr.alloc (.cells #[.int .u64 7] 59)).cell? ⟨g, off + j, none⟩ = some u) := hol
        have HP : Hid (k + 1 ≤ cap → ∀ j, j < [Value.int .u64 7].length → ((wr.alloc (.cells #[.int .u64 7] 59)).cell? ⟨g, off + k * 1 + j, none⟩).isSome = true ∧ (wr.alloc (.cells #[.int .u64 7] 59)).frozen? ⟨g, off + k * 1 + j, none⟩ = false) := fun h j hj => by
          obtain rfl : j = 0 := by simpa using hj
          exact ⟨by simpa using hA.room k (by omega), hA.soft _⟩
        clear hsp hol hA
        by_cases hr : k + 1 ≤ cap
        · go_wp2_with (at_builtin; refine wpList_append_arg _ rfl _ _ 23 rfl 59 i0 (.int .u64 0) 1 8 Tryz.underlying23 hi hz0 hz1 hz2 rfl (by decide) g off k cap olds rfl HL.out.1 HL.out.2 ⟨wr.heap.size, 0, none⟩ 1 1 [.int .u64 7] rfl rfl (World.news_of_block (cs := #[.int .u64 7]) (t := 59) (fr := (0, 0)) (heap_alloc_new wr _)) (by simp [Value.oneCell']) HP.out h63.out hby.out (fun _ => ?_) (fun h => absurd h (by omega)))
          go_end0
          exact ⟨rfl, below_cells hbA hBg, (HSY.out.next ((Below.refl _ _).alloc (Nat.le_refl _) _)).set _ _⟩
        · go_wp2_with (at_builtin; refine wpList_append_arg _ rfl _ _ 23 rfl 59 i0 (.int .u64 0) 1 8 Tryz.underlying23 hi hz0 hz1 hz2 rfl (by decide) g off k cap olds rfl HL.out.1 HL.out.2 ⟨wr.heap.size, 0, none⟩ 1 1 [.int .u64 7] rfl rfl (World.news_of_block (cs := #[.int .u64 7]) (t := 59) (fr := (0, 0)) (heap_alloc_new wr _)) (by simp [Value.oneCell']) HP.out h63.out hby.out (fun h => absurd h hr) (fun _ => ?_); intro v' w' hown hgrow)
          go_end0
          exact ⟨rfl, hbA.trans ((grown_below hgrow).mono (Nat.le_trans hB hbA.size)), (HSY.out.next ((Below.refl _ _).alloc (Nat.le_refl _) _)).next (grown_below hgrow)⟩

set_option maxRecDepth 100000 in
set_option maxHeartbeats 1000000 in
theorem spoil_any (B : Nat) (neg : Bool) (ao : Option Addr) (len cap : Nat) (zs : List Int) (w : World) (ho : Own B w .u64 59 ao len cap zs) (hB : B ≤ w.heap.size) (hl : len ≤ 8589934592) :
    Calls Tryz.prog 118 #[.agg #[.bool neg, .slice ao len cap]] w fun e w' => e = .returned (.tuple #[]) ∧ Below B w w' ∧ Stay ao w w' := by
  have hA : Below w.heap.size w (w.alloc (.cells #[.bool neg, .slice ao len cap] 26)) := (Below.refl _ _).alloc (Nat.le_refl _) _
  have HO : Hid (Own B (w.alloc (.cells #[.bool neg, .slice ao len cap] 26)) .u64 59 ao len cap zs) := ho.later hA
  clear ho
  go_enter Tryz.func118, Tryz.ntmps118
  go_wp2_with (go_at_call 119; refine (words_any B ao len cap zs _ HO.out (Nat.le_trans hB hA.size) hl).mono ?_; rintro e w1 ⟨rfl, hb1, hsy⟩)
  go_end0
  exact ⟨rfl, (below_less hA hB).trans hb1, Stay.after hA hsy⟩
end Go.Proofs.YtiiefpnkpfliiaaGreatDoor
