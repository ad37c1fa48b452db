/-
  MG: walks: products and sums of rows of residues.
-/
import Derived.Test.YtpannkjjggelhaaDoorPN04
namespace Go.Proofs.YtpannkjjggelhaaDoor
open Go.RowKit Go.Shelf
set_option linter.unusedVariables false
set_option linter.unusedSimpArgs false
/-- a row in memory of the call's own -/
def NewF (w w' : World) (e : Ending) (P : List Int → Prop) : Prop :=
  ∃ ao len cap zs, e = .returned (.slice ao len cap) ∧ Own w.heap.size w' .u64 25 ao len cap zs ∧ P zs ∧ cap ≤ 4194304 ∧ Below w.heap.size w w'
theorem bnextM {B : Nat} {w a b : World} (h : Below w.heap.size w a) (g : Below a.heap.size a b) : Below w.heap.size w b := h.trans (g.mono h.size)
set_option maxRecDepth 100000 in
set_option maxHeartbeats 2000000 in
theorem product_new (p : Int) (ao bo : Option Addr) (la ca lb cb : Nat) (f g : List Int) (w : World) (hp : 0 < p ∧ p ≤ 2147483648) (hf : FRow p w ao la ca f) (hg : FRow p w bo lb cb g) (hla : 0 < la) (hlb : 0 < lb) (hl : la + lb ≤ 4194304) :
    Calls Tryd.prog 23 #[.int .u64 p, .slice ao la ca, .slice bo lb cb] w fun e w' => NewF w w' e fun zs => zs = rmL p (mulL f g) := by
  have HF : Hid (FRow p w ao la ca f ∧ FRow p w bo lb cb g ∧ la = f.length ∧ lb = g.length) := ⟨hf, hg, hf.row.hlen, hg.row.hlen⟩
  obtain ⟨N, hN⟩ : ∃ N : Nat, N + 1 = la + lb := ⟨la + lb - 1, by omega⟩
  have hNI : (la : Int) + (lb : Int) - 1 = (N : Int) := by omega
  have HN : Hid (N = (mulL f g).length ∧ N + 1 = la + lb ∧ (0 < p ∧ p ≤ 2147483648)) := ⟨by rw [mulL_len _ _ (by rw [← hg.row.hlen]; exact hlb)]; have := HF.out.2.2; omega, hN, hp⟩
  have hN4 : N ≤ 4194304 := by omega
  clear hf hg hN hp
  have q1 : ((la : Int) == 0) = false := by simp; omega
  have q2 : ((lb : Int) == 0) = false := by simp; omega
  obtain ⟨i0, hi, hz0, hz1, hz2⟩ := info_parts info64
  have b1 : Hid (i0.bytes * N ≤ 281474976710656) := by show _ ≤ _; rw [hz2]; omega
  have b2 : Hid (N ≤ maxLen) := by show _ ≤ _; unfold maxLen; omega
  go_enter Tryd.func23, Tryd.ntmps23
  go_wp2_with (at_make; refine wpList_make_full _ rfl (.tmp 22) (.tmp 22) 24 rfl w.heap.size 25 i0 (.int .u64 0) 1 Tryd.underlying24 hi hz0 hz1 .i64 .i64 _ _ N rfl rfl rfl rfl b1.out b2.out (Nat.le_refl _) ?_; intro w1 hown1 hgrow1)
  have HM : Hid (Blk w1 w.heap.size .u64 25 (List.replicate N 0) ∧ Below w.heap.size w w1) := ⟨made_blk hown1, grown_below hgrow1⟩
  clear hown1 hgrow1 hNI
  obtain ⟨G, hG⟩ : ∃ G, G = w.heap.size := ⟨_, rfl⟩
  rw [← hG] at HM ⊢
  have HG : Hid (G = w.heap.size) := hG
  clear hG
  go_loopw [26] (fun i wr => ∃ (j : Nat) (L : List Int), i = .int .i64 (j : Int) ∧ j ≤ N ∧ Hid (Blk wr G .u64 25 L ∧ L.length = N ∧ (∀ t, t < j → dig L t = dig (mulL f g) t % p) ∧ Below w.heap.size w wr)) (fun i _ => N - (intOf i).toNat)
  case atStart => exact ⟨0, _, rfl, Nat.zero_le _, HM.out.1, by simp, fun t h => absurd h (by omega), by have := HM.out.2; rwa [HG.out] at this⟩
  case round =>
    obtain ⟨j, L, rfl, hj, HS⟩ := hrel
    by_cases hlt : j < N
    · obtain ⟨r, hr⟩ : ∃ r, dig (mulL f g) j % p = r := ⟨_, rfl⟩
      have HC : Hid (Calls Tryd.prog 31 #[.int .u64 p, .slice ao la ca, .slice bo lb cb, .int .i64 (j : Int)] wr fun e w' => e = .returned (.int .u64 r) ∧ Below wr.heap.size wr w') :=
        coefficient_any p r ao bo la ca lb cb j f g wr HN.out.2.2 (HF.out.1.later HS.out.2.2.2) (HF.out.2.1.later HS.out.2.2.2) (by omega) hr
      have HR : Hid (dig (mulL f g) j % p = r ∧ j < N ∧ j < L.length) := ⟨hr, hlt, by rw [HS.out.2.1]; exact hlt⟩
      have z1 : (j : Int) < (N : Int) := by omega
      have z2 : (0 : Int) ≤ (j : Int) := by omega
      clear hr
      go_wp2_with (go_at_call 31; refine HC.out.mono ?_; rintro e w4 ⟨rfl, hb4⟩; have HB : Hid (Blk w4 G .u64 25 L ∧ Below w.heap.size w w4) := ⟨HS.out.1.all hb4, bnextM (B := 0) HS.out.2.2.2 hb4⟩; have r0 := HB.out.1.cell HR.out.2.2; have r1 := HB.out.1.frozen; clear hb4)
      go_roundw
      case rel => exact ⟨j + 1, L.set j r, by go_num, by omega, HB.out.1.set j r, by rw [List.length_set]; exact HS.out.2.1, fun t ht => by
        rw [dig_set _ HR.out.2.2]
        by_cases e : t = j
        · subst e; rw [if_pos rfl]; exact HR.out.1.symm
        · rw [if_neg e]; exact HS.out.2.2.1 t (by omega), HB.out.2.setCell (p := ⟨G, j, none⟩) (by rw [HG.out]; exact Nat.le_refl _) _⟩
      case measure => simp [intOf]; omega
    · have HL : Hid (L = rmL p (mulL f g)) := dig_ext (by rw [rmL_len, HS.out.2.1]; exact HN.out.1) fun t ht => by rw [rmL_dig]; exact HS.out.2.2.1 t (by rw [HS.out.2.1] at ht; omega)
      go_wp2
      go_ret
      exact ⟨_, _, _, L, rfl, Own.whole HS.out.1 (by rw [HG.out]; exact Nat.le_refl _) HS.out.2.1.symm, HL.out, hN4, HS.out.2.2.2⟩
/-- the product modulo p, of whatever lengths -/
def prodL (p : Int) (f g : List Int) : List Int := if f = [] ∨ g = [] then [] else rmL p (mulL f g)
theorem product_any (p : Int) (ao bo : Option Addr) (la ca lb cb : Nat) (f g : List Int) (w : World) (hp : 0 < p ∧ p ≤ 2147483648) (hf : FRow p w ao la ca f) (hg : FRow p w bo lb cb g) (hl : la + lb ≤ 4194304) :
    Calls Tryd.prog 23 #[.int .u64 p, .slice ao la ca, .slice bo lb cb] w fun e w' => NewF w w' e fun zs => zs = prodL p f g := by
  by_cases h0 : la = 0 ∨ lb = 0
  · have hn : f = [] ∨ g = [] := by
      have h1 := hf.row.hlen; have h2 := hg.row.hlen
      rcases h0 with h | h
      · exact Or.inl (List.eq_nil_of_length_eq_zero (by omega))
      · exact Or.inr (List.eq_nil_of_length_eq_zero (by omega))
    have HN : Hid (NewF w w (.returned (.slice none 0 0)) fun zs => zs = prodL p f g) := ⟨_, _, _, [], rfl, Own.none_, by rw [prodL, if_pos hn], by decide, Below.refl _ _⟩
    clear hn hf hg hp
    by_cases ha : la = 0
    · subst ha
      go_enter Tryd.func23, Tryd.ntmps23
      go_wp2
      go_ret
      exact HN.out
    · have q1 : ((la : Int) == 0) = false := by simp; omega
      have hb : lb = 0 := by omega
      subst hb
      clear h0 ha
      go_enter Tryd.func23, Tryd.ntmps23
      go_wp2
      go_ret
      exact HN.out
  · have hn : ¬ (f = [] ∨ g = []) := by
      have h1 := hf.row.hlen; have h2 := hg.row.hlen
      intro h
      rcases h with h | h <;> subst h <;> simp at h1 h2 <;> omega
    rw [prodL, if_neg hn]
    exact product_new p ao bo la ca lb cb f g w hp hf hg (by omega) (by omega) hl
theorem splice_zero (f : List Int) (N : Nat) (h : f.length ≤ N) : (splice (List.replicate N (0 : Int)) 0 f).length = N ∧ ∀ t, dig (splice (List.replicate N (0 : Int)) 0 f) t = dig f t := by
  constructor
  · simp [splice]; omega
  · intro t
    simp only [splice, List.take_zero, List.nil_append, Nat.zero_add, List.drop_replicate, dig, List.getD_eq_getElem?_getD]
    by_cases ht : t < f.length
    · rw [List.getElem?_append_left ht]
    · rw [List.getElem?_append_right (by omega), List.getElem?_replicate, List.getElem?_eq_none (Nat.le_of_not_lt ht)]
      split <;> rfl
set_option maxRecDepth 100000 in
set_option maxHeartbeats 2000000 in
theorem merged_any (p : Int) (ao bo : Option Addr) (la ca lb cb : Nat) (f g : List Int) (w : World) (hp : 0 < p ∧ p ≤ 2147483648) (hf : FRow p w ao la ca f) (hg : FRow p w bo lb cb g) :
    Calls Tryd.prog 21 #[.slice ao la ca, .slice bo lb cb, .func (.func 22) #[.int .u64 p] #[]] w fun e w' => NewF w w' e fun zs => Pm p zs ∧ EqM p (fun x => ev zs x) (fun x => ev f x + ev g x) ∧ zs.length ≤ max la lb := by
  have HF : Hid (FRow p w ao la ca f ∧ FRow p w bo lb cb g ∧ la = f.length ∧ lb = g.length ∧ (0 < p ∧ p ≤ 2147483648)) := ⟨hf, hg, hf.row.hlen, hg.row.hlen, hp⟩
  obtain ⟨N, hN⟩ : ∃ N : Nat, N = max la lb := ⟨_, rfl⟩
  have hNI : max (la : Int) (lb : Int) = (N : Int) := by omega
  have hN4 : N ≤ 4194304 := by have h1 := hf.short; have h2 := hg.short; omega
  have HN : Hid (N = max la lb ∧ la ≤ N ∧ lb ≤ N) := ⟨hN, by omega, by omega⟩
  clear hf hg hp hN
  obtain ⟨i0, hi, hz0, hz1, hz2⟩ := info_parts info64
  have b1 : Hid (i0.bytes * N ≤ 281474976710656) := by show _ ≤ _; rw [hz2]; omega
  have b2 : Hid (N ≤ maxLen) := by show _ ≤ _; unfold maxLen; omega
  have b3 : Hid ((f.map (Value.int .u64)).length = Nat.min la N) := by show _ = _; rw [List.length_map, ← HF.out.2.2.1]; exact (Nat.min_eq_left HN.out.2.1).symm
  have b4 : Hid (0 + (f.map (Value.int .u64)).length ≤ ((List.replicate N (0 : Int)).map (Value.int .u64)).length) := by show _ ≤ _; simp [← HF.out.2.2.1]; exact HN.out.2.1
  go_enter Tryd.func21, Tryd.ntmps21
  go_wp2_with (first
    | (at_make; refine wpList_make_full _ rfl (.tmp 14) (.tmp 14) 24 rfl w.heap.size 25 i0 (.int .u64 0) 1 Tryd.underlying24 hi hz0 hz1 .i64 .i64 _ _ N rfl rfl rfl rfl b1.out b2.out (Nat.le_refl _) ?_; intro w1 hown1 hgrow1)
    | (have _t := hown1; refine wpList_copy_splice rfl (.tmp 16) (.tmp 17) 24 24 rfl 25 Tryd.underlying24 size64 _ _ _ _ _ _ rfl rfl w.heap.size 0 ((List.replicate N (0 : Int)).map (Value.int .u64)) 25 (made_blk hown1) (f.map (Value.int .u64)) b3.out (fun h => ⟨rfl, (HF.out.1.row.later (grown_below hgrow1)).src (by rw [HF.out.2.2.1]; simpa using h)⟩) b4.out (ints_oneCell _ _) w.heap.size w (grown_below hgrow1) (Nat.le_refl _) ?_; intro w2 hg2 hb2))
  have HM : Hid (Blk w2 w.heap.size .u64 25 (splice (List.replicate N (0 : Int)) 0 f) ∧ Below w.heap.size w w2) := ⟨blk_splice hg2.out, hb2⟩
  clear hown1 hgrow1 hNI _t hg2 hb2
  obtain ⟨G, hG⟩ : ∃ G, G = w.heap.size := ⟨_, rfl⟩
  rw [← hG] at HM ⊢
  have HG : Hid (G = w.heap.size) := hG
  clear hG
  go_loopw [21] (fun i wr => ∃ (j : Nat) (L : List Int), i = .int .i64 (j : Int) ∧ j ≤ N ∧ Hid (Blk wr G .u64 25 L ∧ L.length = N ∧ (∀ t, dig L t = if t < j then (dig f t + dig g t) % p else dig f t) ∧ Below w.heap.size w wr)) (fun i _ => N - (intOf i).toNat)
  case atStart => exact ⟨0, _, rfl, Nat.zero_le _, HM.out.1, (splice_zero f N (by rw [← HF.out.2.2.1]; exact HN.out.2.1)).1, fun t => by rw [if_neg (by omega)]; exact (splice_zero f N (by rw [← HF.out.2.2.1]; exact HN.out.2.1)).2 t, by have := HM.out.2; rwa [HG.out] at this⟩
  case round =>
    obtain ⟨j, L, rfl, hj, HS⟩ := hrel
    by_cases hlt : j < N
    · have hp2 := HF.out.2.2.2.2
      have hfd := HF.out.1.wd.dig hp2.1 j
      have hgd := HF.out.2.1.wd.dig hp2.1 j
      obtain ⟨x, hx⟩ : ∃ x, dig f j = x := ⟨_, rfl⟩
      obtain ⟨y, hy⟩ : ∃ y, dig g j = y := ⟨_, rfl⟩
      obtain ⟨r, hr⟩ : ∃ r, (x + y) % p = r := ⟨_, rfl⟩
      rw [hx] at hfd
      rw [hy] at hgd
      have HC : Hid (∀ W, Calls Tryd.prog 22 #[.int .u64 p, .int .u64 x, .int .u64 y] W fun e w' => e = .returned (.int .u64 r) ∧ w' = W) := fun W => mplus_any p x y r W hp2 hfd hgd hr
      have hLj : j < L.length := by rw [HS.out.2.1]; exact hlt
      have HR : Hid ((dig f j + dig g j) % p = r ∧ j < N ∧ j < L.length) := ⟨by rw [hx, hy]; exact hr, hlt, hLj⟩
      have r0 := HS.out.1.cell hLj
      rw [HS.out.2.2.1 j, if_neg (by omega), hx] at r0
      have r1 := HS.out.1.frozen
      have z1 : (j : Int) < (N : Int) := by omega
      have z2 : (0 : Int) ≤ (j : Int) := by omega
      have HQ : Hid (∀ W, Below wr.heap.size wr W → ∃ L', Blk (W.setCell ⟨G, j, none⟩ (.int .u64 r)) G .u64 25 L' ∧ L'.length = N ∧ (∀ t, dig L' t = if t < j + 1 then (dig f t + dig g t) % p else dig f t) ∧ Below w.heap.size w (W.setCell ⟨G, j, none⟩ (.int .u64 r))) := by
        intro W hb
        refine ⟨L.set j r, (HS.out.1.all hb).set j r, by rw [List.length_set]; exact HS.out.2.1, fun t => ?_, (bnextM (B := 0) HS.out.2.2.2 hb).setCell (p := ⟨G, j, none⟩) (by rw [HG.out]; exact Nat.le_refl _) _⟩
        rw [dig_set _ HR.out.2.2, HS.out.2.2.1 t]
        by_cases e : t = j
        · subst e; rw [if_pos rfl, if_pos (by omega)]; exact HR.out.1.symm
        · rw [if_neg e]
          by_cases e2 : t < j
          · rw [if_pos e2, if_pos (by omega)]
          · rw [if_neg e2, if_neg (by omega)]
      clear hr hx hfd hgd hp2
      by_cases hjb : j < lb
      · obtain ⟨b, off, rfl, hb, hc, _, _⟩ := (HF.out.2.1.later HS.out.2.2.2).cell HF.out.2.2.2.2.1 hjb
        rw [hy] at hc
        have z3 : (j : Int) < (lb : Int) := by omega
        clear hy
        go_wp2_with (go_at_call 22; refine (HC.out _).mono ?_; rintro e w4 ⟨rfl, hw4⟩; replace hw4 := hw4.symm; subst hw4)
        go_roundw
        case rel =>
          obtain ⟨L', h1, h2, h3, h4⟩ := HQ.out wr (Below.refl _ _)
          exact ⟨j + 1, L', by go_num, by omega, h1, h2, h3, h4⟩
        case measure => simp [intOf]; omega
      · have hy0 : y = 0 := by rw [← hy]; exact dig_past (by rw [← HF.out.2.2.2.1]; omega)
        subst hy0
        have z3 : ¬ (j : Int) < (lb : Int) := by omega
        clear hy
        go_wp2_with (go_at_call 22; refine (HC.out _).mono ?_; rintro e w4 ⟨rfl, hw4⟩; replace hw4 := hw4.symm; subst hw4)
        go_roundw
        case rel =>
          obtain ⟨L', h1, h2, h3, h4⟩ := HQ.out wr (Below.refl _ _)
          exact ⟨j + 1, L', by go_num, by omega, h1, h2, h3, h4⟩
        case measure => simp [intOf]; omega
    · have HL : Hid (Wd p L ∧ EqM p (fun x => ev L x) (fun x => ev f x + ev g x)) := by
        have hp2 := HF.out.2.2.2.2
        have hd : ∀ t, dig L t = (dig f t + dig g t) % p := fun t => by
          rw [HS.out.2.2.1 t]
          by_cases e : t < j
          · rw [if_pos e]
          · rw [if_neg e, dig_past (s := f) (by rw [← HF.out.2.2.1]; have := HN.out; omega), dig_past (s := g) (by rw [← HF.out.2.2.2.1]; have := HN.out; omega)]; simp
        constructor
        · intro z hz
          obtain ⟨i, hi, rfl⟩ := List.getElem_of_mem hz
          have : L[i] = dig L i := by simp [dig, hi]
          rw [this, hd i]
          exact ⟨Int.emod_nonneg _ (by omega), Int.emod_lt_of_pos _ hp2.1⟩
        · have h1 : EqM p (fun x => ev L x) (fun x => ev (addTo f g) x) := EqM.of_digs fun t => ⟨_, by rw [hd t, addTo_dig]; exact emod_eq _ _⟩
          exact h1.trans (EqM.of_eq fun x => addTo_ev f g x)
      have HT := mtrimmed_any (some ⟨G, 0, none⟩) N N L wr ⟨HS.out.2.1.symm, Nat.le_refl _, fun h => (by cases h), (by
        by_cases h0 : N = 0
        · exact Or.inl h0
        · exact Or.inr ⟨G, 0, rfl, HS.out.1.lt, fun t ht => by rw [Nat.zero_add]; exact HS.out.1.cell (by rw [HS.out.2.1]; exact ht)⟩)⟩ (by omega)
      go_wp2_with (go_at_call 30; refine HT.mono ?_; rintro e w4 ⟨⟨n, hn, rfl, hcan, hz⟩, hw4⟩; replace hw4 := hw4.symm; subst hw4; have HZ : Hid (n ≤ N ∧ Can (L.take n) ∧ ∀ t, n ≤ t → dig L t = 0) := ⟨hn, hcan, hz⟩; clear hn hcan hz)
      go_ret
      have hz := HZ.out
      exact ⟨_, _, _, L.take n, rfl, (Own.whole HS.out.1 (by rw [HG.out]; exact Nat.le_refl _) HS.out.2.1.symm).take hz.1, ⟨⟨HL.out.1.take n, hz.2.1⟩, (take_eqm p hz.2.2).trans HL.out.2, by rw [List.length_take, ← HN.out.1]; omega⟩, hN4, HS.out.2.2.2⟩
end Go.Proofs.YtpannkjjggelhaaDoor
