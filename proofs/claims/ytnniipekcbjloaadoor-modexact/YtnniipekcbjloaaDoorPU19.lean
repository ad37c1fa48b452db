/-
  PH: walks: the law's own comparing ("is"); what modp's DivMod, Gcd and Pow tell, beside the page's.
-/
import Derived.Test.YtnniipekcbjloaaDoorPU16
import Derived.Test.YtnniipekcbjloaaDoorPU18
import Derived.Deep.RegionHeld3
namespace Go.Proofs.YtnniipekcbjloaaDoor
open Go.RowKit Go.Shelf
set_option linter.unusedVariables false
set_option linter.unusedSimpArgs false
set_option maxRecDepth 100000 in
set_option maxHeartbeats 1000000 in
theorem mis_ok (B : Nat) (xo yo : Option Addr) (xl xc yl yc : Nat) (zs : List Int) (w : World) (ho : Own B w .u64 25 xo xl xc zs) (hB : B ≤ w.heap.size) (hl : xl ≤ 4194304) (hy : RowAt w .u64 yo yl yc zs) :
    Calls Tryd.prog 20 #[.slice xo xl xc, .int .i64 0, .int .i64 0, .slice yo yl yc] w fun e w' => e = .returned (.bool true) ∧ Below B w w' ∧ Stay xo w w' := by
  have HE : Hid (Calls Tryd.prog 26 #[.slice xo xl xc, .slice yo yl yc] w fun e w' => e = .returned (.bool true) ∧ Below w.heap.size w w') := meqF_any true xo yo xl xc yl yc zs zs w ho.row hy (by omega) (by simp)
  have HW : Hid (∀ W, Below w.heap.size w W → Calls Tryd.prog 51 #[.slice xo xl xc] W fun e w' => e = .returned (.tuple #[]) ∧ Below B W w' ∧ Stay xo W w') := fun W hb => words_any B xo xl xc zs W (ho.later hb) (Nat.le_trans hB hb.size) (by omega)
  have HB : Hid (B ≤ w.heap.size) := hB
  clear ho hy hB hl
  go_enter Tryd.func20, Tryd.ntmps20
  go_wp2_with (first
    | (go_at_call 17; refine (mnum_any 0 _).mono ?_; rintro e w1 ⟨rfl, hw1⟩; replace hw1 := hw1.symm; subst hw1)
    | (go_at_call 26; refine HE.out.mono ?_; rintro e w2 ⟨rfl, hb2⟩)
    | (go_at_call 51; refine (HW.out _ hb2).mono ?_; rintro e w3 ⟨rfl, hb3, hs3⟩))
  go_ret
  exact ⟨rfl, (hb2.mono HB.out).trans hb3, Stay.after hb2 hs3⟩
set_option maxHeartbeats 1000000 in
theorem mis_bad (c : Int) (yo : Option Addr) (yl yc : Nat) (w : World) (hc : c = 90 ∨ c = 91) :
    Calls Tryd.prog 20 #[.slice none 0 0, .int .i64 c, .int .i64 c, .slice yo yl yc] w fun e w' => e = .returned (.bool true) ∧ w' = w := by
  rcases hc with rfl | rfl
  · go_enter Tryd.func20, Tryd.ntmps20
    go_wp2_with (go_at_call 17; refine (mnum_any 90 _).mono ?_; rintro e w1 ⟨rfl, hw1⟩; replace hw1 := hw1.symm; subst hw1)
    go_ret
    exact ⟨rfl, rfl⟩
  · go_enter Tryd.func20, Tryd.ntmps20
    go_wp2_with (go_at_call 17; refine (mnum_any 91 _).mono ?_; rintro e w1 ⟨rfl, hw1⟩; replace hw1 := hw1.symm; subst hw1)
    go_ret
    exact ⟨rfl, rfl⟩
/-- a face's answer, of its own, with no error -/
def OwnF (w w' : World) (e : Ending) (z : List Int) : Prop := (∃ o l c, e = .returned (.tuple #[.slice o l c, .int .i64 0]) ∧ Own w.heap.size w' .u64 25 o l c z ∧ l ≤ 4194304) ∧ Below w.heap.size w w'
theorem FaceF.own {w w' : World} {e : Ending} {P : List Int → Prop} {z : List Int} (h : FaceF w w' e P) (hz : ∀ y, P y → y = z) : OwnF w w' e z := by
  obtain ⟨o, l, c, y, he, ho, hp, hc, hb⟩ := h
  obtain rfl := hz y hp
  exact ⟨⟨o, l, c, he, ho, Nat.le_trans ho.row.hcap hc⟩, hb⟩
/-- what a quotient and a rest are -/
def IsDiv (p : Int) (f g q r : List Int) : Prop := Pm p q ∧ Pm p r ∧ r.length < g.length ∧ EqM p (fun x => ev f x) (fun x => ev q x * ev g x + ev r x)
theorem IsDiv.uniq {p : Int} {f g q r q' r' : List Int} (hp : IsPr p) (hg : Pm p g) (h : IsDiv p f g q r) (k : IsDiv p f g q' r') : q = q' ∧ r = r' := by
  have hr : r = r' := Rm.uniq hp hg ⟨h.2.1, h.2.2.1, q, h.2.2.2⟩ ⟨k.2.1, k.2.2.1, q', k.2.2.2⟩
  subst hr
  exact ⟨quo_uniq hp hg (by have := h.2.2.1; omega) h.1 k.1 h.2.2.2 k.2.2.2, rfl⟩
end Go.Proofs.YtnniipekcbjloaaDoor
/-
  PJ: walks: modp's minus over rows, Sub, Der, Monic, Add and Mul where they refuse; the page's Plus, Less, Der modulo p.
-/
namespace Go.Proofs.YtnniipekcbjloaaDoor
open Go.RowKit Go.Shelf
set_option linter.unusedVariables false
set_option linter.unusedSimpArgs false
theorem TrimOf.uniq {a b L : List Int} (h : TrimOf a L) (k : TrimOf b L) : a = b := by
  have ha : Can a := by obtain ⟨_, _, _, c, _⟩ := h; exact c
  have hb : Can b := by obtain ⟨_, _, _, c, _⟩ := k; exact c
  have hd : ∀ t, Go.Proofs.YtnniipekcbjloaaDoor.dig a t = Go.Proofs.YtnniipekcbjloaaDoor.dig b t := fun t => (h.dig t).trans (k.dig t).symm
  have h1 := len_of_digs hb hd
  have h2 := len_of_digs ha fun t => (hd t).symm
  exact dig_ext (by omega) fun t _ => hd t
theorem TrimOf.pm {p : Int} {a L : List Int} (h : TrimOf a L) (hw : Wd p L) : Pm p a := ⟨h.wd hw, by obtain ⟨_, _, _, c, _⟩ := h; exact c⟩
theorem TrimOf.eqm {p : Int} {a L : List Int} (h : TrimOf a L) : EqM p (fun x => ev a x) (fun x => ev L x) := EqM.of_eq fun x => ev_of_digs (fun k => h.dig k) x
set_option maxRecDepth 100000 in
set_option maxHeartbeats 2000000 in
theorem mergedM_any (p : Int) (ao bo : Option Addr) (la ca lb cb : Nat) (f g : List Int) (w : World) (hp : 0 < p ∧ p ≤ 2147483648) (hf : FRow p w ao la ca f) (hg : FRow p w bo lb cb g) :
    Calls Tryd.prog 50 #[.slice ao la ca, .slice bo lb cb, .func (.func 52) #[.int .u64 p] #[]] w fun e w' => NewF w w' e fun zs => Pm p zs ∧ EqM p (fun x => ev zs x) (fun x => ev f x - ev g x) ∧ zs.length ≤ max la lb := by
  have HF : Hid (FRow p w ao la ca f ∧ FRow p w bo lb cb g ∧ la = f.length ∧ lb = g.length ∧ (0 < p ∧ p ≤ 2147483648)) := ⟨hf, hg, hf.row.hlen, hg.row.hlen, hp⟩
  obtain ⟨N, hN⟩ : ∃ N : Nat, N = max la lb := ⟨_, rfl⟩
  have hNI : max (la : Int) (lb : Int) = (N : Int) := by omega
  have hN4 : N ≤ 4194304 := by have h1 := hf.short; have h2 := hg.short; omega
  have HN : Hid (N = max la lb ∧ la ≤ N ∧ lb ≤ N) := ⟨hN, by omega, by omega⟩
  clear hf hg hp hN
  obtain ⟨i0, hi, hz0, hz1, hz2⟩ := info_parts info64
  have b1 : Hid (i0.bytes * N ≤ 281474976710656) := by show _ ≤ _; rw [hz2]; omega
  have b2 : Hid (N ≤ maxLen) := by show _ ≤ _; unfold maxLen; omega
  have b3 : Hid ((f.map (Value.int .u64)).length = Nat.min la N) := by show _ = _; rw [List.length_map, ← HF.out.2.2.1]; exact (Nat.min_eq_left HN.out.2.1).symm
  have b4 : Hid (0 + (f.map (Value.int .u64)).length ≤ ((List.replicate N (0 : Int)).map (Value.int .u64)).length) := by show _ ≤ _; simp [← HF.out.2.2.1]; exact HN.out.2.1
  go_enter Tryd.func50, Tryd.ntmps50
  go_wp2_with (first
    | (at_make; refine wpList_make_full _ rfl (.tmp 14) (.tmp 14) 24 rfl w.heap.size 25 i0 (.int .u64 0) 1 Tryd.underlying24 hi hz0 hz1 .i64 .i64 _ _ N rfl rfl rfl rfl b1.out b2.out (Nat.le_refl _) ?_; intro w1 hown1 hgrow1)
    | (have _t := hown1; refine wpList_copy_splice rfl (.tmp 16) (.tmp 17) 24 24 rfl 25 Tryd.underlying24 size64 _ _ _ _ _ _ rfl rfl w.heap.size 0 ((List.replicate N (0 : Int)).map (Value.int .u64)) 25 (made_blk hown1) (f.map (Value.int .u64)) b3.out (fun h => ⟨rfl, (HF.out.1.row.later (grown_below hgrow1)).src (by rw [HF.out.2.2.1]; simpa using h)⟩) b4.out (ints_oneCell _ _) w.heap.size w (grown_below hgrow1) (Nat.le_refl _) ?_; intro w2 hg2 hb2))
  have HM : Hid (Blk w2 w.heap.size .u64 25 (splice (List.replicate N (0 : Int)) 0 f) ∧ Below w.heap.size w w2) := ⟨blk_splice hg2.out, hb2⟩
  clear hown1 hgrow1 hNI _t hg2 hb2
  obtain ⟨G, hG⟩ : ∃ G, G = w.heap.size := ⟨_, rfl⟩
  rw [← hG] at HM ⊢
  have HG : Hid (G = w.heap.size) := hG
  clear hG
  go_loopw [21] (fun i wr => ∃ (j : Nat) (L : List Int), i = .int .i64 (j : Int) ∧ j ≤ N ∧ Hid (Blk wr G .u64 25 L ∧ L.length = N ∧ (∀ t, dig L t = if t < j then (dig f t - dig g t) % p else dig f t) ∧ Below w.heap.size w wr)) (fun i _ => N - (intOf i).toNat)
  case atStart => exact ⟨0, _, rfl, Nat.zero_le _, HM.out.1, (splice_zero f N (by rw [← HF.out.2.2.1]; exact HN.out.2.1)).1, fun t => by rw [if_neg (by omega)]; exact (splice_zero f N (by rw [← HF.out.2.2.1]; exact HN.out.2.1)).2 t, by have := HM.out.2; rwa [HG.out] at this⟩
  case round =>
    obtain ⟨j, L, rfl, hj, HS⟩ := hrel
    by_cases hlt : j < N
    · have hp2 := HF.out.2.2.2.2
      have hfd := HF.out.1.wd.dig hp2.1 j
      have hgd := HF.out.2.1.wd.dig hp2.1 j
      obtain ⟨x, hx⟩ : ∃ x, dig f j = x := ⟨_, rfl⟩
      obtain ⟨y, hy⟩ : ∃ y, dig g j = y := ⟨_, rfl⟩
      obtain ⟨r, hr⟩ : ∃ r, (x - y) % p = r := ⟨_, rfl⟩
      rw [hx] at hfd
      rw [hy] at hgd
      have HC : Hid (∀ W, Calls Tryd.prog 52 #[.int .u64 p, .int .u64 x, .int .u64 y] W fun e w' => e = .returned (.int .u64 r) ∧ w' = W) := fun W => mminus_any p x y r W hp2 hfd hgd hr
      have hLj : j < L.length := by rw [HS.out.2.1]; exact hlt
      have HR : Hid ((dig f j - dig g j) % p = r ∧ j < N ∧ j < L.length) := ⟨by rw [hx, hy]; exact hr, hlt, hLj⟩
      have r0 := HS.out.1.cell hLj
      rw [HS.out.2.2.1 j, if_neg (by omega), hx] at r0
      have r1 := HS.out.1.frozen
      have z1 : (j : Int) < (N : Int) := by omega
      have z2 : (0 : Int) ≤ (j : Int) := by omega
      have HQ : Hid (∀ W, Below wr.heap.size wr W → ∃ L', Blk (W.setCell ⟨G, j, none⟩ (.int .u64 r)) G .u64 25 L' ∧ L'.length = N ∧ (∀ t, dig L' t = if t < j + 1 then (dig f t - dig g t) % p else dig f t) ∧ Below w.heap.size w (W.setCell ⟨G, j, none⟩ (.int .u64 r))) := by
        intro W hb
        refine ⟨L.set j r, (HS.out.1.all hb).set j r, by rw [List.length_set]; exact HS.out.2.1, fun t => ?_, (bnextM (B := 0) HS.out.2.2.2 hb).setCell (p := ⟨G, j, none⟩) (by rw [HG.out]; exact Nat.le_refl _) _⟩
        rw [dig_set _ HR.out.2.2, HS.out.2.2.1 t]
        by_cases e : t = j
        · subst e; rw [if_pos rfl, if_pos (by omega)]; exact HR.out.1.symm
        · rw [if_neg e]
          by_cases e2 : t < j
          · rw [if_pos e2, if_pos (by omega)]
          · rw [if_neg e2, if_neg (by omega)]
      clear hr hx hfd hgd hp2
      by_cases hjb : j < lb
      · obtain ⟨b, off, rfl, hb, hc, _, _⟩ := (HF.out.2.1.later HS.out.2.2.2).cell HF.out.2.2.2.2.1 hjb
        rw [hy] at hc
        have z3 : (j : Int) < (lb : Int) := by omega
        clear hy
        go_wp2_with (go_at_call 52; refine (HC.out _).mono ?_; rintro e w4 ⟨rfl, hw4⟩; replace hw4 := hw4.symm; subst hw4)
        go_roundw
        case rel =>
          obtain ⟨L', h1, h2, h3, h4⟩ := HQ.out wr (Below.refl _ _)
          exact ⟨j + 1, L', by go_num, by omega, h1, h2, h3, h4⟩
        case measure => simp [intOf]; omega
      · have hy0 : y = 0 := by rw [← hy]; exact dig_past (by rw [← HF.out.2.2.2.1]; omega)
        subst hy0
        have z3 : ¬ (j : Int) < (lb : Int) := by omega
        clear hy
        go_wp2_with (go_at_call 52; refine (HC.out _).mono ?_; rintro e w4 ⟨rfl, hw4⟩; replace hw4 := hw4.symm; subst hw4)
        go_roundw
        case rel =>
          obtain ⟨L', h1, h2, h3, h4⟩ := HQ.out wr (Below.refl _ _)
          exact ⟨j + 1, L', by go_num, by omega, h1, h2, h3, h4⟩
        case measure => simp [intOf]; omega
    · have HL : Hid (Wd p L ∧ EqM p (fun x => ev L x) (fun x => ev f x - ev g x)) := by
        have hp2 := HF.out.2.2.2.2
        have hd : ∀ t, dig L t = (dig f t - dig g t) % p := fun t => by
          rw [HS.out.2.2.1 t]
          by_cases e : t < j
          · rw [if_pos e]
          · rw [if_neg e, dig_past (s := f) (by rw [← HF.out.2.2.1]; have := HN.out; omega), dig_past (s := g) (by rw [← HF.out.2.2.2.1]; have := HN.out; omega)]; simp
        constructor
        · intro z hz
          obtain ⟨i, hi, rfl⟩ := List.getElem_of_mem hz
          have : L[i] = dig L i := by simp [dig, hi]
          rw [this, hd i]
          exact ⟨Int.emod_nonneg _ (by omega), Int.emod_lt_of_pos _ hp2.1⟩
        · have h1 : EqM p (fun x => ev L x) (fun x => ev (addTo f (g.map (-1 * ·))) x) := EqM.of_digs fun t => ⟨_, by rw [hd t, addTo_dig, map_dig, show dig f t + -1 * dig g t = dig f t - dig g t by omega]; exact emod_eq _ _⟩
          exact h1.trans (EqM.of_eq fun x => by rw [addTo_ev, map_ev]; omega)
      have HT := mtrimmed_any (some ⟨G, 0, none⟩) N N L wr ⟨HS.out.2.1.symm, Nat.le_refl _, fun h => (by cases h), (by
        by_cases h0 : N = 0
        · exact Or.inl h0
        · exact Or.inr ⟨G, 0, rfl, HS.out.1.lt, fun t ht => by rw [Nat.zero_add]; exact HS.out.1.cell (by rw [HS.out.2.1]; exact ht)⟩)⟩ (by omega)
      go_wp2_with (go_at_call 54; refine HT.mono ?_; rintro e w4 ⟨⟨n, hn, rfl, hcan, hz⟩, hw4⟩; replace hw4 := hw4.symm; subst hw4; have HZ : Hid (n ≤ N ∧ Can (L.take n) ∧ ∀ t, n ≤ t → dig L t = 0) := ⟨hn, hcan, hz⟩; clear hn hcan hz)
      go_ret
      have hz := HZ.out
      exact ⟨_, _, _, L.take n, rfl, (Own.whole HS.out.1 (by rw [HG.out]; exact Nat.le_refl _) HS.out.2.1.symm).take hz.1, ⟨⟨HL.out.1.take n, hz.2.1⟩, (take_eqm p hz.2.2).trans HL.out.2, by rw [List.length_take, ← HN.out.1]; omega⟩, hN4, HS.out.2.2.2⟩
set_option maxHeartbeats 400000 in
theorem mSub_any (p : Int) (ao bo : Option Addr) (la ca lb cb : Nat) (f g : List Int) (w : World) (h : Good2 p w ao bo la ca lb cb f g) :
    Calls Tryd.prog 21 #[.slice ao la ca, .slice bo lb cb, .int .u64 p] w fun e w' => FaceF w w' e fun zs => Pm p zs ∧ EqM p (fun x => ev zs x) (fun x => ev f x - ev g x) ∧ zs.length ≤ max la lb := by
  have H1 := mcheckBoth_any p ao bo la ca lb cb f g w h
  have H2 : Hid (∀ W, Below w.heap.size w W → Calls Tryd.prog 50 #[.slice ao la ca, .slice bo lb cb, .func (.func 52) #[.int .u64 p] #[]] W fun e w' => NewF W w' e fun zs => Pm p zs ∧ EqM p (fun x => ev zs x) (fun x => ev f x - ev g x) ∧ zs.length ≤ max la lb) := fun W hb =>
    mergedM_any p ao bo la ca lb cb f g W (by have := h.1.1.two; have := h.1.2.1; omega) (h.2.1.later hb).1 (h.2.2.later hb).1
  have hmf : ∀ (fn : Fn) (first cap : Array Value) (w : World), (Instr.makeFunc fn first cap).run Tryd.prog w = .ok (.func fn first cap) w := fun _ _ _ _ => rfl
  clear h
  go_enter Tryd.func21, Tryd.ntmps21
  go_wp2_with (first
    | (go_at_call 49; refine H1.mono ?_; rintro e w1 ⟨rfl, hb1⟩)
    | (go_at_call 50; refine (H2.out _ hb1).mono ?_; rintro e w2 hn; obtain ⟨zo, zl, zc, zs, rfl, hrest⟩ := hn.back hb1))
  go_ret2
  exact ⟨zo, zl, zc, zs, rfl, hrest⟩
set_option maxHeartbeats 400000 in
theorem mAdd_no (p : Int) (ao bo : Option Addr) (la ca lb cb : Nat) (f g : List Int) (w : World) (hp : 0 ≤ p ∧ p < 18446744073709551616) (hT : TabAt 0 Lib.deBruijn64tab w) (hf : RawF w ao la ca f) (hg : RawF w bo lb cb g) (h : ¬ (okF p la f ∧ okF p lb g)) :
    Calls Tryd.prog 19 #[.slice ao la ca, .slice bo lb cb, .int .u64 p] w fun e w' => e = .returned (.tuple #[.slice none 0 0, .int .i64 90]) ∧ Below w.heap.size w w' := by
  have H1 := mcheckBoth_no p ao bo la ca lb cb f g w hp hT hf hg h
  clear h hf hg hT hp
  go_enter Tryd.func19, Tryd.ntmps19
  go_wp2_with (go_at_call 49; refine H1.mono ?_; rintro e w1 ⟨rfl, hb1⟩)
  go_ret2
  exact ⟨rfl, hb1⟩
set_option maxHeartbeats 400000 in
theorem mSub_no (p : Int) (ao bo : Option Addr) (la ca lb cb : Nat) (f g : List Int) (w : World) (hp : 0 ≤ p ∧ p < 18446744073709551616) (hT : TabAt 0 Lib.deBruijn64tab w) (hf : RawF w ao la ca f) (hg : RawF w bo lb cb g) (h : ¬ (okF p la f ∧ okF p lb g)) :
    Calls Tryd.prog 21 #[.slice ao la ca, .slice bo lb cb, .int .u64 p] w fun e w' => e = .returned (.tuple #[.slice none 0 0, .int .i64 90]) ∧ Below w.heap.size w w' := by
  have H1 := mcheckBoth_no p ao bo la ca lb cb f g w hp hT hf hg h
  clear h hf hg hT hp
  go_enter Tryd.func21, Tryd.ntmps21
  go_wp2_with (go_at_call 49; refine H1.mono ?_; rintro e w1 ⟨rfl, hb1⟩)
  go_ret2
  exact ⟨rfl, hb1⟩
set_option maxHeartbeats 400000 in
theorem mMul_no (p : Int) (ao bo : Option Addr) (la ca lb cb : Nat) (f g : List Int) (w : World) (hp : 0 ≤ p ∧ p < 18446744073709551616) (hT : TabAt 0 Lib.deBruijn64tab w) (hf : RawF w ao la ca f) (hg : RawF w bo lb cb g) (h : ¬ (okF p la f ∧ okF p lb g)) :
    Calls Tryd.prog 22 #[.slice ao la ca, .slice bo lb cb, .int .u64 p] w fun e w' => e = .returned (.tuple #[.slice none 0 0, .int .i64 90]) ∧ Below w.heap.size w w' := by
  have H1 := mcheckBoth_no p ao bo la ca lb cb f g w hp hT hf hg h
  clear h hf hg hT hp
  go_enter Tryd.func22, Tryd.ntmps22
  go_wp2_with (go_at_call 49; refine H1.mono ?_; rintro e w1 ⟨rfl, hb1⟩)
  go_ret2
  exact ⟨rfl, hb1⟩
set_option maxHeartbeats 400000 in
theorem mDer_no (p : Int) (ao : Option Addr) (la ca : Nat) (f : List Int) (w : World) (hp : 0 ≤ p ∧ p < 18446744073709551616) (hT : TabAt 0 Lib.deBruijn64tab w) (hf : RawF w ao la ca f) (h : ¬ okF p la f) :
    Calls Tryd.prog 23 #[.slice ao la ca, .int .u64 p] w fun e w' => e = .returned (.tuple #[.slice none 0 0, .int .i64 90]) ∧ Below w.heap.size w w' := by
  have H1 := mcheck_no p ao la ca f w hp hT hf h
  clear h hf hT hp
  go_enter Tryd.func23, Tryd.ntmps23
  go_wp2_with (go_at_call 18; refine H1.mono ?_; rintro e w1 ⟨rfl, hb1⟩)
  go_ret2
  exact ⟨rfl, hb1⟩
set_option maxHeartbeats 400000 in
theorem mMonic_no (p : Int) (ao : Option Addr) (la ca : Nat) (f : List Int) (w : World) (hp : 0 ≤ p ∧ p < 18446744073709551616) (hT : TabAt 0 Lib.deBruijn64tab w) (hf : RawF w ao la ca f) (h : ¬ okF p la f) :
    Calls Tryd.prog 24 #[.slice ao la ca, .int .u64 p] w fun e w' => e = .returned (.tuple #[.slice none 0 0, .int .i64 90]) ∧ Below w.heap.size w w' := by
  have H1 := mcheck_no p ao la ca f w hp hT hf h
  clear h hf hT hp
  go_enter Tryd.func24, Tryd.ntmps24
  go_wp2_with (go_at_call 18; refine H1.mono ?_; rintro e w1 ⟨rfl, hb1⟩)
  go_ret2
  exact ⟨rfl, hb1⟩
set_option maxHeartbeats 400000 in
theorem mMonic_any (p : Int) (ao : Option Addr) (la ca : Nat) (f : List Int) (w : World) (hp : PrimeT p w) (hf : GoodF p w ao la ca f) :
    Calls Tryd.prog 24 #[.slice ao la ca, .int .u64 p] w fun e w' => FaceF w w' e fun zs => zs = monL p f := by
  have H1 := mcheck_any p ao la ca f w hp hf
  have H2 : Hid (∀ W, Below w.heap.size w W → Calls Tryd.prog 55 #[.int .u64 p, .slice ao la ca] W fun e w' => NewF W w' e fun zs => zs = monL p f) := fun W hb =>
    mmonic_any p ao la ca f W hp.1 (by have := hp.2.1; omega) (hf.later hb).1 hf.2.1.can
  clear hp hf
  go_enter Tryd.func24, Tryd.ntmps24
  go_wp2_with (first
    | (go_at_call 18; refine H1.mono ?_; rintro e w1 ⟨rfl, hb1⟩)
    | (go_at_call 55; refine (H2.out _ hb1).mono ?_; rintro e w2 hn; obtain ⟨zo, zl, zc, zs, rfl, hrest⟩ := hn.back hb1))
  go_ret2
  exact ⟨zo, zl, zc, zs, rfl, hrest⟩
theorem ownsRow_belowM {w w' : World} {base : Nat} {e : TypeId} {size : Nat} {v : Value} {n : Nat} {xs : List Value} (h : w.ownsRow base e size v n xs) (hb : Below w.heap.size w w') : w'.ownsRow base e size v n xs := by
  refine ⟨h.1, ?_⟩
  rcases h.2 with h2 | ⟨g, cap, cur, h1, h2, h3, h4⟩
  · exact Or.inl h2
  · exact Or.inr ⟨g, cap, cur, h1, h2, by rw [hb.block g (heap_lt h3)]; exact h3, h4⟩
/-- the derivative modulo p -/
def derM (p : Int) (f : List Int) : List Int := (List.range (f.length - 1)).map fun t => dig f (t + 1) * ((t + 1 : Nat) : Int) % p
theorem derM_len (p : Int) (f : List Int) : (derM p f).length = f.length - 1 := by simp [derM]
theorem derM_dig (p : Int) (f : List Int) (t : Nat) (h : t < f.length - 1) : dig (derM p f) t = dig f (t + 1) * ((t + 1 : Nat) : Int) % p := range_dig _ _ _ h
theorem derM_wd {p : Int} (hp : 0 < p) (f : List Int) : Wd p (derM p f) := fun z hz => by
  obtain ⟨y, _, rfl⟩ := List.mem_map.1 hz
  exact mod_in hp _
set_option maxRecDepth 100000 in
set_option maxHeartbeats 2000000 in
theorem mDer_any (p : Int) (ao : Option Addr) (la ca : Nat) (f : List Int) (w : World) (hp : PrimeT p w) (hf : GoodF p w ao la ca f) :
    Calls Tryd.prog 23 #[.slice ao la ca, .int .u64 p] w fun e w' => ∃ o l c zs, e = .returned (.tuple #[.slice o l c, .int .i64 0]) ∧ Own w.heap.size w' .u64 25 o l c zs ∧ TrimOf zs (derM p f) ∧ l ≤ 4194304 ∧ Below w.heap.size w w' := by
  have H1 := mcheck_any p ao la ca f w hp hf
  have hp2 := hp.1.two
  have hp3 := hp.2.1
  have HF : Hid (FRow p w ao la ca f ∧ la = f.length ∧ (0 < p ∧ p < 18446744073709551616) ∧ p ≤ 2147483648) := ⟨hf.1, hf.1.row.hlen, ⟨by omega, by omega⟩, by omega⟩
  have hla : la ≤ 1025 := hf.2.2
  obtain ⟨i0, hi, hz0, hz1, hz2⟩ := info_parts info64
  clear hp hf hp2 hp3
  go_enter Tryd.func23, Tryd.ntmps23
  go_wp2_with (go_at_call 18; refine H1.mono ?_; rintro e w1 ⟨rfl, hb1⟩)
  go_loopw [7, 8] (fun v i wr => ∃ (k : Nat) (u : Value), v = u ∧ (k = 0 ∨ k + 1 ≤ la) ∧ i = .int .i64 ((k : Int) + 1) ∧ wr.ownsRow w.heap.size 25 1 u k (((derM p f).take k).map (Value.int .u64)) ∧ Below w.heap.size w wr) (fun _ i _ => la - (intOf i).toNat)
  case atStart => exact ⟨0, _, rfl, Or.inl rfl, by go_num, World.ownsRow_nil _ _ _ _, hb1⟩
  case round =>
    obtain ⟨k, u, hu, hk, rfl, hown, hbel⟩ := hrel
    replace hu := hu.symm
    subst hu
    clear hb1
    by_cases hlt : k + 1 < la
    · obtain ⟨b, off, rfl, _, hx, hx0, hx1⟩ := (HF.out.1.later hbel).cell HF.out.2.2.1.1 hlt
      obtain ⟨x, hxd⟩ : ∃ x, dig f (k + 1) = x := ⟨_, rfl⟩
      rw [hxd] at hx hx0 hx1
      obtain ⟨j, hj⟩ : ∃ j, k + 1 = j := ⟨_, rfl⟩
      have hjI : (k : Int) + 1 = (j : Int) := by omega
      rw [hj] at hx hlt
      obtain ⟨y, hy⟩ : ∃ y, x * (j : Int) % p = y := ⟨_, rfl⟩
      have HT : Hid (∀ W, Calls Tryd.prog 47 #[.int .u64 p, .int .u64 x, .int .u64 (j : Int)] W fun e w' => e = .returned (.int .u64 y) ∧ Below W.heap.size W w') := fun W =>
        mtimes_any p x (j : Int) y W HF.out.2.2.1 ⟨hx0, by have := HF.out.2.2.2; omega⟩ ⟨by omega, by omega⟩ hy
      have h63 : Hid (k + 1 ≤ maxLen) := by show _ ≤ _; unfold maxLen; omega
      have hby : Hid ((k + 1) * 8 ≤ 140737488355328) := by show _ ≤ _; omega
      have HX : Hid (((derM p f).take (k + 1)).map (Value.int .u64) = ((derM p f).take k).map (Value.int .u64) ++ [.int .u64 y]) := by
        show _ = _
        have hkl : k < f.length - 1 := by have := HF.out.2.1; omega
        have a1 : (derM p f).getD k 0 = y := by
          have : dig (derM p f) k = y := by rw [derM_dig p f k hkl, hxd, hj, hy]
          exact this
        rw [take_getD (by rw [derM_len]; exact hkl), List.map_append, a1]; rfl
      have HO : Hid (wr.ownsRow w.heap.size 25 1 u k (((derM p f).take k).map (Value.int .u64)) ∧ Below w.heap.size w wr ∧ j = k + 1) := ⟨hown, hbel, hj.symm⟩
      have z1 : (j : Int) < (la : Int) := by omega
      have z2 : (0 : Int) ≤ (j : Int) := by omega
      rw [hjI]
      clear hxd hx0 hx1 hy hown hbel hk hj hjI
      go_wp2_with (first
        | (go_at_call 47; refine (HT.out _).mono ?_; rintro e w4 ⟨rfl, hb4⟩; have HB4 : Hid (w4.ownsRow w.heap.size 25 1 u k (((derM p f).take k).map (Value.int .u64)) ∧ Below w.heap.size w w4) := ⟨ownsRow_belowM HO.out.1 hb4, bnextM (B := 0) HO.out.2.1 hb4⟩; have hbz : Hid (w.heap.size ≤ w4.heap.size + 1) := (by have := HB4.out.2.size; show _ ≤ _; omega); clear hb4)
        | (at_builtin; refine wpList_append_lies _ rfl _ _ 24 rfl w.heap.size 25 i0 (.int .u64 0) 1 8 Tryd.underlying24 hi hz0 hz1 hz2 rfl (by decide) _ k _ rfl (HB4.out.1.alloc _) ⟨w4.heap.size, 0, none⟩ 1 1 [.int .u64 y] rfl rfl (World.news_of_block (cs := #[.int .u64 y]) (t := 25) (fr := (0, 0)) (heap_alloc_new w4 _)) (by simp [Value.oneCell']) (by decide) h63.out hby.out (by simpa using hbz.out) (w4.heap.size + 1) (by simp) ?_; intro g cp w5 hown1 hgrow hat hltg; have HB5 : Hid (w5.ownsRow w.heap.size 25 1 (.slice (some ⟨g, 0, none⟩) (k + 1) cp) (k + 1) (((derM p f).take (k + 1)).map (Value.int .u64)) ∧ Below w.heap.size w w5) := ⟨(by rw [HX.out]; exact hown1), (HB4.out.2.alloc HB4.out.2.size _).grown hgrow (by simpa using hbz.out) (own_from HB4.out.1)⟩; clear hown1 hgrow hat hltg))
      go_roundw
      case rel => exact ⟨k + 1, _, rfl, by have := HO.out.2.2; omega, by (have := HO.out.2.2; go_num), HB5.out.1, HB5.out.2⟩
      case measure => (have := HO.out.2.2; simp [intOf]; omega)
    · have hlen : (derM p f).length = k := by rw [derM_len]; have := HF.out.2.1; omega
      have hkl : Hid ((derM p f).take k = derM p f) := List.take_of_length_le (by omega)
      rw [hkl.out] at hown
      obtain ⟨ao1, c1, hv, hrow⟩ := row_of_owns hlen hown
      subst hv
      have hcap := cap_of_owns hown
      have HE : Hid (Own w.heap.size wr .u64 25 ao1 k c1 (derM p f) ∧ (derM p f).length = k ∧ Below w.heap.size w wr ∧ k ≤ 4194304) := ⟨Own.ofRow hlen hown, hlen, hbel, by omega⟩
      have HT := mtrimmed_any ao1 k c1 (derM p f) wr hrow hcap
      have z1 : ¬ (k : Int) + 1 < (la : Int) := by omega
      clear hrow hown hlen hbel
      go_wp2_with (go_at_call 54; refine HT.mono ?_; rintro e w4 ⟨⟨n, hn, rfl, hcan, hz⟩, hw4⟩; replace hw4 := hw4.symm; subst hw4; have HZ : Hid (n ≤ k ∧ Can ((derM p f).take n) ∧ ∀ t, n ≤ t → dig (derM p f) t = 0) := ⟨hn, hcan, hz⟩; clear hn hcan hz)
      go_ret2
      exact ⟨_, _, _, (derM p f).take n, rfl, HE.out.1.take HZ.out.1, ⟨n, by rw [HE.out.2.1]; exact HZ.out.1, rfl, HZ.out.2⟩, (by have := HZ.out.1; have := HE.out.2.2.2; omega), HE.out.2.2.1⟩
end Go.Proofs.YtnniipekcbjloaaDoor
/-
  PK: walks: the page's at, Plus, Less, Der, Eval modulo p.
-/
namespace Go.Proofs.YtnniipekcbjloaaDoor
open Go.RowKit Go.Shelf
set_option linter.unusedVariables false
set_option linter.unusedSimpArgs false
set_option maxHeartbeats 400000 in
theorem rat_any (p x : Int) (ao : Option Addr) (la ca k : Nat) (f : List Int) (w : World) (hp : 0 < p) (hf : FRow p w ao la ca f) (hx : dig f k = x) (hk : k ≤ 9223372036854775807) :
    Calls Tryd.prog 43 #[.slice ao la ca, .int .i64 (k : Int)] w fun e w' => e = .returned (.int .u64 x) ∧ w' = w := by
  by_cases hlt : k < la
  · obtain ⟨b, off, rfl, _, hc, _, _⟩ := hf.cell hp hlt
    rw [hx] at hc
    have z1 : (k : Int) < (la : Int) := by omega
    have z2 : (0 : Int) ≤ (k : Int) := by omega
    clear hf hx
    go_enter Tryd.func43, Tryd.ntmps43
    go_wp2
    go_ret
    exact ⟨rfl, rfl⟩
  · have h0 : x = 0 := by rw [← hx]; exact dig_past (by rw [← hf.row.hlen]; omega)
    subst h0
    have z1 : ¬ (k : Int) < (la : Int) := by omega
    clear hf hx hlt
    go_enter Tryd.func43, Tryd.ntmps43
    go_wp2
    go_ret
    exact ⟨rfl, rfl⟩
/-- sums place by place -/
def plusM (p : Int) (f g : List Int) : List Int := (List.range (max f.length g.length)).map fun t => (dig f t + dig g t) % p
theorem plusM_len (p : Int) (f g : List Int) : (plusM p f g).length = max f.length g.length := by simp [plusM]
theorem plusM_dig (p : Int) (f g : List Int) (t : Nat) : dig (plusM p f g) t = (dig f t + dig g t) % p := by
  by_cases h : t < max f.length g.length
  · exact range_dig _ _ _ h
  · rw [dig_past (by rw [plusM_len]; omega), dig_past (s := f) (by omega), dig_past (s := g) (by omega)]; simp
theorem plusM_wd {p : Int} (hp : 0 < p) (f g : List Int) : Wd p (plusM p f g) := fun z hz => by
  obtain ⟨y, _, rfl⟩ := List.mem_map.1 hz
  exact mod_in hp _
theorem plusM_eqm (p : Int) (f g : List Int) : EqM p (fun x => ev (plusM p f g) x) (fun x => ev f x + ev g x) :=
  (EqM.of_digs (b := addTo f g) fun k => ⟨_, by rw [plusM_dig, addTo_dig]; exact emod_eq _ _⟩).trans (EqM.of_eq fun x => addTo_ev f g x)
set_option maxRecDepth 100000 in
set_option maxHeartbeats 2000000 in
theorem rplusF_any (p : Int) (ao bo : Option Addr) (la ca lb cb : Nat) (f g : List Int) (w : World) (hp : 2 ≤ p ∧ p ≤ 2147483648) (hf : FRow p w ao la ca f) (hg : FRow p w bo lb cb g) :
    Calls Tryd.prog 11 #[.slice ao la ca, .slice bo lb cb, .int .u64 p] w fun e w' => PageF p w w' e fun zs => Pm p zs ∧ EqM p (fun x => ev zs x) (fun x => ev f x + ev g x) := by
  have hp0 : 0 < p := by omega
  have HF : Hid (FRow p w ao la ca f ∧ FRow p w bo lb cb g ∧ la = f.length ∧ lb = g.length) := ⟨hf, hg, hf.row.hlen, hg.row.hlen⟩
  have hla4 := hf.short
  have hlb4 := hg.short
  have hz : (p == 0) = false := by simp; omega
  have hz1 : ¬ p = 0 := by omega
  have hp1 := hp.2
  obtain ⟨N, hN⟩ : ∃ N, N = max la lb := ⟨_, rfl⟩
  have HN : Hid (N = (plusM p f g).length ∧ N = max la lb) := ⟨by rw [plusM_len, ← HF.out.2.2.1, ← HF.out.2.2.2]; exact hN, hN⟩
  have hN4 : N ≤ 4194304 := by omega
  obtain ⟨i0, hi, hz0, hz1', hz2⟩ := info_parts info64
  clear hf hg hp hN
  go_enter Tryd.func11, Tryd.ntmps11
  go_wp2
  go_loopw [7, 8] (fun v i wr => ∃ (k : Nat) (u : Value), v = u ∧ k ≤ N ∧ i = .int .i64 k ∧ wr.ownsRow w.heap.size 25 1 u k (((plusM p f g).take k).map (Value.int .u64)) ∧ Below w.heap.size w wr) (fun _ i _ => N - (intOf i).toNat)
  case atStart => exact ⟨0, _, rfl, Nat.zero_le _, rfl, World.ownsRow_nil _ _ _ _, Below.refl _ _⟩
  case round =>
    obtain ⟨k, u, hu, hk, rfl, hown, hbel⟩ := hrel
    replace hu := hu.symm
    subst hu
    by_cases hlt : k < N
    · obtain ⟨x, hx⟩ : ∃ x, dig f k = x := ⟨_, rfl⟩
      obtain ⟨y, hy⟩ : ∃ y, dig g k = y := ⟨_, rfl⟩
      have hxb := (HF.out.1.wd).dig hp0 k
      have hyb := (HF.out.2.1.wd).dig hp0 k
      rw [hx] at hxb
      rw [hy] at hyb
      obtain ⟨hx0, hx1⟩ := hxb
      obtain ⟨hy0, hy1⟩ := hyb
      have HA : Hid (Calls Tryd.prog 43 #[.slice ao la ca, .int .i64 (k : Int)] wr fun e w' => e = .returned (.int .u64 x) ∧ w' = wr) := rat_any p x ao la ca k f wr hp0 (HF.out.1.later hbel) hx (by omega)
      have HC : Hid (Calls Tryd.prog 43 #[.slice bo lb cb, .int .i64 (k : Int)] wr fun e w' => e = .returned (.int .u64 y) ∧ w' = wr) := rat_any p y bo lb cb k g wr hp0 (HF.out.2.1.later hbel) hy (by omega)
      obtain ⟨s, hs⟩ : ∃ s, (x + y) % p = s := ⟨_, rfl⟩
      have hsm : (x + y).tmod p = s := by rw [Int.tmod_eq_emod_of_nonneg (by omega)]; exact hs
      have h63 : Hid (k + 1 ≤ maxLen) := by show _ ≤ _; unfold maxLen; omega
      have hby : Hid ((k + 1) * 8 ≤ 140737488355328) := by show _ ≤ _; omega
      have hbz : Hid (w.heap.size ≤ wr.heap.size + 1) := by show _ ≤ _; have := hbel.size; omega
      have HX : Hid (((plusM p f g).take (k + 1)).map (Value.int .u64) = ((plusM p f g).take k).map (Value.int .u64) ++ [.int .u64 s]) := by
        show _ = _
        have a1 : (plusM p f g).getD k 0 = s := by
          have : dig (plusM p f g) k = s := by rw [plusM_dig, hx, hy, hs]
          exact this
        rw [take_getD (by rw [← HN.out.1]; exact hlt), List.map_append, a1]; rfl
      clear hx hy hs
      by_cases hka : k < la
      · have z1 : (k : Int) < (la : Int) := by omega
        go_wp2_with (first
          | (go_at_call 43; have _t := hw1; refine HC.out.mono ?_; rintro e w2 ⟨rfl, hw2⟩; replace hw2 := hw2.symm; subst hw2)
          | (go_at_call 43; refine HA.out.mono ?_; rintro e w1 ⟨rfl, hw1⟩; replace hw1 := hw1.symm; subst hw1; have hw1 : True := trivial)
          | (at_builtin; refine wpList_append_lies _ rfl _ _ 24 rfl w.heap.size 25 i0 (.int .u64 0) 1 8 Tryd.underlying24 hi hz0 hz1' hz2 rfl (by decide) _ k _ rfl (hown.alloc _) ⟨wr.heap.size, 0, none⟩ 1 1 [.int .u64 s] rfl rfl (World.news_of_block (cs := #[.int .u64 s]) (t := 25) (fr := (0, 0)) (heap_alloc_new wr _)) (by simp [Value.oneCell']) (by decide) h63.out hby.out (by simpa using hbz.out) (wr.heap.size + 1) (by simp) ?_; intro g' cp w5 hown1 hgrow hat hltg))
        have hB1 : Below w.heap.size w w5 := (hbel.alloc hbel.size _).grown hgrow (by simpa using hbz.out) (own_from hown)
        go_roundw
        case rel => exact ⟨k + 1, _, rfl, by omega, by go_num, by rw [HX.out]; exact hown1, hB1⟩
        case measure => simp [intOf]; omega
      · have z1 : ¬ (k : Int) < (la : Int) := by omega
        have z2 : (k : Int) < (lb : Int) := by have := HN.out.2; omega
        go_wp2_with (first
          | (go_at_call 43; have _t := hw1; refine HC.out.mono ?_; rintro e w2 ⟨rfl, hw2⟩; replace hw2 := hw2.symm; subst hw2)
          | (go_at_call 43; refine HA.out.mono ?_; rintro e w1 ⟨rfl, hw1⟩; replace hw1 := hw1.symm; subst hw1; have hw1 : True := trivial)
          | (at_builtin; refine wpList_append_lies _ rfl _ _ 24 rfl w.heap.size 25 i0 (.int .u64 0) 1 8 Tryd.underlying24 hi hz0 hz1' hz2 rfl (by decide) _ k _ rfl (hown.alloc _) ⟨wr.heap.size, 0, none⟩ 1 1 [.int .u64 s] rfl rfl (World.news_of_block (cs := #[.int .u64 s]) (t := 25) (fr := (0, 0)) (heap_alloc_new wr _)) (by simp [Value.oneCell']) (by decide) h63.out hby.out (by simpa using hbz.out) (wr.heap.size + 1) (by simp) ?_; intro g' cp w5 hown1 hgrow hat hltg))
        have hB1 : Below w.heap.size w w5 := (hbel.alloc hbel.size _).grown hgrow (by simpa using hbz.out) (own_from hown)
        go_roundw
        case rel => exact ⟨k + 1, _, rfl, by omega, by go_num, by rw [HX.out]; exact hown1, hB1⟩
        case measure => simp [intOf]; omega
    · have hlen : (plusM p f g).length = k := by have := HN.out.1; omega
      have hkl : Hid ((plusM p f g).take k = plusM p f g) := List.take_of_length_le (by omega)
      rw [hkl.out] at hown
      obtain ⟨ao1, c1, hv, hrow⟩ := row_of_owns hlen hown
      subst hv
      have hcap := cap_of_owns hown
      have HE : Hid (RowAt wr .u64 ao1 k c1 (plusM p f g) ∧ (plusM p f g).length = k ∧ Below w.heap.size w wr ∧ k ≤ 4194304) := ⟨hrow, hlen, hbel, by omega⟩
      have HT := rtrim_any ao1 k c1 (plusM p f g) wr hrow hcap
      have z1 : ¬ (k : Int) < (la : Int) := by have := HN.out.2; omega
      have z2 : ¬ (k : Int) < (lb : Int) := by have := HN.out.2; omega
      clear hrow hown hlen hbel
      go_wp2_with (go_at_call 40; refine HT.mono ?_; rintro e w4 ⟨⟨n, hn, rfl, hcan, hz⟩, hw4⟩; replace hw4 := hw4.symm; subst hw4; have HZ : Hid (n ≤ k ∧ Can ((plusM p f g).take n) ∧ ∀ t, n ≤ t → dig (plusM p f g) t = 0) := ⟨hn, hcan, hz⟩; clear hn hcan hz)
      go_ret
      have ht : TrimOf ((plusM p f g).take n) (plusM p f g) := ⟨n, by rw [HE.out.2.1]; exact HZ.out.1, rfl, HZ.out.2⟩
      have hpm := ht.pm (plusM_wd hp0 f g)
      exact ⟨_, _, _, (plusM p f g).take n, rfl, ⟨HE.out.1.take HZ.out.1, hpm.wd, by have := HZ.out.1; have := HE.out.2.2.2; omega⟩, ⟨hpm, ht.eqm.trans (plusM_eqm p f g)⟩, HE.out.2.2.1⟩
set_option maxHeartbeats 1000000 in
theorem rlessF_any (p : Int) (ao bo : Option Addr) (la ca lb cb : Nat) (f g : List Int) (w : World) (hp : 2 ≤ p ∧ p ≤ 2147483648) (hf : FRow p w ao la ca f) (hg : FRow p w bo lb cb g) :
    Calls Tryd.prog 12 #[.slice ao la ca, .slice bo lb cb, .int .u64 p] w fun e w' => PageF p w w' e fun zs => Pm p zs ∧ EqM p (fun x => ev zs x) (fun x => ev f x - ev g x) := by
  have H1 := rscale_any p (p - 1) bo lb cb g w hp (by omega) hg
  have H2 : Hid (∀ W (o : Option Addr) (l k : Nat) (zs : List Int), Below w.heap.size w W → FRow p W o l k zs → TrimOf zs (scL p (p - 1) g) → Calls Tryd.prog 11 #[.slice ao la ca, .slice o l k, .int .u64 p] W fun e w' => PageF p w w' e fun zs => Pm p zs ∧ EqM p (fun x => ev zs x) (fun x => ev f x - ev g x)) := by
    intro W o l k zs hb hz ht
    refine (rplusF_any p ao o la ca l k f zs W hp (hf.later hb) hz).mono fun e w' h => ?_
    obtain ⟨o', l', k', ys, he, h1, ⟨h2, h3⟩, h4⟩ := h
    refine ⟨o', l', k', ys, he, h1, ⟨h2, h3.trans ?_⟩, bnextM (B := 0) hb h4⟩
    have e1 : EqM p (fun x => ev zs x) (fun x => ev (g.map (-1 * ·)) x) := ht.eqm.trans (EqM.of_digs fun t => by
      rw [map_dig]
      by_cases h : t < g.length
      · rw [scL, mapF_dig _ _ _ h]
        generalize dig g t = z
        refine ⟨z - z * (p - 1) / p, ?_⟩
        have h1 := Int.mul_ediv_add_emod (z * (p - 1)) p
        have h2 : z * (p - 1) = p * z - z := by grind
        generalize z * (p - 1) / p = q at h1 ⊢
        generalize z * (p - 1) % p = r at h1 ⊢
        rw [Int.mul_sub]; omega
      · rw [dig_past (by simp [scL]; omega), dig_past (s := g) (by omega)]; exact ⟨0, by simp⟩)
    obtain ⟨E, hE, e1⟩ := e1
    refine ⟨E, hE, fun x => ?_⟩
    have := e1 x
    simp only [map_ev] at this
    show ev f x + ev zs x = ev f x - ev g x + p * E x
    rw [this]; omega
  have hp1 : p ≤ 2147483648 := hp.2
  have hp2 : 2 ≤ p := hp.1
  clear hf hg hp
  go_enter Tryd.func12, Tryd.ntmps12
  go_wp2_with (first
    | (go_at_call 41; refine H1.mono ?_; rintro e w1 ⟨o1, l1, k1, zs1, rfl, hr1, ht1, hb1⟩; have HS : Hid (FRow p w1 o1 l1 k1 zs1 ∧ TrimOf zs1 (scL p (p - 1) g) ∧ Below w.heap.size w w1) := ⟨hr1, ht1, hb1⟩; clear hr1 ht1 hb1)
    | (go_at_call 11; refine (H2.out _ o1 l1 k1 zs1 HS.out.2.2 HS.out.1 HS.out.2.1).mono ?_; rintro e w2 ⟨o2, l2, k2, zs2, rfl, hrest⟩))
  go_ret
  exact ⟨o2, l2, k2, zs2, rfl, hrest⟩
set_option maxRecDepth 100000 in
set_option maxHeartbeats 2000000 in
theorem rder_any (p : Int) (ao : Option Addr) (la ca : Nat) (f : List Int) (w : World) (hp : 2 ≤ p ∧ p ≤ 2147483648) (hf : FRow p w ao la ca f) :
    Calls Tryd.prog 9 #[.slice ao la ca, .int .u64 p] w fun e w' => PageF p w w' e fun zs => TrimOf zs (derM p f) := by
  have hp0 : 0 < p := by omega
  have HF : Hid (FRow p w ao la ca f ∧ la = f.length) := ⟨hf, hf.row.hlen⟩
  have hla := hf.short
  have hz : (p == 0) = false := by simp; omega
  have hz1 : ¬ p = 0 := by omega
  have hp1 := hp.2
  obtain ⟨i0, hi, hz0, hz1', hz2⟩ := info_parts info64
  clear hf hp
  go_enter Tryd.func9, Tryd.ntmps9
  go_wp2
  go_loopw [5, 6] (fun v i wr => ∃ (k : Nat) (u : Value), v = u ∧ (k = 0 ∨ k + 1 ≤ la) ∧ i = .int .i64 ((k : Int) + 1) ∧ wr.ownsRow w.heap.size 25 1 u k (((derM p f).take k).map (Value.int .u64)) ∧ Below w.heap.size w wr) (fun _ i _ => la - (intOf i).toNat)
  case atStart => exact ⟨0, _, rfl, Or.inl rfl, by go_num, World.ownsRow_nil _ _ _ _, Below.refl _ _⟩
  case round =>
    obtain ⟨k, u, hu, hk, rfl, hown, hbel⟩ := hrel
    replace hu := hu.symm
    subst hu
    by_cases hlt : k + 1 < la
    · obtain ⟨b, off, rfl, hbw, hx, hx0, hx1⟩ := (HF.out.1.later hbel).cell hp0 hlt
      obtain ⟨x, hxd⟩ : ∃ x, dig f (k + 1) = x := ⟨_, rfl⟩
      rw [hxd] at hx hx0 hx1
      obtain ⟨bb, oo, eb, hbb, hcc, _, _⟩ := HF.out.1.cell hp0 hlt
      simp only [Option.some.injEq, Addr.mk.injEq, and_true] at eb
      obtain ⟨rfl, rfl⟩ := eb
      obtain ⟨j, hj⟩ : ∃ j, k + 1 = j := ⟨_, rfl⟩
      have hjI : (k : Int) + 1 = (j : Int) := by omega
      rw [hxd] at hcc
      rw [hj] at hx hlt hcc
      have HCC : Hid (w.cell? ⟨b, off + j, none⟩ = some (.int .u64 x) ∧ b < w.heap.size) := ⟨hcc, hbb⟩
      obtain ⟨jm, hjm⟩ : ∃ jm, (j : Int) % p = jm := ⟨_, rfl⟩
      have hjmt : (j : Int).tmod p = jm := by rw [Int.tmod_eq_emod_of_nonneg (by omega)]; exact hjm
      have hjmb : 0 ≤ jm ∧ jm < p := by rw [← hjm]; exact mod_in hp0 _
      obtain ⟨s, hs⟩ : ∃ s, x * jm = s := ⟨_, rfl⟩
      have hsb : 0 ≤ s ∧ s ≤ 4611686018427387904 := by rw [← hs]; exact mul_in hp1 ⟨hx0, hx1⟩ hjmb
      obtain ⟨hs0, hs1⟩ := hsb
      obtain ⟨y, hy⟩ : ∃ y, s % p = y := ⟨_, rfl⟩
      have hym : s.tmod p = y := by rw [Int.tmod_eq_emod_of_nonneg hs0]; exact hy
      have h63 : Hid (k + 1 ≤ maxLen) := by show _ ≤ _; unfold maxLen; omega
      have hby : Hid ((k + 1) * 8 ≤ 140737488355328) := by show _ ≤ _; omega
      have HX : Hid (((derM p f).take (k + 1)).map (Value.int .u64) = ((derM p f).take k).map (Value.int .u64) ++ [.int .u64 y]) := by
        show _ = _
        have hkl : k < f.length - 1 := by have := HF.out.2; omega
        have a1 : (derM p f).getD k 0 = y := by
          have : dig (derM p f) k = y := by rw [derM_dig p f k hkl, hxd, hj, ← hy, ← hs, ← hjm, emod_mul_r]
          exact this
        rw [take_getD (by rw [derM_len]; exact hkl), List.map_append, a1]; rfl
      have z1 : (j : Int) < (la : Int) := by omega
      have z2 : (0 : Int) ≤ (j : Int) := by omega
      have z3 : (j : Int) ≤ 4194304 := by omega
      have HJ : Hid (j = k + 1) := hj.symm
      obtain ⟨hjm0, hjm1⟩ := hjmb
      have hwj : IntKind.u64.wrap (j : Int) = (j : Int) := by rw [IntKind.wrap_u64]; omega
      have hws : IntKind.u64.wrap s = s := by rw [IntKind.wrap_u64]; omega
      rw [hjI]
      clear hxd hy hj hjI hk hjm hcc hbb
      go_wp2
      go_region_held3 (fun w' => w'.cell? ⟨b, off + j, none⟩ = some (.int .u64 x))
        (first | go_keep | exact (hB1.cell (p := ⟨b, off + j, none⟩) HCC.out.2).trans HCC.out.1)
        ((refine step_append_lies _ (by rfl) _ _ _ (by rfl) w.heap.size 25 i0 _ 1 8 Tryd.underlying24 hi hz0 hz1' hz2 rfl (by omega) _ k _ (by rfl) ((hown.alloc _).drew) ⟨wr.heap.size, 0, none⟩ 1 1 [.int .u64 y] (by rfl) (by rfl) (World.news_of_block (cs := #[.int .u64 y]) (t := 25) (fr := (0, 0)) (heap_alloc_new wr _)) (by simp [Value.oneCell']) (by omega) h63.out hby.out (by simp; have := hbel.size; omega) (wr.heap.size + 1) (by simp) ?_; intro g cp w1 hown1 hgrow hat hltg; have hB1 : Below w.heap.size w w1 := ((hbel.alloc hbel.size _).drew).grown hgrow (by simp; have := hbel.size; omega) (own_from hown)))
      go_wp2
      go_roundw
      case rel => exact ⟨k + 1, _, rfl, by have := HJ.out; omega, by (have := HJ.out; go_num), by rw [HX.out]; exact hown1, hB1⟩
      case measure => (have := HJ.out; simp [intOf]; omega)
    · have hlen : (derM p f).length = k := by rw [derM_len]; have := HF.out.2; omega
      have hkl : Hid ((derM p f).take k = derM p f) := List.take_of_length_le (by omega)
      rw [hkl.out] at hown
      obtain ⟨ao1, c1, hv, hrow⟩ := row_of_owns hlen hown
      subst hv
      have hcap := cap_of_owns hown
      have HE : Hid (RowAt wr .u64 ao1 k c1 (derM p f) ∧ (derM p f).length = k ∧ Below w.heap.size w wr ∧ k ≤ 4194304) := ⟨hrow, hlen, hbel, by omega⟩
      have HT := rtrim_any ao1 k c1 (derM p f) wr hrow hcap
      have z1 : ¬ (k : Int) + 1 < (la : Int) := by omega
      clear hrow hown hlen hbel
      go_wp2_with (go_at_call 40; refine HT.mono ?_; rintro e w4 ⟨⟨n, hn, rfl, hcan, hz⟩, hw4⟩; replace hw4 := hw4.symm; subst hw4; have HZ : Hid (n ≤ k ∧ Can ((derM p f).take n) ∧ ∀ t, n ≤ t → dig (derM p f) t = 0) := ⟨hn, hcan, hz⟩; clear hn hcan hz)
      go_ret
      have ht : TrimOf ((derM p f).take n) (derM p f) := ⟨n, by rw [HE.out.2.1]; exact HZ.out.1, rfl, HZ.out.2⟩
      exact ⟨_, _, _, (derM p f).take n, rfl, ⟨HE.out.1.take HZ.out.1, (derM_wd hp0 f).take n, by have := HZ.out.1; have := HE.out.2.2.2; omega⟩, ht, HE.out.2.2.1⟩
/-- Horner's rule modulo p, from the top: the value of what stands from k on -/
def horM (p c : Int) : List Int → Int
  | [] => 0
  | a :: l => (horM p c l * c + a) % p
theorem horM_in {p c : Int} (hp : 0 < p) (l : List Int) : 0 ≤ horM p c l ∧ horM p c l < p := by
  cases l with
  | nil => exact ⟨Int.le_refl _, hp⟩
  | cons a l => exact mod_in hp _
theorem horM_drop {p c : Int} {f : List Int} {k : Nat} (h : k < f.length) : horM p c (f.drop k) = (horM p c (f.drop (k + 1)) * c + dig f k) % p := by
  have e : f.drop k = dig f k :: f.drop (k + 1) := by
    rw [List.drop_eq_getElem_cons h]
    simp [dig, h]
  rw [e]; rfl
set_option maxRecDepth 100000 in
set_option maxHeartbeats 1000000 in
theorem reval_any (p c : Int) (ao : Option Addr) (la ca : Nat) (f : List Int) (w : World) (hp : 2 ≤ p ∧ p ≤ 2147483648) (hc : 0 ≤ c ∧ c < p) (hf : FRow p w ao la ca f) :
    Calls Tryd.prog 14 #[.slice ao la ca, .int .u64 c, .int .u64 p] w fun e w' => e = .returned (.int .u64 (horM p c f)) ∧ w' = w := by
  have hp0 : 0 < p := by omega
  have HF : Hid (FRow p w ao la ca f ∧ la = f.length ∧ (0 ≤ c ∧ c < p)) := ⟨hf, hf.row.hlen, hc⟩
  have hla := hf.short
  have hz : (p == 0) = false := by simp; omega
  have hz1 : ¬ p = 0 := by omega
  have hp1 := hp.2
  clear hf hp hc
  go_enter Tryd.func14, Tryd.ntmps14
  go_wp2
  go_loop [7, 8] (fun s i => ∃ (k : Nat) (v : Int), k ≤ la ∧ i = .int .i64 ((k : Int) - 1) ∧ s = .int .u64 v ∧ Hid (v = horM p c (f.drop k))) (fun _ i => (intOf i + 1).toNat)
  case atStart => exact ⟨la, 0, Nat.le_refl _, by go_num, rfl, by rw [List.drop_eq_nil_of_le (by rw [← HF.out.2.1]; exact Nat.le_refl _)]; rfl⟩
  case round =>
    obtain ⟨k, v, hk, rfl, rfl, HV⟩ := hrel
    rcases k with _ | k
    · have HE : Hid (v = horM p c f) := by
        show _ = _
        have := HV.out
        simpa using this
      go_wp2
      go_ret
      exact ⟨ret_int HE.out, rfl⟩
    · obtain ⟨b, off, rfl, _, hx, hx0, hx1⟩ := HF.out.1.cell hp0 (k := k) (by omega)
      obtain ⟨x, hxd⟩ : ∃ x, dig f k = x := ⟨_, rfl⟩
      rw [hxd] at hx hx0 hx1
      have hvb : 0 ≤ v ∧ v < p := by rw [HV.out]; exact horM_in hp0 _
      obtain ⟨s, hs⟩ : ∃ s, v * c = s := ⟨_, rfl⟩
      have hsb : 0 ≤ s ∧ s ≤ 4611686018427387904 := by rw [← hs]; exact mul_in hp1 hvb HF.out.2.2
      obtain ⟨hs0, hs1⟩ := hsb
      obtain ⟨y, hy⟩ : ∃ y, (s + x) % p = y := ⟨_, rfl⟩
      have hym : (s + x).tmod p = y := by rw [Int.tmod_eq_emod_of_nonneg (by omega)]; exact hy
      have HY : Hid (y = horM p c (f.drop k)) := by
        show _ = _
        rw [horM_drop (by rw [← HF.out.2.1]; omega), ← HV.out, hs, hxd, hy]
      have z1 : (k : Int) < (la : Int) := by omega
      have z2 : (0 : Int) ≤ (k : Int) := by omega
      obtain ⟨hvb0, hvb1⟩ := hvb
      clear hxd hy
      go_wp2
      go_round
      case rel => exact ⟨k, y, by omega, by go_num, rfl, HY.out⟩
      case measure => simp [intOf]
end Go.Proofs.YtnniipekcbjloaaDoor
