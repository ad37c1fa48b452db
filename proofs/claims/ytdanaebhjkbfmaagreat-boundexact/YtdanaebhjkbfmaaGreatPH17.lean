/-
  Walks: polynomials moved, mirrored, turned, stretched, in memory of the call's own.
-/
import Derived.Test.YtdanaebhjkbfmaaGreatPH15
namespace Go.Proofs.YtdanaebhjkbfmaaGreat
open Go.RowKit
set_option linter.unusedVariables false
set_option linter.unusedSimpArgs false
/-- what a call hands back: a list of its own, its numbers in blocks of their own -/
def NewQO (w w' : World) (e : Ending) (p : List Int) : Prop :=
  (p.length = 0 ∧ e = .returned (.slice none 0 0) ∧ Below w.heap.size w w') ∨ (0 < p.length ∧ ∃ g, e = .returned (.slice (some ⟨g, 0, none⟩) p.length p.length) ∧ PBlkO w.heap.size w' g p ∧ w.heap.size ≤ g ∧ g < w'.heap.size ∧ Below w.heap.size w w')
theorem NewQO.own {w w' : World} {e : Ending} {p : List Int} (h : NewQO w w' e p) : ∃ ao len, e = .returned (.slice ao len len) ∧ POwn w.heap.size w' ao len len p ∧ Below w.heap.size w w' := by
  rcases h with ⟨h0, he, hb⟩ | ⟨h0, g, he, hp, h1, h2, hb⟩
  · obtain rfl : p = [] := List.eq_nil_of_length_eq_zero h0
    exact ⟨_, _, he, POwn.nil _ _, hb⟩
  · exact ⟨_, _, he, ⟨rfl, rfl, Or.inr ⟨h0, g, rfl, h1, h2, hp⟩⟩, hb⟩
/-- the list's places in another order -/
theorem PBlkO.perm {B : Nat} {w w' : World} {g : Nat} {p q : List Int} (f : Nat → Nat) (h : PBlkO B w g p) (hl : q.length = p.length) (hf : ∀ t, t < p.length → f t < p.length) (inj : ∀ s t, s < p.length → t < p.length → f s = f t → s = t) (h0 : ∀ t, t < p.length → w'.cell? ⟨g, t * 2, none⟩ = w.cell? ⟨g, f t * 2, none⟩) (h1 : ∀ t, t < p.length → w'.cell? ⟨g, t * 2 + 1, none⟩ = w.cell? ⟨g, f t * 2 + 1, none⟩) (hd : ∀ t, t < p.length → dig q t = dig p (f t)) (hs : ∀ j, w'.frozen? ⟨g, j, none⟩ = w.frozen? ⟨g, j, none⟩) (ho : ∀ b, b ≠ g → w'.heap[b]? = w.heap[b]?) : PBlkO B w' g q := by
  refine ⟨fun j => (hs j).trans (h.soft j), fun t ht => ?_, fun s t hs' ht hn a b l l' c c' q1 q2 => ?_, fun t ht a l c q1 => ?_⟩
  · rw [hl] at ht
    obtain ⟨n, ao, l, c, ⟨e0, e1⟩, e2, hO⟩ := h.coef (f t) (hf t ht)
    refine ⟨n, ao, l, c, ⟨(h0 t ht).trans e0, (h1 t ht).trans e1⟩, by rw [hd t ht]; exact e2, ?_⟩
    rw [hd t ht]
    rcases hO with hO | ⟨g', off, cur, r1, r2, r3, r4⟩
    · exact Or.inl hO
    · refine Or.inr ⟨g', off, cur, r1, r2, ?_, r4⟩
      have hne : g' ≠ g := by subst r1; exact h.away (f t) (hf t ht) _ _ _ e1
      rw [ho g' hne]; exact r3
  · rw [hl] at hs' ht
    rw [h1 s hs'] at q1
    rw [h1 t ht] at q2
    exact h.apart (f s) (f t) (hf s hs') (hf t ht) (fun e => hn (inj s t hs' ht e)) a b l l' c c' q1 q2
  · rw [hl] at ht
    rw [h1 t ht] at q1
    exact h.away (f t) (hf t ht) a l c q1
theorem PBlkO.swap {B : Nat} {w : World} {g i j : Nat} {p : List Int} (h : PBlkO B w g p) (hi : i < p.length) (hj : j < p.length) (hij : i ≠ j) {n1 n2 : Bool} {o1 o2 : Option Addr} {l1 c1 l2 c2 : Nat}
    (a0 : w.cell? ⟨g, i * 2, none⟩ = some (.bool n1)) (a1 : w.cell? ⟨g, i * 2 + 1, none⟩ = some (.slice o1 l1 c1)) (b0 : w.cell? ⟨g, j * 2, none⟩ = some (.bool n2)) (b1 : w.cell? ⟨g, j * 2 + 1, none⟩ = some (.slice o2 l2 c2)) :
    PBlkO B ((((w.setCell ⟨g, i * 2, none⟩ (.bool n2)).setCell ⟨g, i * 2 + 1, none⟩ (.slice o2 l2 c2)).setCell ⟨g, j * 2, none⟩ (.bool n1)).setCell ⟨g, j * 2 + 1, none⟩ (.slice o1 l1 c1)) g ((p.set i (dig p j)).set j (dig p i)) := by
  have ne : ∀ (w : World) (a b : Nat) (v : Value), a ≠ b → (w.setCell ⟨g, a, none⟩ v).cell? ⟨g, b, none⟩ = w.cell? ⟨g, b, none⟩ := fun w a b v hab => setCell_ne (by rintro ⟨_, e⟩; simp only at e; omega)
  have eq : ∀ (w : World) (a : Nat) (v u : Value), w.cell? ⟨g, a, none⟩ = some u → (w.setCell ⟨g, a, none⟩ v).cell? ⟨g, a, none⟩ = some v := fun w a v u hu => by simp [go_sem, hu]
  refine PBlkO.perm (fun t => if t = i then j else if t = j then i else t) h (by simp) (fun t ht => by (try dsimp only); split <;> (try split) <;> omega) (fun s t hs ht => by (try dsimp only); split <;> split <;> (try split) <;> (try split) <;> intro e <;> omega) (fun t ht => ?_) (fun t ht => ?_) (fun t ht => ?_) (fun k => by rw [soft_far, soft_far, soft_far, soft_far]) (fun b hb => ?_)
  · (try dsimp only)
    by_cases e : t = i
    · subst e
      rw [if_pos rfl, b0, ne _ _ _ _ (by omega), ne _ _ _ _ (by omega), ne _ _ _ _ (by omega), eq _ _ _ _ a0]
    · rw [if_neg e]
      by_cases e2 : t = j
      · subst e2
        rw [if_pos rfl, a0, ne _ _ _ _ (by omega), eq _ _ _ (.bool n2) (by rw [ne _ _ _ _ (by omega), ne _ _ _ _ (by omega)]; exact b0)]
      · rw [if_neg e2, ne _ _ _ _ (by omega), ne _ _ _ _ (by omega), ne _ _ _ _ (by omega), ne _ _ _ _ (by omega)]
  · (try dsimp only)
    by_cases e : t = i
    · subst e
      rw [if_pos rfl, b1, ne _ _ _ _ (by omega), ne _ _ _ _ (by omega), eq _ _ _ (.slice o1 l1 c1) (by rw [ne _ _ _ _ (by omega)]; exact a1)]
    · rw [if_neg e]
      by_cases e2 : t = j
      · subst e2
        rw [if_pos rfl, a1, eq _ _ _ (.slice o2 l2 c2) (by rw [ne _ _ _ _ (by omega), ne _ _ _ _ (by omega), ne _ _ _ _ (by omega)]; exact b1)]
      · rw [if_neg e2, ne _ _ _ _ (by omega), ne _ _ _ _ (by omega), ne _ _ _ _ (by omega), ne _ _ _ _ (by omega)]
  · (try dsimp only)
    rw [pdig_set _ _ _ _ (by simpa using ht), pdig_set _ _ _ _ ht]
    by_cases e : t = i
    · subst e
      rw [if_neg hij, if_pos rfl, if_pos rfl]
    · by_cases e2 : t = j
      · subst e2; rw [if_pos rfl, if_neg e, if_pos rfl]
      · rw [if_neg e2, if_neg e, if_neg e, if_neg e2]
  · rw [Below.heap_setCell _ ⟨g, _, none⟩ _ _ hb, Below.heap_setCell _ ⟨g, _, none⟩ _ _ hb, Below.heap_setCell _ ⟨g, _, none⟩ _ _ hb, Below.heap_setCell _ ⟨g, _, none⟩ _ _ hb]
set_option maxRecDepth 100000 in
set_option maxHeartbeats 4000000 in
theorem copiedO_any (ao : Option Addr) (len cap : Nat) (p : List Int) (w : World) (hp : PolyAt w ao len cap p) (hl : len ≤ 1048576) (hlim : Lim 4294967296 p) :
    Calls Tryz.prog 64 #[.slice ao len cap] w fun e w' => NewQO w w' e p := by
  have HR : Hid (PolyAt w ao len cap p ∧ Lim 4294967296 p) := ⟨hp, hlim⟩
  have HLEN : Hid (len = p.length) := hp.hlen
  clear hp hlim
  by_cases h0 : len = 0
  · subst h0
    go_enter Tryz.func64, Tryz.ntmps64
    go_wp2
    go_ret
    exact Or.inl ⟨HLEN.out.symm, rfl, Below.refl _ _⟩
  · have hn0 : ((len : Int) == 0) = false := by simp; omega
    obtain ⟨i0, hi, hz0, hz1, hz2⟩ := info_parts infoInt
    have b1 : Hid (i0.bytes * len ≤ 281474976710656) := by show _ ≤ _; rw [hz2]; omega
    have b2 : Hid (len ≤ maxLen) := by show _ ≤ _; unfold maxLen; omega
    have HP : Hid (0 < len) := by show 0 < _; omega
    clear h0
    go_enter Tryz.func64, Tryz.ntmps64
    go_wp2_with (at_make; refine wpList_make_full _ rfl (.tmp 10) (.tmp 10) 24 rfl w.heap.size 28 i0 (.agg #[.bool false, .slice none 0 0]) 2 Tryz.underlying24 hi hz0 hz1 .i64 .i64 _ _ len rfl rfl rfl rfl b1.out b2.out (Nat.le_refl _) ?_; intro w1 hown1 hgrow1)
    have HM : Hid (PBlkO w.heap.size w1 w.heap.size (List.replicate len 0) ∧ w.heap.size < w1.heap.size ∧ Below w.heap.size w w1) := ⟨(pblkO_of_made (C := w.heap.size) hown1).1, (pblkO_of_made (C := w.heap.size) hown1).2, grown_below hgrow1⟩
    clear hown1 hgrow1
    go_loopw [14] (fun i wr => ∃ (k : Nat) (l : List Int), k ≤ len ∧ i = .int .i64 k ∧ Below w.heap.size w wr ∧ w.heap.size < wr.heap.size ∧ PBlkO w.heap.size wr w.heap.size l ∧ CpSt p k l) (fun i _ => len - (intOf i).toNat)
    case atStart => exact ⟨0, _, Nat.zero_le _, rfl, HM.out.2.2, HM.out.2.1, HM.out.1, by rw [HLEN.out]; exact CpSt.start p⟩
    case round =>
      obtain ⟨k, l, hk, rfl, hbel, hgl, hPB, hst⟩ := hrel
      have HS : Hid (PBlkO w.heap.size wr w.heap.size l ∧ CpSt p k l ∧ Below w.heap.size w wr) := ⟨hPB, hst, hbel⟩
      by_cases hlt : k < len
      · obtain ⟨b, off, rfl, hat⟩ := (HR.out.1.later hbel).get (by omega)
        obtain ⟨n1, ao1, l1, c1, ⟨h1, h2⟩, hint⟩ := hat k hlt
        have hl1 : l1 ≤ 4294967296 := by rw [hint.lim]; exact HR.out.2 _
        obtain ⟨n0, a0, l0, c0, ⟨e0, e1⟩, _⟩ := hPB.blk.coef k (by rw [hst.1, ← HLEN.out]; exact hlt)
        have hfz := hPB.soft
        have hA : Below wr.heap.size wr (wr.alloc (.cells #[.bool n1, .slice ao1 l1 c1] 28)) := (Below.refl _ _).alloc (Nat.le_refl _) _
        have HI : Hid (IntAt wr n1 ao1 l1 c1 (dig p k)) := hint
        have hlen' : len = len := rfl
        clear hat hint hPB hst hbel
        by_cases hz : l1 = 0
        · subst hz
          have hd0 : Hid (dig p k = 0) := zero_of_lim HI.out.lim.symm
          go_wp2
          go_roundw
          case rel => exact ⟨k + 1, l, by omega, by go_num, bnext HS.out.2.2 hA, Nat.lt_of_lt_of_le hgl hA.size, HS.out.1.later hA hgl, HS.out.2.1.skip (by rw [← HLEN.out]; exact hlt) hd0.out⟩
          case measure => simp [intOf]; omega
        · have hz' : (0 : Int) < (l1 : Int) := by omega
          obtain ⟨W, hW⟩ : ∃ W, W = wr.alloc (.cells #[.bool n1, .slice ao1 l1 c1] 28) := ⟨_, rfl⟩
          have HW : Hid (Below wr.heap.size wr W ∧ Boxed W wr.heap.size n1 ao1 l1 c1 ∧ wr.heap.size < W.heap.size) := by rw [hW]; exact ⟨hA, ⟨by simp [go_sem], by simp [go_sem]⟩, by simp⟩
          have hcon : ∀ W', Below W.heap.size W W' → Calls Tryz.prog 88 #[.slice ao1 l1 c1] W' fun e w' => NewRow W' w' e (mag (dig p k).natAbs) := fun W' hb => clone_row ao1 l1 c1 _ W' ((HI.out.later HW.out.1).later hb).row (by omega) hl1
          have KS : Hid (∀ w', Below W.heap.size W w' → w'.cell? ⟨wr.heap.size, 0, none⟩ = some (.bool n1) ∧ w'.cell? ⟨wr.heap.size, 1, none⟩ = some (.slice ao1 l1 c1)) := fun w' hb => HW.out.2.1.later hb HW.out.2.2
          have hne : wr.heap.size ≠ w.heap.size := by omega
          have K2 : Hid (∀ (w' : World) (j : Nat) (x : Value), (w'.cell? ⟨wr.heap.size, 0, none⟩ = some (.bool n1) ∧ w'.cell? ⟨wr.heap.size, 1, none⟩ = some (.slice ao1 l1 c1)) → ((w'.setCell ⟨w.heap.size, j, none⟩ x).cell? ⟨wr.heap.size, 0, none⟩ = some (.bool n1) ∧ (w'.setCell ⟨w.heap.size, j, none⟩ x).cell? ⟨wr.heap.size, 1, none⟩ = some (.slice ao1 l1 c1))) := fun w' j x h => ⟨by rw [setCell_ne (by rintro ⟨h, _⟩; exact hne h)]; exact h.1, by rw [setCell_ne (by rintro ⟨h, _⟩; exact hne h)]; exact h.2⟩
          have HPW : Hid (PBlkO w.heap.size W w.heap.size l) := HS.out.1.later HW.out.1 hgl
          have hkl : Hid (k < l.length) := by show k < _; rw [HS.out.2.1.1, ← HLEN.out]; exact hlt
          clear e0 e1 hfz
          go_wp2
          rw [← hW]
          clear hW
          go_region_held3 (fun w' => w'.cell? ⟨wr.heap.size, 0, none⟩ = some (.bool n1) ∧ w'.cell? ⟨wr.heap.size, 1, none⟩ = some (.slice ao1 l1 c1))
            (first
              | exact KS.out _ (Below.refl _ _).drew
              | exact KS.out _ (by assumption)
              | exact K2.out _ _ _ (K2.out _ _ _ (KS.out _ (by assumption)))
              | exact K2.out _ _ _ (KS.out _ (by assumption)))
            (first
              | (go_at_call 88; refine (hcon _ (Below.refl _ _).drew).mono ?_; rintro e w2 ⟨ao2, l2, c2, rfl, ho2, hb2'⟩; have hb2 : Below W.heap.size W w2 := bnext (Below.refl _ _).drew hb2'; have HO : Hid (n1 = sgB (dig p k) ∧ Own W.heap.size w2 .u64 73 ao2 l2 c2 (mag (dig p k).natAbs) ∧ Below W.heap.size W w2) := ⟨HI.out.sg, ho2, hb2⟩; have HP2 := HPW.out.later hb2 (Nat.lt_of_lt_of_le hgl HW.out.1.size); obtain ⟨n0', a0', l0', c0', ⟨e0, e1⟩, _⟩ := HP2.blk.coef k hkl.out; have hfz := HP2.soft; have HPH : Hid (PBlkO w.heap.size w2 w.heap.size l) := HP2; clear HP2 ho2))
          go_wp2
          go_roundw
          case rel => exact ⟨k + 1, l.set k (dig p k), by omega, by go_num, ((bnext HS.out.2.2 (bnext HW.out.1 hb2)).setCell (p := ⟨w.heap.size, k * 2, none⟩) (Nat.le_refl _) _).setCell (p := ⟨w.heap.size, k * 2 + 1, none⟩) (Nat.le_refl _) _, by (have := hb2.size; have := HW.out.1.size; simp; omega), HPW.out.put HO.out.2.2 (Nat.lt_of_lt_of_le hgl HW.out.1.size) (Nat.le_trans HS.out.2.2.size HW.out.1.size) hkl.out HO.out.1 HO.out.2.1, HS.out.2.1.step (by rw [← HLEN.out]; exact hlt)⟩
          case measure => simp [intOf]; omega
      · obtain rfl : k = len := by omega
        have HE : Hid (l = p) := CpSt.done (by have := HS.out.2.1; rw [HLEN.out] at this; exact this)
        go_wp2
        go_ret
        refine Or.inr ⟨by rw [← HLEN.out]; exact HP.out, w.heap.size, by show _ = _; rw [← HLEN.out]; rfl, ?_, Nat.le_refl _, hgl, hbel⟩
        have := HS.out.1; rw [HE.out] at this; exact this
set_option maxRecDepth 100000 in
set_option maxHeartbeats 4000000 in
theorem mirroredO_any (ao : Option Addr) (len cap : Nat) (p : List Int) (w : World) (hp : PolyAt w ao len cap p) (hl : len ≤ 1048576) (hlim : Lim 1000000000 p) :
    Calls Tryz.prog 43 #[.slice ao len cap] w fun e w' => NewQO w w' e (mir p.length p) := by
  have hcop := copiedO_any ao len cap p w hp hl (hlim.mono (by decide))
  have HR : Hid (Lim 1000000000 p ∧ len = p.length) := ⟨hlim, hp.hlen⟩
  have HSL : Hid ((mir p.length p).length = len) := by show _ = _; rw [mir_len, ← hp.hlen]
  clear hp hlim
  by_cases h0 : len = 0
  · subst h0
    have hpe : Hid ((mir p.length p).length = 0 ∧ p.length = 0) := ⟨HSL.out, HR.out.2.symm⟩
    go_enter Tryz.func43, Tryz.ntmps43
    go_wp2_with (first
      | (go_at_call 64; refine hcop.mono ?_; intro e w1 hN; rcases hN with ⟨_, rfl, hb1⟩ | ⟨hpos, _⟩; rotate_left 1; exact absurd hpos (by have := hpe.out.2; omega)))
    go_loopw [4] (fun i wr => i = .int .i64 1 ∧ wr = w1) (fun i _ => 0)
    case atStart => exact ⟨rfl, rfl⟩
    case round =>
      obtain ⟨rfl, rfl⟩ := hrel
      go_wp2
      go_ret
      exact Or.inl ⟨hpe.out.1, rfl, hb1⟩
  · have hcop2 : Calls Tryz.prog 64 #[.slice ao len cap] w fun e w' => ∃ g, e = .returned (.slice (some ⟨g, 0, none⟩) len len) ∧ PBlkO w.heap.size w' g p ∧ w.heap.size ≤ g ∧ g < w'.heap.size ∧ Below w.heap.size w w' := by
      refine hcop.mono fun e w1 hN => ?_
      rcases hN with ⟨hz, _⟩ | ⟨_, g, he, hrest⟩
      · exact absurd hz (by have := HR.out.2; omega)
      · exact ⟨g, by rw [HR.out.2]; exact he, hrest⟩
    have HP : Hid (0 < len) := by show 0 < _; omega
    clear hcop h0
    go_enter Tryz.func43, Tryz.ntmps43
    go_wp2_with (first
      | (go_at_call 64; refine hcop2.mono ?_; rintro e w1 ⟨g, rfl, hPB, hg1, hg2, hb1⟩; have HG : Hid (PBlkO w.heap.size w1 g p ∧ w.heap.size ≤ g ∧ g < w1.heap.size ∧ Below w.heap.size w w1) := ⟨hPB, hg1, hg2, hb1⟩; clear hPB hg1 hg2 hb1))
    go_loopw [4] (fun i wr => ∃ (k : Nat), k % 2 = 1 ∧ k ≤ len + 1 ∧ i = .int .i64 k ∧ Below w.heap.size w wr ∧ g < wr.heap.size ∧ PBlkO w.heap.size wr g (mir k p)) (fun i _ => len + 1 - (intOf i).toNat)
    case atStart => exact ⟨1, rfl, by have := HP.out; omega, rfl, HG.out.2.2.2, HG.out.2.2.1, by rw [mir_zero]; exact HG.out.1⟩
    case round =>
      obtain ⟨k, hk2, hk, rfl, hbel, hgw, hPB⟩ := hrel
      have HS : Hid (PBlkO w.heap.size wr g (mir k p) ∧ Below w.heap.size w wr ∧ k % 2 = 1) := ⟨hPB, hbel, hk2⟩
      clear hk2
      by_cases hlt : k < len
      · have hkp : k < (mir k p).length := by rw [mir_len, ← HR.out.2]; exact hlt
        obtain ⟨n1, ao1, l1, c1, ⟨e0, e1⟩, hi1⟩ := hPB.blk.coef k hkp
        have hd : dig (mir k p) k = dig p k := by rw [mir_dig _ _ _ (by rw [← HR.out.2]; exact hlt), if_neg (by omega)]
        rw [hd] at hi1
        have hl1 : l1 ≤ 1000000000 := by rw [hi1.lim]; exact HR.out.1 _
        have HI : Hid (IntAt wr n1 ao1 l1 c1 (dig p k) ∧ k < (mir k p).length) := ⟨hi1, hkp⟩
        have hfz := hPB.soft
        clear hPB hi1 hd hkp hbel
        go_wp2_with (go_at_call 68; refine (bneg_any n1 ao1 l1 c1 (dig p k) _ HI.out.1 (by omega)).mono ?_; rintro e w2 ⟨n2, ao2, l2, c2, rfl, hs2, ho2, hb2⟩; have HI2 : Hid (n2 = sgB (-dig p k) ∧ Own wr.heap.size w2 .u64 73 ao2 l2 c2 (mag (-dig p k).natAbs)) := ⟨hs2, ho2⟩; obtain ⟨r0, r1, r2⟩ : w2.cell? ⟨g, k * 2, none⟩ = some (.bool n1) ∧ w2.cell? ⟨g, k * 2 + 1, none⟩ = some (.slice ao1 l1 c1) ∧ (∀ m, w2.frozen? ⟨g, m, none⟩ = false) := ⟨(hb2.cell (p := ⟨g, k * 2, none⟩) hgw).trans e0, (hb2.cell (p := ⟨g, k * 2 + 1, none⟩) hgw).trans e1, fun m => (hb2.frozen (p := ⟨g, m, none⟩) hgw).trans (hfz m)⟩; clear hs2 ho2)
        go_roundw
        case rel => exact ⟨k + 2, by have := HS.out.2.2; omega, by omega, by go_num, ((bnext HS.out.2.1 hb2).setCell (p := ⟨g, k * 2, none⟩) HG.out.2.1 _).setCell (p := ⟨g, k * 2 + 1, none⟩) HG.out.2.1 _, by (have := hb2.size; simp; omega), by rw [← mir_step p k (by rw [← HR.out.2]; exact hlt) HS.out.2.2]; exact HS.out.1.put hb2 hgw HS.out.2.1.size HI.out.2 HI2.out.1 HI2.out.2⟩
        case measure => simp [intOf]; omega
      · have HE : Hid (mir k p = mir p.length p) := mir_end p k (by rw [← HR.out.2]; omega)
        have hge : ¬ (k : Int) < (len : Int) := by omega
        go_wp2
        go_ret
        exact Or.inr ⟨by rw [HSL.out]; exact HP.out, g, by show _ = _; rw [HSL.out]; rfl, by rw [← HE.out]; exact HS.out.1, HG.out.2.1, hgw, HS.out.2.1⟩
set_option maxRecDepth 100000 in
set_option maxHeartbeats 4000000 in
theorem reverseO_any (C g len B : Nat) (p : List Int) (w0 w : World) (hp : PBlkO C w g p) (hlen : len = p.length) (hl : len ≤ 1048576) (hg : g < w.heap.size) (hB : B ≤ g) :
    Calls Tryz.prog 69 #[.slice (some ⟨g, 0, none⟩) len len] w fun e w' => e = .returned (.tuple #[]) ∧ PBlkO C w' g p.reverse ∧ g < w'.heap.size ∧ Below B w w' := by
  have HR : Hid (PBlkO C w g p ∧ len = p.length) := ⟨hp, hlen⟩
  clear hp hlen
  go_enter Tryz.func69, Tryz.ntmps69
  go_wp2
  go_loopw [2, 3] (fun i j wr => ∃ (k : Nat) (l : List Int), k ≤ len ∧ i = .int .i64 k ∧ j = .int .i64 ((len : Int) - 1 - k) ∧ Below B w wr ∧ g < wr.heap.size ∧ PBlkO C wr g l ∧ RevSt p k l) (fun i j _ => len - (intOf i).toNat)
  case atStart => exact ⟨0, p, Nat.zero_le _, rfl, by go_num, Below.refl _ _, hg, HR.out.1, RevSt.start p⟩
  case round =>
    obtain ⟨k, l, hk, rfl, rfl, hbel, hgw, hPB, hst⟩ := hrel
    have HS : Hid (PBlkO C wr g l ∧ RevSt p k l ∧ Below B w wr) := ⟨hPB, hst, hbel⟩
    by_cases hlt : k + k + 1 < len
    · have hll : l.length = len := by rw [hst.1]; exact HR.out.2.symm
      obtain ⟨n1, ao1, l1, c1, ⟨e0, e1⟩, _⟩ := hPB.blk.coef k (by omega)
      obtain ⟨n2, ao2, l2, c2, ⟨f0, f1⟩, _⟩ := hPB.blk.coef (len - 1 - k) (by omega)
      obtain ⟨m, hm⟩ : ∃ m : Nat, m = len - 1 - k := ⟨_, rfl⟩
      have hmI : (len : Int) - 1 - (k : Int) = (m : Int) := by omega
      rw [← hm] at f0 f1
      have HK : Hid (PBlkO C ((((wr.setCell ⟨g, k * 2, none⟩ (.bool n2)).setCell ⟨g, k * 2 + 1, none⟩ (.slice ao2 l2 c2)).setCell ⟨g, m * 2, none⟩ (.bool n1)).setCell ⟨g, m * 2 + 1, none⟩ (.slice ao1 l1 c1)) g ((l.set k (dig l m)).set m (dig l k)) ∧ RevSt p (k + 1) ((l.set k (dig l m)).set m (dig l k))) := ⟨hPB.swap (by omega) (by omega) (by omega) e0 e1 f0 f1, by have := hst.step (by rw [← HR.out.2]; exact hlt); rw [← HR.out.2, ← hm] at this; exact this⟩
      have hfz := hPB.soft
      have z1 : (0 : Int) ≤ (k : Int) := by omega
      have z2 : (k : Int) < (len : Int) := by omega
      have z3 : (0 : Int) ≤ (m : Int) := by omega
      have z4 : (m : Int) < (len : Int) := by omega
      have z5 : (k : Int) < (m : Int) := by omega
      have z6 : k ≠ m := by omega
      have z7 : m ≠ k := by omega
      have z8 : k + k + 1 < len := hlt
      have HM : Hid (m = len - 1 - k) := hm
      rw [hmI]
      clear hPB hst hll hm hmI
      go_wp2
      go_region
      go_wp2
      go_roundw
      case rel => exact ⟨k + 1, _, by omega, by go_num, by (have hmm := HM.out; refine congrArg _ ?_; omega), (((((HS.out.2.2.setCell (p := ⟨g, k * 2, none⟩) hB _).setCell (p := ⟨g, k * 2 + 1, none⟩) hB _).setCell (p := ⟨g, m * 2, none⟩) hB _).setCell (p := ⟨g, m * 2 + 1, none⟩) hB _)).drew, by simpa using hgw, HK.out.1.later ((Below.refl _ _).drew) (by simpa using hgw), HK.out.2⟩
      case measure => simp [intOf]; omega
    · have HE : Hid (l = p.reverse) := hst.done (by rw [← HR.out.2]; omega)
      have hge : ¬ (k : Int) < (len : Int) - 1 - (k : Int) := by omega
      clear hPB hst
      go_wp2
      go_end0
      exact ⟨rfl, by rw [← HE.out]; exact HS.out.1, hgw, HS.out.2.2⟩
set_option maxRecDepth 100000 in
set_option maxHeartbeats 4000000 in
theorem turnedO_any (ao : Option Addr) (len cap : Nat) (p : List Int) (w : World) (hp : PolyAt w ao len cap p) (hl : len ≤ 1048576) (hlim : Lim 1000000000 p) (hL : Lead p) :
    Calls Tryz.prog 44 #[.slice ao len cap] w fun e w' => ∃ q, TurnOf p q ∧ NewQO w w' e q := by
  have HR : Hid (PolyAt w ao len cap p ∧ Lim 1000000000 p ∧ len = p.length ∧ Lead p) := ⟨hp, hlim, hp.hlen, hL⟩
  by_cases h0 : len = 0
  · subst h0
    have HT : Hid (TurnOf p [] ∧ p.length = 0) := by
      obtain rfl : p = [] := List.eq_nil_of_length_eq_zero hp.hlen.symm
      exact ⟨⟨0, Nat.zero_le _, fun t ht => absurd ht (by omega), fun h => absurd h (by simp), rfl⟩, rfl⟩
    have hcop : ∀ (o : Option Addr) (c : Nat), (o = none → c = 0) → Calls Tryz.prog 64 #[.slice o 0 c] w fun e w' => e = .returned (.slice none 0 0) ∧ Below w.heap.size w w' := fun o c hoc =>
      (copiedO_any o 0 c [] w ⟨rfl, Nat.zero_le _, hoc, Or.inl rfl⟩ (by decide) (fun t => by simp [dig, lim_zero])).mono fun e w' h => by
        rcases h with ⟨_, he, hb⟩ | ⟨h, _⟩
        · exact ⟨he, hb⟩
        · simp at h
    have hnil := hp.hnil
    clear hp hlim hL
    cases ao with
    | none =>
      obtain rfl : cap = 0 := hnil rfl
      have hcon := hcop none 0 (fun _ => rfl)
      clear hnil hcop
      go_enter Tryz.func44, Tryz.ntmps44
      go_wp2
      go_loopw [3] (fun i wr => i = .int .i64 0 ∧ wr = w) (fun i _ => 0)
      case atStart => exact ⟨rfl, rfl⟩
      case round =>
        obtain ⟨rfl, rfl⟩ := hrel
        go_wp2_with (first
          | (go_at_call 64; refine hcon.mono ?_; rintro e w1 ⟨rfl, hb1⟩)
          | (go_at_call 69; refine (reverse_nil _).mono ?_; rintro e w2 ⟨rfl, hw2⟩; replace hw2 := hw2.symm; subst hw2))
        go_ret
        exact ⟨[], HT.out.1, Or.inl ⟨rfl, rfl, hb1⟩⟩
    | some a =>
      obtain ⟨b, off, sp⟩ := a
      have hcon1 := hcop (some ⟨b, off, sp⟩) cap (fun e => by cases e)
      have hcI : (0 : Int) ≤ (cap : Int) := by omega
      clear hnil hcop
      go_enter Tryz.func44, Tryz.ntmps44
      go_wp2
      go_loopw [3] (fun i wr => i = .int .i64 0 ∧ wr = w) (fun i _ => 0)
      case atStart => exact ⟨rfl, rfl⟩
      case round =>
        obtain ⟨rfl, rfl⟩ := hrel
        go_wp2_with (first
          | (go_at_call 64; refine hcon1.mono ?_; rintro e w1 ⟨rfl, hb1⟩)
          | (go_at_call 69; refine (reverse_nil _).mono ?_; rintro e w2 ⟨rfl, hw2⟩; replace hw2 := hw2.symm; subst hw2))
        go_ret
        exact ⟨[], HT.out.1, Or.inl ⟨rfl, rfl, hb1⟩⟩
  · obtain ⟨b, off, rfl, _⟩ := hp.get (by omega)
    have hcapl := hp.hcap
    have HP : Hid (0 < len ∧ len ≤ cap) := ⟨by omega, hcapl⟩
    clear hp hlim hL h0
    go_enter Tryz.func44, Tryz.ntmps44
    go_wp2
    go_loopw [3] (fun i wr => ∃ k : Nat, k < len ∧ i = .int .i64 k ∧ Below w.heap.size w wr ∧ ∀ t, t < k → dig p t = 0) (fun i _ => len - (intOf i).toNat)
    case atStart => exact ⟨0, HP.out.1, rfl, Below.refl _ _, fun t ht => absurd ht (by omega)⟩
    case round =>
      obtain ⟨k, hk, rfl, hbel, hz⟩ := hrel
      have HZ : Hid (∀ t, t < k → dig p t = 0) := hz
      obtain ⟨b', off', he, hat⟩ := (HR.out.1.later hbel).get HP.out.1
      cases he
      obtain ⟨n1, ao1, l1, c1, ⟨e0, e1⟩, hi1⟩ := hat k hk
      have hl1 : l1 ≤ 1000000000 := by rw [hi1.lim]; exact HR.out.2.1 _
      have HI : Hid (IntAt wr n1 ao1 l1 c1 (dig p k)) := hi1
      clear hz hat hi1
      by_cases hd : dig p k = 0
      · have HD : Hid (dig p k = 0 ∧ k + 1 < len) := by
          refine ⟨hd, ?_⟩
          rcases Nat.lt_or_ge (k + 1) len with h | h
          · exact h
          · exfalso
            have h2 := HR.out.2.2.2 (by rw [← HR.out.2.2.1]; exact HP.out.1)
            rw [← HR.out.2.2.1, show len - 1 = k by omega] at h2
            exact h2 hd
        clear hd
        have hcs : Hid (cmpI (dig p k) 0 = 0) := cmpI_eq HD.out.1
        go_wp2_with (go_at_call 55; refine (bsign_any n1 ao1 l1 c1 (dig p k) _ HI.out (by omega) 0 hcs.out).mono ?_; rintro e w1 ⟨rfl, hb1⟩)
        go_roundw
        case rel => exact ⟨k + 1, HD.out.2, by go_num, bnext hbel hb1, fun t ht => by
          by_cases e : t = k
          · subst e; exact HD.out.1
          · exact HZ.out t (by omega)⟩
        case measure => simp [intOf]; omega
      · obtain ⟨cs, hcs⟩ : ∃ cs, cmpI (dig p k) 0 = cs := ⟨_, rfl⟩
        have hcs1 : (cs == 0) = false := by
          rw [← hcs]
          rcases Int.lt_trichotomy (dig p k) 0 with h | h | h
          · rw [cmpI_lt h]; rfl
          · exact absurd h hd
          · rw [cmpI_gt h]; rfl
        have HCS : Hid (cmpI (dig p k) 0 = cs ∧ dig p k ≠ 0) := ⟨hcs, hd⟩
        have y1 : (0 : Int) ≤ (k : Int) := by omega
        have y2 : (k : Int) ≤ (len : Int) := by omega
        have y3 : (len : Int) ≤ (cap : Int) := by omega
        have y4 : (k : Int) ≤ (cap : Int) := by omega
        have y5 : cap ≠ k := by omega
        have y6 : k ≠ cap := by omega
        obtain ⟨q, hq⟩ : ∃ q, q = p.drop k := ⟨_, rfl⟩
        have HQ : Hid (0 < q.length ∧ q.length = len - k ∧ q = p.drop k) := by
          have := HR.out.2.2.1
          exact ⟨by rw [hq]; simp; omega, by rw [hq]; simp; omega, hq⟩
        clear hq
        clear hcs hd
        go_wp2_with (first
          | (go_at_call 55; refine (bsign_any n1 ao1 l1 c1 (dig p k) _ HI.out (by omega) cs HCS.out.1).mono ?_; rintro e w1 ⟨rfl, hb1⟩)
          | (go_at_call 64; refine (copiedO_any (some ⟨b, off + k * 2, none⟩) (len - k) (cap - k) q _ (by rw [HQ.out.2.2]; exact (HR.out.1.later (bnext hbel hb1)).drop rfl (Nat.le_of_lt hk)) (by omega) (by rw [HQ.out.2.2]; exact drop_lim (HR.out.2.1.mono (by decide)))).mono ?_; intro e w2 hN; rcases hN with ⟨hz, _⟩ | ⟨_, g, rfl, hPB, hg1, hg2, hb2⟩; exact absurd hz (by have := HQ.out.1; omega); have HG : Hid (PBlkO w1.heap.size w2 g q ∧ w1.heap.size ≤ g ∧ g < w2.heap.size ∧ Below w1.heap.size w1 w2) := ⟨hPB, hg1, hg2, hb2⟩; clear hPB hg1 hg2 hb2)
          | (go_at_call 69; refine (reverseO_any w1.heap.size g q.length w1.heap.size q w2 w2 HG.out.1 rfl (by have := HQ.out.2.1; omega) HG.out.2.2.1 HG.out.2.1).mono ?_; rintro e w3 ⟨rfl, hPB3, hg3, hb3⟩))
        go_ret
        exact ⟨q.reverse, ⟨k, by rw [← HR.out.2.2.1]; omega, HZ.out, fun _ => HCS.out.2, by rw [HQ.out.2.2]⟩, Or.inr ⟨by rw [List.length_reverse]; exact HQ.out.1, g, by rw [List.length_reverse]; rfl, hPB3.mono (bnext hbel hb1).size, Nat.le_trans (bnext hbel hb1).size HG.out.2.1, hg3, bnext (bnext hbel hb1) (HG.out.2.2.2.trans hb3)⟩⟩
/-- stretched up to place i -/
def stJ (E : Nat → Nat) (i : Nat) (p : List Int) : List Int := tab p.length fun t => if t < i then dig p t * ((2 ^ E t : Nat) : Int) else dig p t
theorem stJ_len (E : Nat → Nat) (i : Nat) (p : List Int) : (stJ E i p).length = p.length := tab_len _ _
theorem stJ_dig (E : Nat → Nat) (i : Nat) (p : List Int) {t : Nat} (h : t < p.length) : dig (stJ E i p) t = if t < i then dig p t * ((2 ^ E t : Nat) : Int) else dig p t := tab_dig _ h
theorem stJ_zero (E : Nat → Nat) (p : List Int) : stJ E 0 p = p :=
  dig_ext (stJ_len _ _ _) fun t ht => by rw [stJ_len] at ht; rw [stJ_dig _ _ _ ht, if_neg (by omega)]
theorem stJ_step (E : Nat → Nat) (i : Nat) (p : List Int) (h : i < p.length) : (stJ E i p).set i (dig p i * ((2 ^ E i : Nat) : Int)) = stJ E (i + 1) p :=
  dig_ext (by rw [List.length_set, stJ_len, stJ_len]) fun t ht => by
    rw [List.length_set, stJ_len] at ht
    rw [pdig_set _ _ _ _ (by rw [stJ_len]; exact ht), stJ_dig _ _ _ ht, stJ_dig _ _ _ ht]
    by_cases e : t = i
    · subst e; rw [if_pos rfl, if_pos (by omega)]
    · rw [if_neg e]
      by_cases e2 : t < i
      · rw [if_pos e2, if_pos (by omega)]
      · rw [if_neg e2, if_neg (by omega)]
set_option maxRecDepth 100000 in
set_option maxHeartbeats 4000000 in
theorem stretchedO_any (ao : Option Addr) (len cap : Nat) (K : Int) (p : List Int) (w : World) (hp : PolyAt w ao len cap p) (hl : len ≤ 11) (hk1 : -64 ≤ K) (hk2 : K ≤ 64) (hlim : Lim 1000000 p) :
    Calls Tryz.prog 46 #[.slice ao len cap, .int .i64 K] w fun e w' => NewQO w w' e (stZ K p) := by
  have hcop := copiedO_any ao len cap p w hp (by omega) (hlim.mono (by decide))
  have HR : Hid (Lim 1000000 p ∧ len = p.length) := ⟨hlim, hp.hlen⟩
  obtain ⟨E, hE⟩ : ∃ E : Nat → Nat, E = fun t => if K < 0 then (-K).toNat * (p.length - 1 - t) else K.toNat * t := ⟨_, rfl⟩
  have HZ : Hid (stZ K p = stJ E p.length p ∧ ∀ t, E t = if K < 0 then (-K).toNat * (len - 1 - t) else K.toNat * t) := by
    refine ⟨?_, fun t => by rw [hE, hp.hlen]⟩
    rw [hE]
    exact tab_congr fun t ht => by rw [if_pos ht]
  clear hE
  have HSL : Hid ((stZ K p).length = len) := by show _ = _; rw [stZ_len, ← hp.hlen]
  clear hp hlim
  by_cases h0 : len = 0
  · subst h0
    have hpe : Hid ((stZ K p).length = 0 ∧ p.length = 0) := ⟨HSL.out, HR.out.2.symm⟩
    go_enter Tryz.func46, Tryz.ntmps46
    go_wp2_with (first
      | (go_at_call 64; refine hcop.mono ?_; intro e w1 hN; rcases hN with ⟨_, rfl, hb1⟩ | ⟨hpos, _⟩; rotate_left 1; exact absurd hpos (by have := hpe.out.2; omega)))
    go_loopw [12] (fun i wr => i = .int .i64 0 ∧ wr = w1) (fun i _ => 0)
    case atStart => exact ⟨rfl, rfl⟩
    case round =>
      obtain ⟨rfl, rfl⟩ := hrel
      go_wp2
      go_ret
      exact Or.inl ⟨hpe.out.1, rfl, hb1⟩
  · have hcop2 : Calls Tryz.prog 64 #[.slice ao len cap] w fun e w' => ∃ g, e = .returned (.slice (some ⟨g, 0, none⟩) len len) ∧ PBlkO w.heap.size w' g p ∧ w.heap.size ≤ g ∧ g < w'.heap.size ∧ Below w.heap.size w w' := by
      refine hcop.mono fun e w1 hN => ?_
      rcases hN with ⟨hz, _⟩ | ⟨_, g, he, hrest⟩
      · exact absurd hz (by have := HR.out.2; omega)
      · exact ⟨g, by rw [HR.out.2]; exact he, hrest⟩
    have HP : Hid (0 < len) := by show 0 < _; omega
    clear hcop h0
    go_enter Tryz.func46, Tryz.ntmps46
    go_wp2_with (first
      | (go_at_call 64; refine hcop2.mono ?_; rintro e w1 ⟨g, rfl, hPB, hg1, hg2, hb1⟩; have HG : Hid (PBlkO w.heap.size w1 g p ∧ w.heap.size ≤ g ∧ g < w1.heap.size ∧ Below w.heap.size w w1) := ⟨hPB, hg1, hg2, hb1⟩; clear hPB hg1 hg2 hb1))
    go_loopw [12] (fun i wr => ∃ (j : Nat), j ≤ len ∧ i = .int .i64 (j : Int) ∧ Below w.heap.size w wr ∧ g < wr.heap.size ∧ PBlkO w.heap.size wr g (stJ E j p)) (fun i _ => len - (intOf i).toNat)
    case atStart => exact ⟨0, Nat.zero_le _, rfl, HG.out.2.2.2, HG.out.2.2.1, by rw [stJ_zero]; exact HG.out.1⟩
    case round =>
      obtain ⟨j, hj, rfl, hbel, hgw, hPB⟩ := hrel
      have HS : Hid (PBlkO w.heap.size wr g (stJ E j p) ∧ Below w.heap.size w wr) := ⟨hPB, hbel⟩
      by_cases hlt : j < len
      · have hjp : j < p.length := by rw [← HR.out.2]; exact hlt
        obtain ⟨n1, ao1, l1, c1, ⟨e0, e1⟩, hi1⟩ := hPB.blk.coef j (by rw [stJ_len]; exact hjp)
        rw [stJ_dig _ _ _ hjp, if_neg (by omega)] at hi1
        have HI : Hid (IntAt wr n1 ao1 l1 c1 (dig p j) ∧ j < (stJ E j p).length ∧ j < p.length) := ⟨hi1, by rw [stJ_len]; exact hjp, hjp⟩
        have hl1 : l1 ≤ 1000000 := by rw [hi1.lim]; exact HR.out.1 j
        have hfz := hPB.soft
        obtain ⟨m, hm⟩ : ∃ m : Nat, m = E j := ⟨_, rfl⟩
        have HM : Hid (m = E j) := hm
        have z1 : (0 : Int) ≤ (j : Int) := by omega
        have z2 : (j : Int) < (len : Int) := by omega
        rw [HZ.out.2 j] at hm
        have hm2 : m ≤ 640 := by
          rw [hm]
          split
          · exact Nat.le_trans (Nat.mul_le_mul (show (-K).toNat ≤ 64 by omega) (show len - 1 - j ≤ 10 by omega)) (by decide)
          · exact Nat.le_trans (Nat.mul_le_mul (show K.toNat ≤ 64 by omega) (show j ≤ 10 by omega)) (by decide)
        clear hPB hbel hi1 hjp
        by_cases hK : K < 0
        · rw [if_pos hK] at hm
          have y1 : -K * ((len : Int) - 1 - (j : Int)) = (m : Int) := by
            rw [hm, Int.natCast_mul, Int.toNat_of_nonneg (by omega), show ((len - 1 - j : Nat) : Int) = (len : Int) - 1 - (j : Int) by omega]
          have y2 : -640 ≤ K * (j : Int) ∧ K * (j : Int) ≤ 0 := by
            constructor
            · have : (j : Int) * (-K) ≤ 10 * 64 := Int.mul_le_mul (by omega) (by omega) (by omega) (by omega)
              rw [Int.mul_neg, Int.mul_comm] at this; omega
            · rw [Int.mul_comm]; exact Int.mul_nonpos_of_nonneg_of_nonpos (by omega) (by omega)
          obtain ⟨kk, hkk⟩ : ∃ kk, K * (j : Int) = kk := ⟨_, rfl⟩
          obtain ⟨y3, y4⟩ := y2
          rw [hkk] at y3 y4
          clear hm
          go_wp2_with (go_at_call 70; refine (bleft_any n1 ao1 l1 c1 m (dig p j) _ HI.out.1 (by omega) (by omega)).mono ?_; rintro e w2 ⟨n2, ao2, l2, c2, rfl, hs2, ho2, hb2⟩; have H2 : Hid (n2 = sgB (dig p j * ((2 ^ E j : Nat) : Int)) ∧ Own wr.heap.size w2 .u64 73 ao2 l2 c2 (mag (dig p j * ((2 ^ E j : Nat) : Int)).natAbs)) := (by rw [← HM.out]; exact ⟨hs2, ho2⟩); clear hs2 ho2 e0 e1 hfz; have HP2 := HS.out.1.later hb2 hgw; obtain ⟨n3, ao3, l3, c3, ⟨e0, e1⟩, _⟩ := HP2.blk.coef j HI.out.2.1; have hfz := HP2.soft; clear HP2)
          go_roundw
          case rel => exact ⟨j + 1, by omega, by go_num, ((bnext HS.out.2 hb2).setCell (p := ⟨g, j * 2, none⟩) HG.out.2.1 _).setCell (p := ⟨g, j * 2 + 1, none⟩) HG.out.2.1 _, by (have := hb2.size; simp; omega), by rw [← stJ_step _ _ _ HI.out.2.2]; exact HS.out.1.put hb2 hgw HS.out.2.size HI.out.2.1 H2.out.1 H2.out.2⟩
          case measure => simp [intOf]; omega
        · rw [if_neg hK] at hm
          have y1 : K * (j : Int) = (m : Int) := by rw [hm, Int.natCast_mul, Int.toNat_of_nonneg (by omega)]
          clear hm
          go_wp2_with (go_at_call 70; refine (bleft_any n1 ao1 l1 c1 m (dig p j) _ HI.out.1 (by omega) (by omega)).mono ?_; rintro e w2 ⟨n2, ao2, l2, c2, rfl, hs2, ho2, hb2⟩; have H2 : Hid (n2 = sgB (dig p j * ((2 ^ E j : Nat) : Int)) ∧ Own wr.heap.size w2 .u64 73 ao2 l2 c2 (mag (dig p j * ((2 ^ E j : Nat) : Int)).natAbs)) := (by rw [← HM.out]; exact ⟨hs2, ho2⟩); clear hs2 ho2 e0 e1 hfz; have HP2 := HS.out.1.later hb2 hgw; obtain ⟨n3, ao3, l3, c3, ⟨e0, e1⟩, _⟩ := HP2.blk.coef j HI.out.2.1; have hfz := HP2.soft; clear HP2)
          go_roundw
          case rel => exact ⟨j + 1, by omega, by go_num, ((bnext HS.out.2 hb2).setCell (p := ⟨g, j * 2, none⟩) HG.out.2.1 _).setCell (p := ⟨g, j * 2 + 1, none⟩) HG.out.2.1 _, by (have := hb2.size; simp; omega), by rw [← stJ_step _ _ _ HI.out.2.2]; exact HS.out.1.put hb2 hgw HS.out.2.size HI.out.2.1 H2.out.1 H2.out.2⟩
          case measure => simp [intOf]; omega
      · obtain rfl : j = len := by omega
        go_wp2
        go_ret
        refine Or.inr ⟨by rw [HSL.out]; exact HP.out, g, by show _ = _; rw [HSL.out]; rfl, ?_, HG.out.2.1, hgw, HS.out.2⟩
        have := HS.out.1; rw [HR.out.2] at this; rw [HZ.out.1]; exact this
end Go.Proofs.YtdanaebhjkbfmaaGreat
