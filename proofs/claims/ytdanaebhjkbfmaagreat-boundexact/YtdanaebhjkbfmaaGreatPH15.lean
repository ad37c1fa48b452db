/-
  Walks: Shift, Mirror, Turn of polynomials.
-/
import Derived.Test.YtdanaebhjkbfmaaGreatPH13
import Derived.Test.YtdanaebhjkbfmaaGreatPH14
namespace Go.Proofs.YtdanaebhjkbfmaaGreat
open Go.RowKit
set_option linter.unusedVariables false
set_option linter.unusedSimpArgs false
/-- a polynomial in new memory and no error: what a call hands back -/
def NewPolyErr (w w' : World) (e : Ending) (p : List Int) : Prop := ∃ ao len, e = .returned (.tuple #[.slice ao len len, .int .i64 0]) ∧ PolyAt w' ao len len p ∧ Below w.heap.size w w'
theorem NewPB.at {w w' : World} {e : Ending} {p : List Int} (h : NewPB w w' e p) : ∃ ao len, e = .returned (.slice ao len len) ∧ PolyAt w' ao len len p ∧ Below w.heap.size w w' := by
  rcases h with ⟨h0, he, hb⟩ | ⟨h0, g, he, hp, _, _, hb⟩
  · obtain rfl : p = [] := List.eq_nil_of_length_eq_zero h0
    exact ⟨_, _, he, PolyAt.nilPoly _, hb⟩
  · exact ⟨_, _, he, hp.poly rfl, hb⟩
set_option maxRecDepth 100000 in
set_option maxHeartbeats 1000000 in
theorem bshift_ok (ao : Option Addr) (len cap : Nat) (p : List Int) (n : Bool) (co : Option Addr) (lc cc : Nat) (c : Int) (w : World) (hp : PolyAt w ao len cap p) (hl : len ≤ 1025) (hL : Lead p) (hv : IntAt w n co lc cc c) (hlim : ShLim 1000000000 c p) :
    Calls Tryz.prog 13 #[.slice ao len cap, .agg #[.bool n, .slice co lc cc]] w fun e w' => NewPolyErr w w' e (sh c p) := by
  have hA : Below w.heap.size w (w.alloc (.cells #[.bool n, .slice co lc cc] 28)) := (Below.refl _ _).alloc (Nat.le_refl _) _
  have hlc : lc ≤ 1000000000 := by rw [hv.lim]; exact hlim.1
  have hcon := checkMove_ok ao len cap p n co lc cc c _ (hp.later hA) hl hL (hlim.2.1.mono (by decide)) (hv.later hA) (by omega)
  have HV : Hid (IntAt (w.alloc (.cells #[.bool n, .slice co lc cc] 28)) n co lc cc c ∧ Boxed (w.alloc (.cells #[.bool n, .slice co lc cc] 28)) w.heap.size n co lc cc ∧ PolyAt (w.alloc (.cells #[.bool n, .slice co lc cc] 28)) ao len cap p ∧ ShLim 1000000000 c p) := ⟨hv.later hA, ⟨by simp [go_sem], by simp [go_sem]⟩, hp.later hA, hlim⟩
  clear hp hL hlim hv
  go_enter Tryz.func13, Tryz.ntmps13
  go_wp2_with (first
    | (go_at_call 38; refine hcon.mono ?_; rintro e w1 ⟨rfl, hb1⟩; obtain ⟨q0, q1⟩ := HV.out.2.1.later hb1 (by simp))
    | (go_at_call 40; refine (shifted_any ao len cap p n co lc cc c _ (HV.out.2.2.1.later hb1) (by omega) (HV.out.1.later hb1) HV.out.2.2.2).mono ?_; intro e w2 hN; obtain ⟨ao2, l2, rfl, hp2, hb2⟩ := hN.at; clear hN))
  exact bodyPost_ret (v := .tuple #[.slice ao2 l2 l2, .int .i64 0]) (by simp [results, Tryz.results13, go_sem]) rfl ⟨_, _, rfl, hp2, bnext hA (bnext hb1 hb2)⟩
end Go.Proofs.YtdanaebhjkbfmaaGreat
/-
  Walks: the page's mirrored, turned, stretched polynomials, changes of signs.
-/
namespace Go.Proofs.YtdanaebhjkbfmaaGreat
open Go.RowKit
set_option linter.unusedVariables false
set_option linter.unusedSimpArgs false
/-- a list made by append whose numbers lay there when it was begun -/
def ElemsL (w : World) (xs : List Value) (l : List Int) : Prop := ∀ t, t < l.length → ∃ n ao k c, xs[t * 2]? = some (.bool n) ∧ xs[t * 2 + 1]? = some (.slice ao k c) ∧ IntAt w n ao k c (dig l t)
def LAt (w wr : World) (v : Value) (l : List Int) : Prop := ∃ xs, wr.ownsRow w.heap.size 28 2 v l.length xs ∧ ElemsL w xs l
theorem LAt.nil (w wr : World) : LAt w wr (.slice none 0 0) [] := ⟨[], World.ownsRow_nil _ _ _ _, fun t ht => absurd ht (by simp)⟩
theorem dig_snoc (l : List Int) (a : Int) (t : Nat) (ht : t < l.length + 1) : dig (l ++ [a]) t = if t < l.length then dig l t else a := by
  unfold dig
  by_cases h : t < l.length
  · rw [if_pos h, List.getD_eq_getElem?_getD, List.getD_eq_getElem?_getD, List.getElem?_append_left h]
  · obtain rfl : t = l.length := by omega
    rw [if_neg (by omega), List.getD_eq_getElem?_getD]; simp
theorem lat_push {m : Nat} {w wr w' : World} {v v' : Value} {l : List Int} {xs : List Value} {n : Bool} {ao : Option Addr} {k c : Nat} {a : Int} (hm : m = l.length) (ho : wr.ownsRow w.heap.size 28 2 v m xs) (hx : ElemsL w xs l) (hn : IntAt w n ao k c a) (h' : w'.ownsRow w.heap.size 28 2 v' (m + 1) (xs ++ [.bool n, .slice ao k c])) : LAt w w' v' (l ++ [a]) := by
  subst hm
  have hlx : xs.length = l.length * 2 := ho.1
  have hr : (l ++ [a]).length = l.length + 1 := by simp
  refine ⟨xs ++ [.bool n, .slice ao k c], by rw [hr]; exact h', fun t ht => ?_⟩
  rw [hr] at ht
  rw [dig_snoc _ _ _ ht]
  by_cases e : t < l.length
  · rw [if_pos e]
    obtain ⟨n', ao', k', c', h0, h1, h2⟩ := hx t e
    exact ⟨n', ao', k', c', by rw [List.getElem?_append_left (by omega)]; exact h0, by rw [List.getElem?_append_left (by omega)]; exact h1, h2⟩
  · obtain rfl : t = l.length := by omega
    rw [if_neg (by omega)]
    exact ⟨n, ao, k, c, by rw [List.getElem?_append_right (by omega), hlx, Nat.sub_self]; simp, by rw [List.getElem?_append_right (by omega), hlx, show l.length * 2 + 1 - l.length * 2 = 1 by omega]; simp, hn⟩
theorem LAt.poly {w wr : World} {vo : Option Addr} {k vc : Nat} {l : List Int} (h : LAt w wr (.slice vo k vc) l) (hb : Below w.heap.size w wr) : PolyAt wr vo k vc l := by
  obtain ⟨xs, ho, hx⟩ := h
  obtain ⟨ao, cap, hv, hc, hn, hat⟩ := lrow_cells ho
  simp only [Value.slice.injEq] at hv
  obtain ⟨rfl, rfl, rfl⟩ := hv
  refine ⟨rfl, hc, hn, ?_⟩
  rcases hat with h0 | ⟨g, hg, hcell⟩
  · exact Or.inl h0
  · refine Or.inr ⟨g, 0, hg, fun t ht => ?_⟩
    obtain ⟨n, ao', k', c', h0, h1, h2⟩ := hx t ht
    rw [Nat.zero_add]
    exact ⟨n, ao', k', c', ⟨hcell _ _ h0, hcell _ _ h1⟩, h2.later hb⟩
theorem LAt.len {w wr : World} {v : Value} {l : List Int} (h : LAt w wr v l) : ∃ ao cap, v = .slice ao l.length cap := by
  obtain ⟨xs, ho, _⟩ := h
  obtain ⟨ao, cap, hv, _⟩ := lrow_cells ho
  exact ⟨ao, cap, hv⟩
set_option maxRecDepth 100000 in
set_option maxHeartbeats 400000 in
/-- the page's Neg shares the words -/
theorem rneg_at (neg : Bool) (ao : Option Addr) (len cap : Nat) (v : Int) (w : World) (hl : len ≤ 4611686018427387904) :
    Calls Tryz.prog 29 #[.agg #[.bool neg, .slice ao len cap]] w fun e w' => e = .returned (.agg #[.bool ((!neg) && decide (0 < len)), .slice ao len cap]) ∧ Below w.heap.size w w' := by
  obtain ⟨W, hT⟩ := One2.mk' w neg ao len cap
  have hsz := hT.size
  go_enter Tryz.func29, Tryz.ntmps29
  go_wp2_with (go_at_call 58; rw [← hT.eq]; refine (made_any (!neg) ao len cap _ hl).mono ?_; rintro e w2 ⟨rfl, hb2⟩; obtain ⟨g5, g3, g4⟩ := hT.r.later hb2 (by omega))
  exact bodyPost_ret (v := .agg #[.bool ((!neg) && decide (0 < len)), .slice ao len cap]) (by simp [results, Tryz.results29, go_sem, g3, g4]) rfl
    ⟨rfl, below_store (bnext hT.below hb2) (by omega) _ _⟩
theorem ineg_at {w : World} {neg : Bool} {ao : Option Addr} {len cap : Nat} {v : Int} (h : IntAt w neg ao len cap v) : IntAt w ((!neg) && decide (0 < len)) ao len cap (-v) := by
  have hl := h.lim
  have e : (-v).natAbs = v.natAbs := Int.natAbs_neg v
  refine ⟨?_, by rw [e]; exact h.row⟩
  rw [h.sg]
  unfold sgB
  by_cases h0 : v = 0
  · subst h0
    have : len = 0 := hl
    subst this
    rfl
  · have hp : 0 < len := by have := lim_pos h0; omega
    simp only [hp, decide_true, Bool.and_true]
    by_cases h1 : v < 0
    · rw [decide_eq_true h1, decide_eq_false (by omega)]; rfl
    · rw [decide_eq_false h1, decide_eq_true (by omega)]; rfl
set_option maxRecDepth 100000 in
set_option maxHeartbeats 2000000 in
theorem pmirror_any (ao : Option Addr) (len cap : Nat) (p : List Int) (w : World) (hp : PolyAt w ao len cap p) (hl : len ≤ 1000) (hlim : Lim 100000 p) :
    Calls Tryz.prog 8 #[.slice ao len cap] w fun e w' => NewPoly w w' e (mir p.length p) := by
  have HR : Hid (PolyAt w ao len cap p ∧ Lim 100000 p ∧ len = p.length ∧ mir p.length p = tab len fun i => if i % 2 = 1 then -dig p i else dig p i) := by
    refine ⟨hp, hlim, hp.hlen, ?_⟩
    rw [hp.hlen]
    exact dig_ext (by rw [mir_len, tab_len]) fun t ht => by
      rw [mir_len] at ht
      rw [mir_dig _ _ _ ht, tab_dig _ ht]
      by_cases h : t % 2 = 1
      · rw [if_pos ⟨ht, h⟩, if_pos h]
      · rw [if_neg (fun q => h q.2), if_neg h]
  clear hp hlim
  obtain ⟨i0, hi, hz0, hz1, hz2⟩ := info_parts infoInt
  go_enter Tryz.func8, Tryz.ntmps8
  go_wp2
  go_loopw [3, 4] (fun v i wr => ∃ k : Nat, k ≤ len ∧ i = .int .i64 (k : Int) ∧ Below w.heap.size w wr ∧ LAt w wr v (tab k fun i => if i % 2 = 1 then -dig p i else dig p i)) (fun _ i _ => len - (intOf i).toNat)
  case atStart => exact ⟨0, Nat.zero_le _, rfl, Below.refl _ _, LAt.nil _ _⟩
  case round =>
    obtain ⟨k, hk, rfl, hbel, hL⟩ := hrel
    have HLR := hL
    obtain ⟨xs, hown, hx⟩ := hL
    rw [tab_len] at hown
    obtain ⟨vo, vc, rfl, _⟩ := lrow_cells hown
    have HX : Hid (wr.ownsRow w.heap.size 28 2 (.slice vo k vc) k xs ∧ ElemsL w xs (tab k fun i => if i % 2 = 1 then -dig p i else dig p i) ∧ LAt w wr (.slice vo k vc) (tab k fun i => if i % 2 = 1 then -dig p i else dig p i)) := ⟨hown, hx, HLR⟩
    clear hown hx HLR
    by_cases hlt : k < len
    · have h63 : Hid (k + 1 ≤ maxLen) := by show _ ≤ _; unfold maxLen; omega
      have hby : Hid ((k + 1) * 32 ≤ 140737488355328) := by show _ ≤ _; omega
      have hbt := hbel
      obtain ⟨b, off, n1, ao1, l1, c1, rfl, f0', f1', hi1⟩ := HR.out.1.at hlt
      have f0 := (hbel.cell (p := ⟨b, off + k * 2, none⟩) (cell_lt f0')).trans f0'
      have f1 := (hbel.cell (p := ⟨b, off + k * 2 + 1, none⟩) (cell_lt f1')).trans f1'
      have hl1 : l1 ≤ 100000 := by rw [hi1.lim]; exact HR.out.2.1 k
      have HI : Hid (IntAt w n1 ao1 l1 c1 (dig p k)) := hi1
      have z1 : (0 : Int) ≤ (k : Int) := by omega
      have z2 : (k : Int) < (len : Int) := by omega
      clear hi1 f0' f1'
      by_cases ho : k % 2 = 1
      · have z3 : ((k : Int) % 2 == 1) = true := by rw [beq_iff_eq]; omega
        obtain ⟨n2, hn2⟩ : ∃ n2, n2 = ((!n1) && decide (0 < l1)) := ⟨_, rfl⟩
        have HN : Hid (IntAt w n2 ao1 l1 c1 (-dig p k)) := by rw [hn2]; exact ineg_at HI.out
        have hcon : Calls Tryz.prog 29 #[.agg #[.bool n1, .slice ao1 l1 c1]] wr fun e w' => e = .returned (.agg #[.bool n2, .slice ao1 l1 c1]) ∧ Below wr.heap.size wr w' := by rw [hn2]; exact rneg_at n1 ao1 l1 c1 (dig p k) wr (by omega)
        have HO : Hid (k % 2 = 1) := ho
        clear ho hn2
        go_wp2_with (first
          | (at_builtin; refine wpList_append_own _ rfl _ _ 24 rfl w.heap.size 28 i0 (.agg #[.bool false, .slice none 0 0]) 2 32 Tryz.underlying24 hi hz0 hz1 hz2 rfl (by decide) _ _ _ rfl (owns_later2 HX.out.1 hA3) ⟨w3.heap.size, 0, none⟩ 1 1 [.bool n2, .slice ao1 l1 c1] rfl rfl (World.news_of_block (cs := #[.bool n2, .slice ao1 l1 c1]) (t := 28) (fr := (0, 0)) (heap_alloc_new w3 _)) (by simp [Value.oneCell']) h63.out hby.out (Nat.le_trans hbel.size hA3.size) ?_; intro v4 w4 hown4 hgrow hnil)
          | (go_at_call 29; refine hcon.mono ?_; rintro e w3 ⟨rfl, hb3⟩; have hA3 : Below wr.heap.size wr (w3.alloc (.cells #[.bool n2, .slice ao1 l1 c1] 28)) := bnext hb3 ((Below.refl _ _).alloc (Nat.le_refl _) _)))
        go_roundw
        case rel =>
          refine ⟨k + 1, by omega, by go_num, grown_owns2 (bnext hbel hA3) (Nat.le_trans hbel.size hA3.size) (owns_later2 HX.out.1 hA3) hgrow, ?_⟩
          rw [tab_succ, if_pos HO.out]
          exact lat_push (tab_len _ _).symm (owns_later2 HX.out.1 hA3) HX.out.2.1 HN.out hown4
        case measure => simp [intOf]; omega
      · have z3 : ((k : Int) % 2 == 1) = false := by rw [beq_eq_false_iff_ne]; omega
        have HO : Hid (¬ k % 2 = 1) := ho
        have hA3 : Below wr.heap.size wr (wr.alloc (.cells #[.bool n1, .slice ao1 l1 c1] 28)) := (Below.refl _ _).alloc (Nat.le_refl _) _
        clear ho
        go_wp2_with (at_builtin; refine wpList_append_own _ rfl _ _ 24 rfl w.heap.size 28 i0 (.agg #[.bool false, .slice none 0 0]) 2 32 Tryz.underlying24 hi hz0 hz1 hz2 rfl (by decide) _ _ _ rfl (owns_later2 HX.out.1 hA3) ⟨wr.heap.size, 0, none⟩ 1 1 [.bool n1, .slice ao1 l1 c1] rfl rfl (World.news_of_block (cs := #[.bool n1, .slice ao1 l1 c1]) (t := 28) (fr := (0, 0)) (heap_alloc_new wr _)) (by simp [Value.oneCell']) h63.out hby.out (Nat.le_trans hbel.size hA3.size) ?_; intro v4 w4 hown4 hgrow hnil)
        go_roundw
        case rel =>
          refine ⟨k + 1, by omega, by go_num, grown_owns2 (bnext hbel hA3) (Nat.le_trans hbel.size hA3.size) (owns_later2 HX.out.1 hA3) hgrow, ?_⟩
          rw [tab_succ, if_neg HO.out]
          exact lat_push (tab_len _ _).symm (owns_later2 HX.out.1 hA3) HX.out.2.1 HI.out hown4
        case measure => simp [intOf]; omega
    · obtain rfl : k = len := by omega
      go_wp2
      go_ret
      refine ⟨vo, k, vc, rfl, ?_, hbel⟩
      rw [HR.out.2.2.2]
      exact HX.out.2.2.poly hbel
set_option maxRecDepth 100000 in
set_option maxHeartbeats 2000000 in
theorem pturn_any (ao : Option Addr) (len cap : Nat) (p : List Int) (w : World) (hp : PolyAt w ao len cap p) (hl : len ≤ 1000) (hlim : Lim 100000 p) :
    Calls Tryz.prog 9 #[.slice ao len cap] w fun e w' => NewPoly w w' e (trimL p.reverse) := by
  have HR : Hid (PolyAt w ao len cap p ∧ Lim 100000 p ∧ len = p.length ∧ p.reverse = tab len fun i => dig p (len - 1 - i)) := by
    refine ⟨hp, hlim, hp.hlen, ?_⟩
    rw [hp.hlen]
    exact dig_ext (by rw [tab_len, List.length_reverse]) fun t ht => by
      rw [List.length_reverse] at ht
      rw [rev_dig _ _ ht, tab_dig _ ht]
  clear hp hlim
  obtain ⟨i0, hi, hz0, hz1, hz2⟩ := info_parts infoInt
  go_enter Tryz.func9, Tryz.ntmps9
  go_wp2
  go_loopw [3, 4] (fun v i wr => ∃ k : Nat, k ≤ len ∧ i = .int .i64 ((len : Int) - 1 - (k : Int)) ∧ Below w.heap.size w wr ∧ LAt w wr v (tab k fun i => dig p (len - 1 - i))) (fun _ i _ => (intOf i + 1).toNat)
  case atStart => exact ⟨0, Nat.zero_le _, by simp, Below.refl _ _, LAt.nil _ _⟩
  case round =>
    obtain ⟨k, hk, rfl, hbel, hL⟩ := hrel
    have HLR := hL
    obtain ⟨xs, hown, hx⟩ := hL
    rw [tab_len] at hown
    obtain ⟨vo, vc, rfl, _⟩ := lrow_cells hown
    have HX : Hid (wr.ownsRow w.heap.size 28 2 (.slice vo k vc) k xs ∧ ElemsL w xs (tab k fun i => dig p (len - 1 - i)) ∧ LAt w wr (.slice vo k vc) (tab k fun i => dig p (len - 1 - i))) := ⟨hown, hx, HLR⟩
    clear hown hx HLR
    by_cases hlt : k < len
    · have h63 : Hid (k + 1 ≤ maxLen) := by show _ ≤ _; unfold maxLen; omega
      have hby : Hid ((k + 1) * 32 ≤ 140737488355328) := by show _ ≤ _; omega
      obtain ⟨m, hm⟩ : ∃ m : Nat, m = len - 1 - k := ⟨_, rfl⟩
      have hmI : (len : Int) - 1 - (k : Int) = (m : Int) := by omega
      have hml : m < len := by omega
      obtain ⟨b, off, n1, ao1, l1, c1, rfl, f0', f1', hi1⟩ := HR.out.1.at hml
      have f0 := (hbel.cell (p := ⟨b, off + m * 2, none⟩) (cell_lt f0')).trans f0'
      have f1 := (hbel.cell (p := ⟨b, off + m * 2 + 1, none⟩) (cell_lt f1')).trans f1'
      have HI : Hid (IntAt w n1 ao1 l1 c1 (dig p m) ∧ m = len - 1 - k) := ⟨hi1, hm⟩
      have z1 : (0 : Int) ≤ (m : Int) := by omega
      have z2 : (m : Int) < (len : Int) := by omega
      have hA3 : Below wr.heap.size wr (wr.alloc (.cells #[.bool n1, .slice ao1 l1 c1] 28)) := (Below.refl _ _).alloc (Nat.le_refl _) _
      clear hi1 f0' f1' hm
      rw [hmI]
      have HMI : Hid ((len : Int) - 1 - (k : Int) = (m : Int)) := hmI
      clear hmI
      go_wp2_with (at_builtin; refine wpList_append_own _ rfl _ _ 24 rfl w.heap.size 28 i0 (.agg #[.bool false, .slice none 0 0]) 2 32 Tryz.underlying24 hi hz0 hz1 hz2 rfl (by decide) _ _ _ rfl (owns_later2 HX.out.1 hA3) ⟨wr.heap.size, 0, none⟩ 1 1 [.bool n1, .slice ao1 l1 c1] rfl rfl (World.news_of_block (cs := #[.bool n1, .slice ao1 l1 c1]) (t := 28) (fr := (0, 0)) (heap_alloc_new wr _)) (by simp [Value.oneCell']) h63.out hby.out (Nat.le_trans hbel.size hA3.size) ?_; intro v4 w4 hown4 hgrow hnil)
      go_roundw
      case rel =>
        refine ⟨k + 1, by omega, by (have := HMI.out; simp only [Value.int.injEq, true_and] <;> omega), grown_owns2 (bnext hbel hA3) (Nat.le_trans hbel.size hA3.size) (owns_later2 HX.out.1 hA3) hgrow, ?_⟩
        rw [tab_succ, ← HI.out.2]
        exact lat_push (tab_len _ _).symm (owns_later2 HX.out.1 hA3) HX.out.2.1 HI.out.1 hown4
      case measure => simp [intOf] <;> omega
    · obtain rfl : k = len := by omega
      have z0 : (k : Int) - 1 - (k : Int) = -1 := by omega
      rw [z0]
      have HP : Hid (PolyAt wr vo k vc p.reverse ∧ (trimL p.reverse).length ≤ k) := ⟨by rw [HR.out.2.2.2]; exact HX.out.2.2.poly hbel, by rw [trimL_len]; exact Nat.le_trans (trimN_le _ _) (by rw [List.length_reverse]; have := HR.out.2.2.1; omega)⟩
      go_wp2_with (go_at_call 30; refine (ptrim_any vo k vc p.reverse _ HP.out.1 (by omega)).mono ?_; rintro e w2 ⟨m, hm, rfl, hp2, hb2⟩; clear hm)
      go_ret
      exact ⟨_, _, _, rfl, hp2, bnext hbel hb2⟩
end Go.Proofs.YtdanaebhjkbfmaaGreat
/-
  Walks: poly's small ones: sums, differences, products of numbers, a coefficient, room, what is trimmed; Check of whatever lies there.
-/
namespace Go.Proofs.YtdanaebhjkbfmaaGreat
open Go.RowKit
set_option linter.unusedVariables false
set_option linter.unusedSimpArgs false
/-- the t-th of a list -/
def rv (rs : List (Bool × List Int)) (t : Nat) : Bool × List Int := rs.getD t (false, [])
theorem rv_eq {rs : List (Bool × List Int)} {t : Nat} (h : t < rs.length) : rv rs t = rs[t] := by unfold rv; rw [List.getD_eq_getElem?_getD, List.getElem?_eq_getElem h]; rfl
theorem RawsAt.at {w : World} {ao : Option Addr} {len cap k : Nat} {rs : List (Bool × List Int)} (h : RawsAt w ao len cap rs) (hk : k < len) : ∃ b off n1 ao1 l1 c1, ao = some ⟨b, off, none⟩ ∧ w.cell? ⟨b, off + k * 2, none⟩ = some (.bool n1) ∧ w.cell? ⟨b, off + k * 2 + 1, none⟩ = some (.slice ao1 l1 c1) ∧ n1 = (rv rs k).1 ∧ RowAt w .u64 ao1 l1 c1 (rv rs k).2 ∧ Wd 18446744073709551616 (rv rs k).2 := by
  have hk2 : k < rs.length := by rw [← h.hlen]; exact hk
  obtain ⟨b, off, h1, hat⟩ := h.get (by omega)
  obtain ⟨ao1, l1, c1, ⟨h0, h1'⟩, hr, hw⟩ := hat k hk2
  rw [rv_eq hk2]
  exact ⟨b, off, _, ao1, l1, c1, h1, h0, h1', rfl, hr, hw⟩
set_option maxRecDepth 100000 in
set_option maxHeartbeats 2000000 in
theorem pcheck_is (ao : Option Addr) (len cap : Nat) (rs : List (Bool × List Int)) (w : World) (hr : RawsAt w ao len cap rs) (hl : len ≤ 1000) (hlim : ∀ t, (rv rs t).2.length ≤ 100000) (c : Int) (hc : (if pmayB len rs then 0 else 50 : Int) = c) :
    Calls Tryz.prog 54 #[.slice ao len cap] w fun e w' => e = .returned (.int .i64 c) ∧ Below w.heap.size w w' := by
  have hl1 : ¬ ((1025 : Int) < (len : Int)) := by omega
  have HR : Hid (RawsAt w ao len cap rs ∧ (∀ t, (rv rs t).2.length ≤ 100000) ∧ len = rs.length) := ⟨hr, hlim, hr.hlen⟩
  clear hr hlim
  by_cases h0 : len = 0
  · subst h0
    obtain rfl : rs = [] := List.eq_nil_of_length_eq_zero HR.out.2.2.symm
    obtain rfl : c = 0 := by rw [← hc]; rfl
    clear hc
    go_enter Tryz.func54, Tryz.ntmps54
    go_wp2
    go_loopw [24] (fun i wr => i = .int .i64 0 ∧ wr = w) (fun i _ => 0)
    case atStart => exact ⟨rfl, rfl⟩
    case round =>
      obtain ⟨rfl, rfl⟩ := hrel
      go_wp2
      go_ret
      exact ⟨rfl, Below.refl _ _⟩
  · obtain ⟨b, off, n1, ao1, l1, c1, rfl, h1, h2, hn1, hrow, hw1⟩ := HR.out.1.at (show len - 1 < len by omega)
    clear hn1 hw1
    have hidx : (len : Int) - 1 = ((len - 1 : Nat) : Int) := by omega
    have hk1 : len - 1 < len := by omega
    have hpos : (0 : Int) < (len : Int) := by omega
    have hlr : l1 = (rv rs (len - 1)).2.length := hrow.hlen
    clear hrow
    by_cases hz : l1 = 0
    · have hcz : ∀ W', Calls Tryz.prog 81 #[.agg #[.bool n1, .slice ao1 l1 c1]] W' fun e w' => e = .returned (.bool true) ∧ Below W'.heap.size W' w' := fun W' => isZero_any n1 ao1 l1 c1 W' true (by simp; omega)
      obtain rfl : c = 50 := by
        rw [← hc, if_neg]
        intro hm
        have := (pmayB_true hm).2.2 (by omega)
        exact this (List.eq_nil_of_length_eq_zero (by show (rv rs (len - 1)).2.length = 0; omega))
      clear hc hz hlr h0
      go_enter Tryz.func54, Tryz.ntmps54
      go_wp2_with (go_at_call 81; refine (hcz _).mono ?_; rintro e w1 ⟨rfl, hb1⟩)
      go_ret
      exact ⟨rfl, hb1⟩
    · have hcz : ∀ W', Calls Tryz.prog 81 #[.agg #[.bool n1, .slice ao1 l1 c1]] W' fun e w' => e = .returned (.bool false) ∧ Below W'.heap.size W' w' := fun W' => isZero_any n1 ao1 l1 c1 W' false (by simp; omega)
      have HC : Hid ((if rs.all (fun r => mayB r.1 r.2) then 0 else 50 : Int) = c) := by
        show _ = _
        rw [← hc]
        have e1 : (rs.getD (len - 1) (false, [])).2 ≠ [] := fun e => hz (by rw [hlr]; show (rs.getD (len - 1) (false, [])).2.length = 0; rw [e]; rfl)
        have e2 : pmayB len rs = rs.all (fun r => mayB r.1 r.2) := by
          unfold pmayB
          rw [decide_eq_true (show len ≤ 1025 by omega), decide_eq_true e1, Bool.or_true, Bool.and_true, Bool.true_and]
        rw [e2]
      clear hc hz hlr h0
      go_enter Tryz.func54, Tryz.ntmps54
      go_wp2_with (go_at_call 81; refine (hcz _).mono ?_; rintro e w1 ⟨rfl, hb1⟩)
      go_loopw [24] (fun i wr => ∃ k : Nat, k ≤ len ∧ i = .int .i64 k ∧ Below w.heap.size w wr ∧ ∀ t, (ht : t < rs.length) → t < k → mayB (rs[t]).1 (rs[t]).2 = true) (fun i _ => len - (intOf i).toNat)
      case atStart => exact ⟨0, Nat.zero_le _, rfl, hb1, fun t _ h => absurd h (by omega)⟩
      case round =>
        clear h1 h2
        obtain ⟨k, hk, rfl, hbel, hz⟩ := hrel
        have HZ : Hid (∀ t, (ht : t < rs.length) → t < k → mayB (rs[t]).1 (rs[t]).2 = true) := hz
        clear hz
        by_cases hlt : k < len
        · obtain ⟨b', off', n2, ao2, l2, c2, he, h1, h2, hn2, hrow, hw2⟩ := (HR.out.1.later hbel).at hlt
          clear hw2
          cases he
          have hA : Below wr.heap.size wr (wr.alloc (.cells #[.bool n2, .slice ao2 l2 c2] 28)) := (Below.refl _ _).alloc (Nat.le_refl _) _
          have hl2 : l2 ≤ 100000 := by rw [hrow.hlen]; exact HR.out.2.1 k
          have hkr : k < rs.length := by rw [← HR.out.2.2]; exact hlt
          obtain ⟨d, hd⟩ : ∃ d, mayB n2 (rv rs k).2 = d := ⟨_, rfl⟩
          have HD : Hid (mayB (rv rs k).1 (rv rs k).2 = d) := by show _ = d; rw [← hn2]; exact hd
          have hcon : ∀ c', (if d then 0 else 10 : Int) = c' → Calls Tryz.prog 62 #[.agg #[.bool n2, .slice ao2 l2 c2]] (wr.alloc (.cells #[.bool n2, .slice ao2 l2 c2] 28)) fun e w' => e = .returned (.int .i64 c') ∧ Below (wr.alloc (.cells #[.bool n2, .slice ao2 l2 c2] 28)).heap.size (wr.alloc (.cells #[.bool n2, .slice ao2 l2 c2] 28)) w' := fun c' hc' => check_at n2 ao2 l2 c2 _ _ (hrow.later hA) (by omega) c' (by rw [hd]; exact hc')
          have HKR : Hid (k < rs.length) := hkr
          clear hrow hn2 hd hkr
          cases d
          · have hcon := hcon 10 rfl
            obtain rfl : c = 50 := by
              rw [← HC.out, if_neg]
              rw [List.all_eq_true]
              intro h
              have := h _ (List.getElem_mem HKR.out)
              rw [← rv_eq HKR.out, HD.out] at this
              cases this
            go_wp2_with (go_at_call 62; refine hcon.mono ?_; rintro e w2 ⟨rfl, hb2⟩)
            go_ret
            exact ⟨rfl, bnext hbel (bnext hA hb2)⟩
          · have hcon := hcon 0 rfl
            go_wp2_with (go_at_call 62; refine hcon.mono ?_; rintro e w2 ⟨rfl, hb2⟩)
            go_roundw
            case rel => exact ⟨k + 1, by omega, by go_num, bnext hbel (bnext hA hb2), fun t ht htk => by
              by_cases e : t = k
              · subst e; rw [← rv_eq ht]; exact HD.out
              · exact HZ.out t ht (by omega)⟩
            case measure => simp [intOf]; omega
        · obtain rfl : k = len := by omega
          obtain rfl : c = 0 := by
            rw [← HC.out, if_pos]
            rw [List.all_eq_true]
            intro r hr
            obtain ⟨t, ht, rfl⟩ := List.getElem_of_mem hr
            exact HZ.out t ht (by rw [HR.out.2.2]; exact ht)
          go_wp2
          go_ret
          exact ⟨rfl, hbel⟩
end Go.Proofs.YtdanaebhjkbfmaaGreat
/-
  Walks: poly's product, in memory of its own.
-/
namespace Go.Proofs.YtdanaebhjkbfmaaGreat
open Go.RowKit
set_option linter.unusedVariables false
set_option linter.unusedSimpArgs false
theorem PMulSt.skip {p s l : List Int} {i : Nat} (h : PMulSt p s i 0 l) (hi : i < p.length) (h0 : dig p i = 0) : PMulSt p s (i + 1) 0 l := by
  refine ⟨h.1, fun x => ?_⟩
  rw [h.2 x, ev_take _ _ _ hi, h0]
  simp [ev]
end Go.Proofs.YtdanaebhjkbfmaaGreat
/-
  Walks: poly's faces, of whatever is handed in.
-/
namespace Go.Proofs.YtdanaebhjkbfmaaGreat
open Go.RowKit
set_option linter.unusedVariables false
set_option linter.unusedSimpArgs false
/-- what is handed in: m tells whether it is a polynomial -/
structure PArg (w : World) (ao : Option Addr) (len cap : Nat) (rs : List (Bool × List Int)) (m : Bool) (p : List Int) : Prop where
  raws : RawsAt w ao len cap rs
  short : len ≤ 11
  lims : ∀ t, (rv rs t).2.length ≤ 3
  may : pmayB len rs = m
  good : m = true → PolyAt w ao len cap p ∧ Lead p ∧ Lim 3 p
theorem PArg.later {w w' : World} {ao : Option Addr} {len cap : Nat} {rs : List (Bool × List Int)} {m : Bool} {p : List Int} (h : PArg w ao len cap rs m p) (hb : Below w.heap.size w w') : PArg w' ao len cap rs m p :=
  ⟨h.raws.later hb, h.short, h.lims, h.may, fun e => ⟨(h.good e).1.later hb, (h.good e).2⟩⟩
def bad1 (m : Bool) : Int := if m then 0 else 50
/-- the product -/
def mulP (p s : List Int) : List Int := if p.length = 0 ∨ s.length = 0 then [] else mulL p s
end Go.Proofs.YtdanaebhjkbfmaaGreat
/-
  Walks: changes of signs, the page's and bound's; the page's Stretch.
-/
namespace Go.Proofs.YtdanaebhjkbfmaaGreat
open Go.RowKit
set_option linter.unusedVariables false
set_option linter.unusedSimpArgs false
/-- one number more: how many changes, the last sign -/
def chF (s : Int) (x : Int × Int) : Int × Int := if s = 0 then x else (if x.2 ≠ 0 ∧ s ≠ x.2 then x.1 + 1 else x.1, s)
def chN (p : List Int) : Nat → Int × Int
  | 0 => (0, 0)
  | k + 1 => chF (cmpI (dig p k) 0) (chN p k)
theorem cmpI_three (a b : Int) : cmpI a b = -1 ∨ cmpI a b = 0 ∨ cmpI a b = 1 := by unfold cmpI; split <;> (try split) <;> simp
theorem chN_bnd (p : List Int) (k : Nat) : (0 ≤ (chN p k).1 ∧ (chN p k).1 ≤ k) ∧ ((chN p k).2 = -1 ∨ (chN p k).2 = 0 ∨ (chN p k).2 = 1) := by
  induction k with
  | zero => simp [chN]
  | succ k ih =>
    have e : chN p (k + 1) = chF (cmpI (dig p k) 0) (chN p k) := rfl
    rw [e]
    unfold chF
    have := cmpI_three (dig p k) 0
    split
    · omega
    · refine ⟨?_, this⟩
      show 0 ≤ (ite _ _ _) ∧ (ite _ _ _) ≤ _
      split <;> omega
set_option maxRecDepth 100000 in
set_option maxHeartbeats 2000000 in
theorem pchanges_any (ao : Option Addr) (len cap : Nat) (p : List Int) (w : World) (hp : PolyAt w ao len cap p) (hl : len ≤ 1000) (hlim : Lim 100000 p) (c : Int) (hc : (chN p len).1 = c) :
    Calls Tryz.prog 10 #[.slice ao len cap] w fun e w' => e = .returned (.int .i64 c) ∧ Below w.heap.size w w' := by
  have HR : Hid (PolyAt w ao len cap p ∧ Lim 100000 p ∧ len = p.length ∧ (chN p len).1 = c) := ⟨hp, hlim, hp.hlen, hc⟩
  have hw1 : IntKind.i64.wrap (-1) = -1 := by decide
  have hw2 : IntKind.i64.wrap 1 = 1 := by decide
  clear hp hlim hc
  go_enter Tryz.func10, Tryz.ntmps10
  go_wp2
  go_loopw [3, 4, 5] (fun n la i wr => ∃ (k : Nat) (nn ll : Int), k ≤ len ∧ i = .int .i64 (k : Int) ∧ n = .int .i64 nn ∧ la = .int .i64 ll ∧ Below w.heap.size w wr ∧ chN p k = (nn, ll)) (fun _ _ i _ => len - (intOf i).toNat)
  case atStart => exact ⟨0, 0, 0, Nat.zero_le _, rfl, rfl, rfl, Below.refl _ _, rfl⟩
  case round =>
    obtain ⟨k, nn, ll, hk, rfl, rfl, rfl, hbel, hst⟩ := hrel
    have HS : Hid (chN p k = (nn, ll)) := hst
    have hb := chN_bnd p k
    rw [hst] at hb
    obtain ⟨⟨hn0, hn1⟩, hll⟩ := hb
    clear hst
    by_cases hlt : k < len
    · obtain ⟨b, off, n1, ao1, l1, c1, rfl, f0, f1, hi1⟩ := (HR.out.1.later hbel).at hlt
      have hl1 : l1 ≤ 100000 := by rw [hi1.lim]; exact HR.out.2.1 k
      have HI : Hid (IntAt wr n1 ao1 l1 c1 (dig p k)) := hi1
      have z1 : (0 : Int) ≤ (k : Int) := by omega
      have z2 : (k : Int) < (len : Int) := by omega
      have z3 : nn ≤ 1000 := by omega
      have z4 : 0 ≤ nn := hn0
      obtain ⟨s, hs⟩ : ∃ s, cmpI (dig p k) 0 = s := ⟨_, rfl⟩
      have HC : Hid (cmpI (dig p k) 0 = s) := hs
      have hs3 := cmpI_three (dig p k) 0
      rw [hs] at hs3
      simp only at hll
      clear hi1 hs hn0 hn1
      rcases hs3 with rfl | rfl | rfl <;> rcases hll with rfl | rfl | rfl
      all_goals
        go_wp2_with (go_at_call 31; refine (rsign_any n1 ao1 l1 c1 (dig p k) _ HI.out (by omega) _ HC.out).mono ?_; rintro e w1 ⟨rfl, hb1⟩)
        go_roundw
      all_goals first
        | (case rel => exact ⟨k + 1, _, _, by omega, by go_num, by go_num, by go_num, bnext hbel hb1, by show chF _ _ = _; rw [HC.out, HS.out]; simp [chF]⟩)
        | (case measure => simp [intOf]; omega)
    · obtain rfl : k = len := by omega
      go_wp2
      go_ret
      exact ⟨by have h1 := HR.out.2.2.2; rw [HS.out] at h1; exact congrArg (fun x => Ending.returned (Value.int .i64 x)) h1, hbel⟩
set_option maxRecDepth 100000 in
set_option maxHeartbeats 2000000 in
theorem bchanges_any (ao : Option Addr) (len cap : Nat) (p : List Int) (w : World) (hp : PolyAt w ao len cap p) (hl : len ≤ 1000) (hlim : Lim 100000 p) (hL : Lead p) (c : Int) (hc : (chN p len).1 = c) :
    Calls Tryz.prog 21 #[.slice ao len cap] w fun e w' => e = .returned (.int .i64 c) ∧ Below w.heap.size w w' := by
  have HR : Hid (PolyAt w ao len cap p ∧ Lim 100000 p ∧ len = p.length ∧ (chN p len).1 = c) := ⟨hp, hlim, hp.hlen, hc⟩
  have hw1 : IntKind.i64.wrap (-1) = -1 := by decide
  have hw2 : IntKind.i64.wrap 1 = 1 := by decide
  have hchk := pcheck_ok ao len cap p w hp (by omega) hL (hlim.mono (by decide))
  clear hp hlim hc hL
  go_enter Tryz.func21, Tryz.ntmps21
  go_wp2_with (go_at_call 54; refine hchk.mono ?_; rintro e w0 ⟨rfl, hb0⟩)
  go_loopw [3, 4, 13] (fun n la i wr => ∃ (k : Nat) (nn ll : Int), k ≤ len ∧ i = .int .i64 (k : Int) ∧ n = .int .i64 nn ∧ la = .int .i64 ll ∧ Below w.heap.size w wr ∧ chN p k = (nn, ll)) (fun _ _ i _ => len - (intOf i).toNat)
  case atStart => exact ⟨0, 0, 0, Nat.zero_le _, rfl, rfl, rfl, hb0, rfl⟩
  case round =>
    obtain ⟨k, nn, ll, hk, rfl, rfl, rfl, hbel, hst⟩ := hrel
    have HS : Hid (chN p k = (nn, ll)) := hst
    have hb := chN_bnd p k
    rw [hst] at hb
    obtain ⟨⟨hn0, hn1⟩, hll⟩ := hb
    clear hst
    by_cases hlt : k < len
    · obtain ⟨b, off, n1, ao1, l1, c1, rfl, f0, f1, hi1⟩ := (HR.out.1.later hbel).at hlt
      have hl1 : l1 ≤ 100000 := by rw [hi1.lim]; exact HR.out.2.1 k
      have HI : Hid (IntAt wr n1 ao1 l1 c1 (dig p k)) := hi1
      have z1 : (0 : Int) ≤ (k : Int) := by omega
      have z2 : (k : Int) < (len : Int) := by omega
      have z3 : nn ≤ 1000 := by omega
      have z4 : 0 ≤ nn := hn0
      obtain ⟨s, hs⟩ : ∃ s, cmpI (dig p k) 0 = s := ⟨_, rfl⟩
      have HC : Hid (cmpI (dig p k) 0 = s) := hs
      have hs3 := cmpI_three (dig p k) 0
      rw [hs] at hs3
      simp only at hll
      clear hi1 hs hn0 hn1
      have hA : Below wr.heap.size wr (wr.alloc (.cells #[.bool n1, .slice ao1 l1 c1] 28)) := (Below.refl _ _).alloc (Nat.le_refl _) _
      have HI2 : Hid (IntAt (wr.alloc (.cells #[.bool n1, .slice ao1 l1 c1] 28)) n1 ao1 l1 c1 (dig p k)) := HI.out.later hA
      rcases hs3 with rfl | rfl | rfl <;> rcases hll with rfl | rfl | rfl
      all_goals
        go_wp2_with (go_at_call 55; refine (bsign_any n1 ao1 l1 c1 (dig p k) _ HI2.out (by omega) _ HC.out).mono ?_; rintro e w1 ⟨rfl, hb1⟩)
        go_roundw
      all_goals first
        | (case rel => exact ⟨k + 1, _, _, by omega, by go_num, by go_num, by go_num, bnext hbel (bnext hA hb1), by show chF _ _ = _; rw [HC.out, HS.out]; simp [chF]⟩)
        | (case measure => simp [intOf]; omega)
    · obtain rfl : k = len := by omega
      go_wp2
      go_ret
      exact ⟨by have h1 := HR.out.2.2.2; rw [HS.out] at h1; exact congrArg (fun x => Ending.returned (Value.int .i64 x)) h1, hbel⟩
/-- stretched by a number of any sign -/
def stZ (K : Int) (p : List Int) : List Int := tab p.length fun t => dig p t * ((2 ^ (if K < 0 then (-K).toNat * (p.length - 1 - t) else K.toNat * t) : Nat) : Int)
theorem stZ_len (K : Int) (p : List Int) : (stZ K p).length = p.length := tab_len _ _
theorem two_lim (n : Nat) (h : n ≤ 640) : lim ((2 ^ n : Nat) : Int) ≤ 641 := by
  have q := mag_len_two n
  unfold lim
  rw [Int.natAbs_natCast]
  omega
theorem stZ_lim {K : Int} {p : List Int} {L : Nat} (h : Lim L p) (hp : p.length ≤ 11) (h1 : -64 ≤ K) (h2 : K ≤ 64) : Lim (L + 641) (stZ K p) := tab_lim fun t ht => by
  refine Nat.le_trans (lim_mul _ _) (Nat.add_le_add (h t) (two_lim _ ?_))
  split
  · exact Nat.le_trans (Nat.mul_le_mul (show (-K).toNat ≤ 64 by omega) (show p.length - 1 - t ≤ 10 by omega)) (by decide)
  · exact Nat.le_trans (Nat.mul_le_mul (show K.toNat ≤ 64 by omega) (show t ≤ 10 by omega)) (by decide)
set_option maxRecDepth 100000 in
set_option maxHeartbeats 2000000 in
theorem pstretch_any (ao : Option Addr) (len cap : Nat) (K : Int) (p : List Int) (w : World) (hp : PolyAt w ao len cap p) (hl : len ≤ 11) (hlim : Lim 1000 p) (h1 : -64 ≤ K) (h2 : K ≤ 64) :
    Calls Tryz.prog 12 #[.slice ao len cap, .int .i64 K] w fun e w' => NewPoly w w' e (stZ K p) := by
  have HR : Hid (PolyAt w ao len cap p ∧ Lim 1000 p ∧ len = p.length ∧ stZ K p = tab len fun t => dig p t * ((2 ^ (if K < 0 then (-K).toNat * (len - 1 - t) else K.toNat * t) : Nat) : Int)) := ⟨hp, hlim, hp.hlen, by rw [hp.hlen]; rfl⟩
  clear hp hlim
  obtain ⟨i0, hi, hz0, hz1, hz2⟩ := info_parts infoInt
  obtain ⟨F, hF⟩ : ∃ F : Nat → Int, F = fun t => dig p t * ((2 ^ (if K < 0 then (-K).toNat * (len - 1 - t) else K.toNat * t) : Nat) : Int) := ⟨_, rfl⟩
  have HF : Hid (stZ K p = tab len F ∧ ∀ t m : Nat, m = (if K < 0 then (-K).toNat * (len - 1 - t) else K.toNat * t) → F t = dig p t * ((2 ^ m : Nat) : Int)) := ⟨by rw [hF]; exact HR.out.2.2.2, fun t m hm => by rw [hF, hm]⟩
  clear hF
  go_enter Tryz.func12, Tryz.ntmps12
  go_wp2
  go_loopw [5, 6] (fun v i wr => ∃ k : Nat, k ≤ len ∧ i = .int .i64 (k : Int) ∧ Below w.heap.size w wr ∧ LRow w.heap.size wr v (rsOf (tab k F))) (fun _ i _ => len - (intOf i).toNat)
  case atStart => exact ⟨0, Nat.zero_le _, rfl, Below.refl _ _, LRow.nil _ _⟩
  case round =>
    obtain ⟨k, hk, rfl, hbel, hL⟩ := hrel
    have HLR := hL
    obtain ⟨xs, hown, hx⟩ := hL
    rw [rsOf_len, tab_len] at hown
    obtain ⟨vo, vc, rfl, _⟩ := lrow_cells hown
    have HX : Hid (wr.ownsRow w.heap.size 28 2 (.slice vo k vc) k xs ∧ Elems w.heap.size wr xs (rsOf (tab k F)) ∧ LRow w.heap.size wr (.slice vo k vc) (rsOf (tab k F))) := ⟨hown, hx, HLR⟩
    clear hown hx HLR
    by_cases hlt : k < len
    · have h63 : Hid (k + 1 ≤ maxLen) := by show _ ≤ _; unfold maxLen; omega
      have hby : Hid ((k + 1) * 32 ≤ 140737488355328) := by show _ ≤ _; omega
      obtain ⟨b, off, n1, ao1, l1, c1, rfl, f0, f1, hi1⟩ := (HR.out.1.later hbel).at hlt
      have hl1 : l1 ≤ 1000 := by rw [hi1.lim]; exact HR.out.2.1 k
      have HI : Hid (IntAt wr n1 ao1 l1 c1 (dig p k)) := hi1
      have z1 : (0 : Int) ≤ (k : Int) := by omega
      have z2 : (k : Int) < (len : Int) := by omega
      obtain ⟨m, hm⟩ : ∃ m : Nat, m = (if K < 0 then (-K).toNat * (len - 1 - k) else K.toNat * k) := ⟨_, rfl⟩
      have hm2 : m ≤ 640 := by
        rw [hm]
        split
        · exact Nat.le_trans (Nat.mul_le_mul (show (-K).toNat ≤ 64 by omega) (show len - 1 - k ≤ 10 by omega)) (by decide)
        · exact Nat.le_trans (Nat.mul_le_mul (show K.toNat ≤ 64 by omega) (show k ≤ 10 by omega)) (by decide)
      have HM : Hid (F k = dig p k * ((2 ^ m : Nat) : Int)) := HF.out.2 k m hm
      have hcon := fun W' (h : IntAt W' n1 ao1 l1 c1 (dig p k)) => rleft_any n1 ao1 l1 c1 m (dig p k) W' h (by omega) (by omega)
      clear hi1
      by_cases hK : K < 0
      · rw [if_pos hK] at hm
        have y1 : ((k : Int) - ((len : Int) - 1)) * K = (m : Int) := by
          rw [hm, Int.natCast_mul, Int.toNat_of_nonneg (by omega), show ((len - 1 - k : Nat) : Int) = (len : Int) - 1 - (k : Int) by omega, Int.mul_comm, ← Int.neg_mul_neg]
          congr 1; omega
        have y2 : -640 ≤ (k : Int) * K ∧ (k : Int) * K ≤ 0 := by
          constructor
          · have : (k : Int) * (-K) ≤ 10 * 64 := Int.mul_le_mul (by omega) (by omega) (by omega) (by omega)
            rw [Int.mul_neg] at this; omega
          · exact Int.mul_nonpos_of_nonneg_of_nonpos (by omega) (by omega)
        obtain ⟨kk, hkk⟩ : ∃ kk, (k : Int) * K = kk := ⟨_, rfl⟩
        obtain ⟨y3, y4⟩ := y2
        rw [hkk] at y3 y4
        clear hm
        go_wp2_with (first
          | (at_builtin; refine wpList_append_own _ rfl _ _ 24 rfl w.heap.size 28 i0 (.agg #[.bool false, .slice none 0 0]) 2 32 Tryz.underlying24 hi hz0 hz1 hz2 rfl (by decide) _ _ _ rfl (owns_later2 HX.out.1 hA3) ⟨w3.heap.size, 0, none⟩ 1 1 [.bool n2, .slice ao3 l3 c3] rfl rfl (World.news_of_block (cs := #[.bool n2, .slice ao3 l3 c3]) (t := 28) (fr := (0, 0)) (heap_alloc_new w3 _)) (by simp [Value.oneCell']) h63.out hby.out (Nat.le_trans hbel.size hA3.size) ?_; intro v4 w4 hown4 hgrow hnil)
          | (go_at_call 36; refine (pdeg_any _ len cap _ (by omega)).mono ?_; rintro e w2 ⟨rfl, hb2⟩; replace f0 := (hb2.cell (p := ⟨b, off + k * 2, none⟩) (cell_lt f0)).trans f0; replace f1 := (hb2.cell (p := ⟨b, off + k * 2 + 1, none⟩) (cell_lt f1)).trans f1)
          | (go_at_call 37; refine (hcon _ (HI.out.later hb2)).mono ?_; rintro e w3 ⟨n2, ao3, l3, c3, rfl, hs3, ho3, hb3⟩; have H3 : Hid (n2 = sgB (dig p k * ((2 ^ m : Nat) : Int)) ∧ Own w.heap.size w3 .u64 73 ao3 l3 c3 (mag (dig p k * ((2 ^ m : Nat) : Int)).natAbs)) := ⟨hs3, ho3.mono (Nat.le_trans hbel.size hb2.size)⟩; have hA3 : Below wr.heap.size wr (w3.alloc (.cells #[.bool n2, .slice ao3 l3 c3] 28)) := bnext (bnext hb2 hb3) ((Below.refl _ _).alloc (Nat.le_refl _) _); clear hs3 ho3))
        go_roundw
        case rel =>
          refine ⟨k + 1, by omega, by go_num, grown_owns2 (bnext hbel hA3) (Nat.le_trans hbel.size hA3.size) (owns_later2 HX.out.1 hA3) hgrow, ?_⟩
          rw [rsOf_tab, HM.out, ← H3.out.1]
          exact lrow_push (by rw [rsOf_len, tab_len]) (owns_later2 HX.out.1 hA3) (HX.out.2.1.later hA3) (own_alloc H3.out.2) hown4 hgrow
        case measure => simp [intOf]; omega
      · rw [if_neg hK] at hm
        have y1 : (k : Int) * K = (m : Int) := by rw [hm, Int.natCast_mul, Int.toNat_of_nonneg (by omega), Int.mul_comm]
        clear hm
        go_wp2_with (first
          | (at_builtin; refine wpList_append_own _ rfl _ _ 24 rfl w.heap.size 28 i0 (.agg #[.bool false, .slice none 0 0]) 2 32 Tryz.underlying24 hi hz0 hz1 hz2 rfl (by decide) _ _ _ rfl (owns_later2 HX.out.1 hA3) ⟨w3.heap.size, 0, none⟩ 1 1 [.bool n2, .slice ao3 l3 c3] rfl rfl (World.news_of_block (cs := #[.bool n2, .slice ao3 l3 c3]) (t := 28) (fr := (0, 0)) (heap_alloc_new w3 _)) (by simp [Value.oneCell']) h63.out hby.out (Nat.le_trans hbel.size hA3.size) ?_; intro v4 w4 hown4 hgrow hnil)
          | (go_at_call 37; refine (hcon _ HI.out).mono ?_; rintro e w3 ⟨n2, ao3, l3, c3, rfl, hs3, ho3, hb3⟩; have H3 : Hid (n2 = sgB (dig p k * ((2 ^ m : Nat) : Int)) ∧ Own w.heap.size w3 .u64 73 ao3 l3 c3 (mag (dig p k * ((2 ^ m : Nat) : Int)).natAbs)) := ⟨hs3, ho3.mono hbel.size⟩; have hA3 : Below wr.heap.size wr (w3.alloc (.cells #[.bool n2, .slice ao3 l3 c3] 28)) := bnext hb3 ((Below.refl _ _).alloc (Nat.le_refl _) _); clear hs3 ho3))
        go_roundw
        case rel =>
          refine ⟨k + 1, by omega, by go_num, grown_owns2 (bnext hbel hA3) (Nat.le_trans hbel.size hA3.size) (owns_later2 HX.out.1 hA3) hgrow, ?_⟩
          rw [rsOf_tab, HM.out, ← H3.out.1]
          exact lrow_push (by rw [rsOf_len, tab_len]) (owns_later2 HX.out.1 hA3) (HX.out.2.1.later hA3) (own_alloc H3.out.2) hown4 hgrow
        case measure => simp [intOf]; omega
    · obtain rfl : k = len := by omega
      go_wp2
      go_ret
      refine ⟨vo, k, vc, rfl, ?_, hbel⟩
      rw [HF.out.1]
      exact HX.out.2.2.polyAt
end Go.Proofs.YtdanaebhjkbfmaaGreat
