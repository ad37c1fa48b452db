/-
  Lists that are made by append, of numbers of the call's own; the page's At, Trim, Plus, Scale, Neg, Less, Der, Lead, Cmp.
-/
import Derived.Test.YtdanaebhjkbfmaaGreatPH05
import Derived.Test.YtdanaebhjkbfmaaGreatPH07
import Derived.Test.YtdanaebhjkbfmaaGreatPH12
import Derived.Test.YtdanaebhjkbfmaaGreatPH13
namespace Go.Proofs.YtdanaebhjkbfmaaGreat
open Go.RowKit
set_option linter.unusedVariables false
set_option linter.unusedSimpArgs false
theorem owns_later2 {w w' : World} {B n s : Nat} {t : TypeId} {v : Value} {xs : List Value} (h : w.ownsRow B t s v n xs) (hb : Below w.heap.size w w') : w'.ownsRow B t s v n xs := by
  refine ⟨h.1, ?_⟩
  rcases h.2 with hv | ⟨g, cap, cur, hv, hg, hh, hrest⟩
  · exact Or.inl hv
  · exact Or.inr ⟨g, cap, cur, hv, hg, by rw [hb.block g (heap_lt hh)]; exact hh, hrest⟩
theorem grown_owns2 {w0 w w' : World} {B n s : Nat} {t : TypeId} {v : Value} {xs : List Value} (hb : Below B w0 w) (hB : B ≤ w.heap.size) (ho : w.ownsRow B t s v n xs) (hg : w.grownBy w' v.ownBlock) : Below B w0 w' := by
  refine hb.grown hg hB fun k hk => ?_
  rcases ho.2 with ⟨rfl, _⟩ | ⟨g, cap, cur, rfl, h1, _⟩
  · cases hk
  · simp only [Value.ownBlock, Option.some.injEq] at hk
    omega
theorem own_grown2 {B B' n s : Nat} {w w' : World} {k : IntKind} {t t' : TypeId} {v : Value} {xs : List Value} {ao : Option Addr} {len cap : Nat} {zs : List Int} (h : Own B w k t ao len cap zs) (ho : w.ownsRow B' t' s v n xs) (hg : w.grownBy w' v.ownBlock) (hne : t ≠ t') : Own B w' k t ao len cap zs := by
  rcases h with h | ⟨g, off, cur, h1, h2, h3, h4⟩
  · exact Or.inl h
  · refine Or.inr ⟨g, off, cur, h1, h2, ?_, h4⟩
    rw [hg.block g (heap_lt h3) ?_]
    · exact h3
    · intro e
      rcases ho.2 with ⟨rfl, _⟩ | ⟨g', cap', cur', rfl, hg', hh, _⟩
      · cases e
      · simp only [Value.ownBlock, Option.some.injEq] at e
        subst e
        rw [h3] at hh
        simp only [Option.some.injEq, Obj.cells.injEq] at hh
        exact hne hh.2.1
/-- the elements of a list made by append -/
def Elems (B : Nat) (w : World) (xs : List Value) (rs : List (Bool × List Int)) : Prop := ∀ t, (ht : t < rs.length) → ∃ ao l c, xs[t * 2]? = some (.bool (rs[t]).1) ∧ xs[t * 2 + 1]? = some (.slice ao l c) ∧ Own B w .u64 73 ao l c (rs[t]).2
def LRow (B : Nat) (w : World) (v : Value) (rs : List (Bool × List Int)) : Prop := ∃ xs, w.ownsRow B 28 2 v rs.length xs ∧ Elems B w xs rs
theorem LRow.nil (B : Nat) (w : World) : LRow B w (.slice none 0 0) [] := ⟨[], World.ownsRow_nil _ _ _ _, fun t ht => absurd ht (by simp)⟩
theorem Elems.later {B : Nat} {w w' : World} {xs : List Value} {rs : List (Bool × List Int)} (h : Elems B w xs rs) (hb : Below w.heap.size w w') : Elems B w' xs rs := fun t ht => by
  obtain ⟨ao, l, c, h0, h1, h2⟩ := h t ht
  exact ⟨ao, l, c, h0, h1, h2.later hb⟩
theorem lrow_push {B m : Nat} {w w' : World} {v v' : Value} {rs : List (Bool × List Int)} {xs : List Value} {n : Bool} {ao : Option Addr} {l c : Nat} {zs : List Int} (hm : m = rs.length) (ho : w.ownsRow B 28 2 v m xs) (hx : Elems B w xs rs) (hn : Own B w .u64 73 ao l c zs) (h' : w'.ownsRow B 28 2 v' (m + 1) (xs ++ [.bool n, .slice ao l c])) (hg : w.grownBy w' v.ownBlock) : LRow B w' v' (rs ++ [(n, zs)]) := by
  subst hm
  have hlx : xs.length = rs.length * 2 := ho.1
  have hr : (rs ++ [(n, zs)]).length = rs.length + 1 := by simp
  refine ⟨xs ++ [.bool n, .slice ao l c], by rw [hr]; exact h', fun t ht => ?_⟩
  rw [hr] at ht
  by_cases e : t < rs.length
  · obtain ⟨ao', l', c', h0, h1, h2⟩ := hx t e
    refine ⟨ao', l', c', ?_, ?_, ?_⟩
    · rw [List.getElem?_append_left (by omega), List.getElem_append_left e]; exact h0
    · rw [List.getElem?_append_left (by omega)]; exact h1
    · rw [List.getElem_append_left e]; exact own_grown2 h2 ho hg (by decide)
  · obtain rfl : t = rs.length := by omega
    refine ⟨ao, l, c, ?_, ?_, ?_⟩
    · rw [List.getElem?_append_right (by omega), hlx, Nat.sub_self]; simp
    · rw [List.getElem?_append_right (by omega), hlx, show rs.length * 2 + 1 - rs.length * 2 = 1 by omega]; simp
    · simp only [List.getElem_append_right (Nat.le_refl _), Nat.sub_self, List.getElem_cons_zero]
      exact own_grown2 hn ho hg (by decide)
theorem lrow_cells {B n : Nat} {w : World} {v : Value} {xs : List Value} (h : w.ownsRow B 28 2 v n xs) : ∃ ao cap, v = .slice ao n cap ∧ n ≤ cap ∧ (ao = none → cap = 0) ∧ (n = 0 ∨ ∃ g, ao = some ⟨g, 0, none⟩ ∧ ∀ j u, xs[j]? = some u → w.cell? ⟨g, j, none⟩ = some u) := by
  obtain ⟨hl, h⟩ := h
  rcases h with ⟨rfl, rfl⟩ | ⟨g, cap, cur, rfl, _, hh, hc, _, hs, ht⟩
  · exact ⟨none, 0, rfl, Nat.le_refl _, fun _ => rfl, Or.inl rfl⟩
  · refine ⟨_, cap, rfl, hc, fun e => (by cases e), Or.inr ⟨g, rfl, fun j u hj => ?_⟩⟩
    rw [← ht] at hj
    have hj2 : j < n * 2 := by
      rcases Nat.lt_or_ge j (n * 2) with q | q
      · exact q
      · rw [List.getElem?_eq_none (by simp; omega)] at hj; cases hj
    rw [List.getElem?_take_of_lt hj2] at hj
    simp [World.cell?, hh]
    simpa using hj
/-- numbers as signs and words -/
def rsOf (l : List Int) : List (Bool × List Int) := l.map fun a => (sgB a, mag a.natAbs)
theorem rsOf_len (l : List Int) : (rsOf l).length = l.length := by simp [rsOf]
theorem rsOf_push (l : List Int) (a : Int) : rsOf (l ++ [a]) = rsOf l ++ [(sgB a, mag a.natAbs)] := by simp [rsOf]
theorem rsOf_tab (k : Nat) (f : Nat → Int) : rsOf (tab (k + 1) f) = rsOf (tab k f) ++ [(sgB (f k), mag (f k).natAbs)] := by rw [tab_succ, rsOf_push]
theorem rsOf_get (l : List Int) (t : Nat) (h : t < (rsOf l).length) : (rsOf l)[t] = (sgB (dig l t), mag (dig l t).natAbs) := by
  have h' : t < l.length := by rwa [rsOf_len] at h
  have e : dig l t = l[t] := by unfold dig; rw [List.getD_eq_getElem?_getD, List.getElem?_eq_getElem h']; rfl
  rw [e]; simp [rsOf]
theorem LRow.poly {B : Nat} {w : World} {v : Value} {l : List Int} (h : LRow B w v (rsOf l)) : ∃ ao cap, v = .slice ao l.length cap ∧ PolyAt w ao l.length cap l := by
  obtain ⟨xs, ho, hx⟩ := h
  rw [rsOf_len] at ho
  obtain ⟨ao, cap, hv, hc, hn, hat⟩ := lrow_cells ho
  refine ⟨ao, cap, hv, rfl, hc, hn, ?_⟩
  rcases hat with h0 | ⟨g, hg, hcell⟩
  · exact Or.inl h0
  · refine Or.inr ⟨g, 0, hg, fun t ht => ?_⟩
    obtain ⟨ao', l', c', h0, h1, h2⟩ := hx t (by rw [rsOf_len]; exact ht)
    rw [rsOf_get] at h0 h2
    rw [Nat.zero_add]
    exact ⟨_, ao', l', c', ⟨hcell _ _ h0, hcell _ _ h1⟩, rfl, h2.row⟩
theorem LRow.raws {B : Nat} {w : World} {v : Value} {rs : List (Bool × List Int)} (h : LRow B w v rs) (hw : ∀ r ∈ rs, Wd 18446744073709551616 r.2) : ∃ ao cap, v = .slice ao rs.length cap ∧ RawsAt w ao rs.length cap rs := by
  obtain ⟨xs, ho, hx⟩ := h
  obtain ⟨ao, cap, hv, hc, hn, hat⟩ := lrow_cells ho
  refine ⟨ao, cap, hv, rfl, hc, hn, ?_⟩
  rcases hat with h0 | ⟨g, hg, hcell⟩
  · exact Or.inl h0
  · refine Or.inr ⟨g, 0, hg, fun t ht => ?_⟩
    obtain ⟨ao', l', c', h0, h1, h2⟩ := hx t ht
    rw [Nat.zero_add]
    exact ⟨ao', l', c', ⟨hcell _ _ h0, hcell _ _ h1⟩, h2.row, hw _ (List.getElem_mem ht)⟩
theorem LRow.polyAt {B k vc : Nat} {w : World} {vo : Option Addr} {l : List Int} (h : LRow B w (.slice vo k vc) (rsOf l)) : PolyAt w vo k vc l := by
  obtain ⟨ao, cap, hv, hp⟩ := h.poly
  simp only [Value.slice.injEq] at hv
  obtain ⟨rfl, rfl, rfl⟩ := hv
  exact hp
theorem owns_base {w : World} {B n m s cap : Nat} {t : TypeId} {ao : Option Addr} {xs : List Value} (h : w.ownsRow B t s (.slice ao m cap) n xs) (a : Addr) (ha : ao = some a) : B ≤ a.block := by
  rcases h.2 with ⟨h, _⟩ | ⟨g, cap', cur, h, hg, _⟩
  · simp only [Value.slice.injEq] at h
    rw [h.1] at ha; cases ha
  · simp only [Value.slice.injEq] at h
    rw [h.1] at ha; cases ha; exact hg
/-- a polynomial whose list is new: what the page's calls hand back -/
def NewPolyB (w w' : World) (e : Ending) (p : List Int) : Prop := ∃ ao len cap, e = .returned (.slice ao len cap) ∧ PolyAt w' ao len cap p ∧ (∀ a : Addr, ao = some a → w.heap.size ≤ a.block) ∧ Below w.heap.size w w'
theorem PolyAt.kept {w : World} {ao : Option Addr} {len cap r : Nat} {p : List Int} (h : PolyAt w ao len cap p) (hf : Fresh w r) (hne : ∀ a : Addr, ao = some a → a.block ≠ r) (x y : Value) : PolyAt ((w.setCell ⟨r, 0, none⟩ x).setCell ⟨r, 1, none⟩ y) ao len cap p := by
  refine ⟨h.hlen, h.hcap, h.hnil, ?_⟩
  rcases h.hat with h0 | ⟨b, off, h1, h2⟩
  · exact Or.inl h0
  · refine Or.inr ⟨b, off, h1, fun t ht => ?_⟩
    have hb := hne _ h1
    obtain ⟨n, ao', l, c, ⟨q0, q1⟩, hi⟩ := h2 t ht
    exact ⟨n, ao', l, c, ⟨by rw [setCell_ne (fun e => hb e.1), setCell_ne (fun e => hb e.1)]; exact q0, by rw [setCell_ne (fun e => hb e.1), setCell_ne (fun e => hb e.1)]; exact q1⟩, hi.sg, hi.row.kept hf _ _⟩
end Go.Proofs.YtdanaebhjkbfmaaGreat
/-
  Walks: the page's At, Trim.
-/
namespace Go.Proofs.YtdanaebhjkbfmaaGreat
open Go.RowKit
set_option linter.unusedVariables false
set_option linter.unusedSimpArgs false
set_option maxRecDepth 100000 in
set_option maxHeartbeats 1000000 in
theorem pat_any (ao : Option Addr) (len cap k : Nat) (p : List Int) (w : World) (hp : PolyAt w ao len cap p) :
    Calls Tryz.prog 59 #[.slice ao len cap, .int .i64 (k : Int)] w fun e w' => RefInt w w' e (dig p k) := by
  have hbW : Below w.heap.size w (w.alloc (.cells #[.bool false, .slice none 0 0] 28)) := (Below.refl _ _).alloc (Nat.le_refl _) _
  by_cases hk : k < len
  · obtain ⟨b, off, n1, ao1, l1, c1, rfl, h0', h1', hi⟩ := hp.at hk
    have h0 := (hbW.cell (p := ⟨b, off + k * 2, none⟩) (cell_lt h0')).trans h0'
    have h1 := (hbW.cell (p := ⟨b, off + k * 2 + 1, none⟩) (cell_lt h1')).trans h1'
    have hk1 : (k : Int) < (len : Int) := by omega
    have HI : Hid (IntAt w n1 ao1 l1 c1 (dig p k)) := hi
    clear hp hi hk h0' h1'
    go_enter Tryz.func59, Tryz.ntmps59
    go_wp2
    exact bodyPost_ret (v := .agg #[.bool n1, .slice ao1 l1 c1]) (by simp [results, Tryz.results59, go_sem]) rfl
      ⟨_, _, _, _, rfl, HI.out.later ((Below.refl _ _).alloc (Nat.le_refl _) _), (Below.refl _ _).alloc (Nat.le_refl _) _⟩
  · have hk1 : ¬ (k : Int) < (len : Int) := by omega
    have HZ : Hid (dig p k = 0) := dig_past (by rw [← hp.hlen]; omega)
    clear hp hk
    go_enter Tryz.func59, Tryz.ntmps59
    go_wp2_with (go_at_call 49; refine (rfrom_any 0 _ (by decide) (by decide)).mono ?_; rintro e w1 ⟨n1, ao1, l1, c1, rfl, hs, ho, hb1⟩; have HS : Hid (IntAt w1 n1 ao1 l1 c1 0) := ho.int hs; clear hs ho; have hf := (Fresh.new w).later hb1 (by simp); obtain ⟨g5, g3, g4⟩ := hf)
    exact bodyPost_ret (v := .agg #[.bool n1, .slice ao1 l1 c1]) (by simp [results, Tryz.results59, go_sem, g3, g4]) rfl
      ⟨_, _, _, _, rfl, ⟨by rw [HZ.out]; exact HS.out.sg, by rw [HZ.out]; exact HS.out.row.kept ⟨g5, g3, g4⟩ _ _⟩, below_store (bnext hbW hb1) (Nat.le_refl _) _ _⟩
set_option maxRecDepth 100000 in
set_option maxHeartbeats 1000000 in
theorem ptrim_any (ao : Option Addr) (len cap : Nat) (p : List Int) (w : World) (hp : PolyAt w ao len cap p) (hl : len ≤ 1048576) :
    Calls Tryz.prog 30 #[.slice ao len cap] w fun e w' => ∃ m, m = (trimL p).length ∧ e = .returned (.slice ao m cap) ∧ PolyAt w' ao m cap (trimL p) ∧ Below w.heap.size w w' := by
  have HP : Hid (PolyAt w ao len cap p ∧ len = p.length) := ⟨hp, hp.hlen⟩
  have hcap := hp.hcap
  have hnil := hp.hnil
  clear hp
  go_enter Tryz.func30, Tryz.ntmps30
  go_wp2
  go_loopw [3] (fun i wr => ∃ k : Nat, k ≤ len ∧ i = .int .i64 (k : Int) ∧ Below w.heap.size w wr ∧ trimN p k = trimN p len) (fun i _ => (intOf i).toNat)
  case atStart => exact ⟨len, Nat.le_refl _, rfl, Below.refl _ _, rfl⟩
  case round =>
    obtain ⟨k, hk, rfl, hbel, htr⟩ := hrel
    have HT : Hid (trimN p k = trimN p len) := htr
    clear htr
    have hfin : ∀ W', Below w.heap.size w W' → trimN p k = k → ∃ m, m = (trimL p).length ∧ Ending.returned (.slice ao k cap) = .returned (.slice ao m cap) ∧ PolyAt W' ao m cap (trimL p) ∧ Below w.heap.size w W' := fun W' hb he => by
      have e1 : (trimL p).length = k := by rw [trimL_len, ← HP.out.2, ← HT.out, he]
      refine ⟨k, e1.symm, rfl, ?_, hb⟩
      have := (HP.out.1.later hb).take hk
      unfold trimL
      rw [← HP.out.2, ← HT.out, he]; exact this
    have HF : Hid (∀ W', Below w.heap.size w W' → trimN p k = k → ∃ m, m = (trimL p).length ∧ Ending.returned (.slice ao k cap) = .returned (.slice ao m cap) ∧ PolyAt W' ao m cap (trimL p) ∧ Below w.heap.size w W') := hfin
    clear hfin
    have y2 : (k : Int) ≤ (cap : Int) := by omega
    have y1 : (0 : Int) ≤ (k : Int) := by omega
    by_cases hk0 : k = 0
    · subst hk0
      go_wp2
      go_ret
      exact HF.out _ hbel rfl
    · obtain ⟨i, rfl⟩ : ∃ i, k = i + 1 := ⟨k - 1, by omega⟩
      have hpI : (0 : Int) < ((i + 1 : Nat) : Int) := by omega
      have hidx : ((i + 1 : Nat) : Int) - 1 = (i : Int) := by omega
      have hil : (i : Int) < (len : Int) := by omega
      have hi0 : (0 : Int) ≤ (i : Int) := by omega
      obtain ⟨b, off, n1, ao1, l1, c1, rfl, e0, e1, hi1⟩ := (HP.out.1.later hbel).at (show i < len by omega)
      have HI : Hid (l1 = lim (dig p i)) := hi1.lim
      clear hi1 hk0
      by_cases hz : l1 = 0
      · have hcon : ∀ W', Calls Tryz.prog 27 #[.agg #[.bool n1, .slice ao1 l1 c1]] W' fun e w' => e = .returned (.bool true) ∧ Below W'.heap.size W' w' := fun W' => rzero_any n1 ao1 l1 c1 W' true (by simp; omega)
        have HZ : Hid (dig p i = 0) := zero_of_lim (by rw [← HI.out]; exact hz)
        clear hz
        go_wp2_with (go_at_call 27; refine (hcon _).mono ?_; rintro e w1 ⟨rfl, hb1⟩)
        go_roundw
        case rel => exact ⟨i, by omega, by go_num, bnext hbel hb1, by rw [← HT.out, trimN_zero HZ.out]⟩
        case measure => simp [intOf]
      · have hcon : ∀ W', Calls Tryz.prog 27 #[.agg #[.bool n1, .slice ao1 l1 c1]] W' fun e w' => e = .returned (.bool false) ∧ Below W'.heap.size W' w' := fun W' => rzero_any n1 ao1 l1 c1 W' false (by simp; omega)
        have HZ : Hid (dig p i ≠ 0) := fun e => hz (by rw [HI.out, e]; exact lim_zero)
        clear hz
        go_wp2_with (go_at_call 27; refine (hcon _).mono ?_; rintro e w1 ⟨rfl, hb1⟩)
        go_ret
        exact HF.out _ (bnext hbel hb1) (trimN_keep HZ.out)
end Go.Proofs.YtdanaebhjkbfmaaGreat
/-
  Walks: the page's sum of polynomials.
-/
namespace Go.Proofs.YtdanaebhjkbfmaaGreat
open Go.RowKit
set_option linter.unusedVariables false
set_option linter.unusedSimpArgs false
set_option maxRecDepth 100000 in
set_option maxHeartbeats 2000000 in
theorem pplus_any (ao bo : Option Addr) (la ca lb cb A N : Nat) (p s : List Int) (w : World) (hp : PolyAt w ao la ca p) (hs : PolyAt w bo lb cb s) (hla : la ≤ 1000) (hlb : lb ≤ 1000) (hA : A ≤ 100000) (hlp : Lim A p) (hls : Lim A s) (hN : N = max la lb) :
    Calls Tryz.prog 32 #[.slice ao la ca, .slice bo lb cb] w fun e w' => NewPolyB w w' e (trimL (tab N fun i => dig p i + dig s i)) := by
  have HR : Hid (PolyAt w ao la ca p ∧ PolyAt w bo lb cb s ∧ Lim A p ∧ Lim A s ∧ A ≤ 100000) := ⟨hp, hs, hlp, hls, hA⟩
  have h1N : la ≤ N := by omega
  have h2N : lb ≤ N := by omega
  have h3N : N ≤ 1000 := by omega
  have h4N : ∀ k, k < N → k < la ∨ k < lb := fun k hk => by omega
  clear hp hs hlp hls hA hN
  obtain ⟨i0, hi, hz0, hz1, hz2⟩ := info_parts infoInt
  go_enter Tryz.func32, Tryz.ntmps32
  go_wp2
  go_loopw [5, 6] (fun v i wr => ∃ k : Nat, k ≤ N ∧ i = .int .i64 (k : Int) ∧ Below w.heap.size w wr ∧ LRow w.heap.size wr v (rsOf (tab k fun i => dig p i + dig s i))) (fun _ i _ => N - (intOf i).toNat)
  case atStart => exact ⟨0, Nat.zero_le _, rfl, Below.refl _ _, LRow.nil _ _⟩
  case round =>
    obtain ⟨k, hk, rfl, hbel, hL⟩ := hrel
    have HLR := hL
    obtain ⟨xs, hown, hx⟩ := hL
    rw [rsOf_len, tab_len] at hown
    obtain ⟨vo, vc, rfl, _⟩ := lrow_cells hown
    have HX : Hid (wr.ownsRow w.heap.size 28 2 (.slice vo k vc) k xs ∧ Elems w.heap.size wr xs (rsOf (tab k fun i => dig p i + dig s i)) ∧ LRow w.heap.size wr (.slice vo k vc) (rsOf (tab k fun i => dig p i + dig s i))) := ⟨hown, hx, HLR⟩
    clear hown hx HLR
    by_cases hlt : k < N
    · have h63 : Hid (k + 1 ≤ maxLen) := by show _ ≤ _; unfold maxLen; omega
      have hby : Hid ((k + 1) * 32 ≤ 140737488355328) := by show _ ≤ _; omega
      have hg : (((k : Int) < (la : Int)) ∧ True) ∨ ((¬ (k : Int) < (la : Int)) ∧ ((k : Int) < (lb : Int))) := by
        by_cases q : (k : Int) < (la : Int)
        · exact Or.inl ⟨q, trivial⟩
        · exact Or.inr ⟨q, by rcases h4N k hlt with q2 | q2 <;> omega⟩
      clear h4N
      rcases hg with ⟨g1, g2⟩ | ⟨g1, g2⟩
      all_goals
        go_wp2_with (first
          | (at_builtin; refine wpList_append_own _ rfl _ _ 24 rfl w.heap.size 28 i0 (.agg #[.bool false, .slice none 0 0]) 2 32 Tryz.underlying24 hi hz0 hz1 hz2 rfl (by decide) _ _ _ rfl (owns_later2 HX.out.1 hA3) ⟨w3.heap.size, 0, none⟩ 1 1 [.bool n3, .slice ao3 l3 c3] rfl rfl (World.news_of_block (cs := #[.bool n3, .slice ao3 l3 c3]) (t := 28) (fr := (0, 0)) (heap_alloc_new w3 _)) (by simp [Value.oneCell']) h63.out hby.out (Nat.le_trans hbel.size hA3.size) ?_; intro v4 w4 hown4 hgrow hnil)
          | (go_at_call 53; refine (rplus_new n1 n2 ao1 ao2 l1 c1 l2 c2 (dig p k) (dig s k) _ H2.out.2.1 H2.out.1 (by omega) (by omega)).mono ?_; rintro e w3 ⟨n3, ao3, l3, c3, rfl, hs3, ho3, hb3⟩; have H3 : Hid (n3 = sgB (dig p k + dig s k) ∧ Own w.heap.size w3 .u64 73 ao3 l3 c3 (mag (dig p k + dig s k).natAbs)) := ⟨hs3, ho3.mono (Nat.le_trans hbel.size H2.out.2.2.size)⟩; have hA3 : Below wr.heap.size wr (w3.alloc (.cells #[.bool n3, .slice ao3 l3 c3] 28)) := bnext (bnext H2.out.2.2 hb3) ((Below.refl _ _).alloc (Nat.le_refl _) _); clear hs3 ho3 hb3)
          | (go_at_call 59; have _t := H1; refine (pat_any bo lb cb k s _ (HR.out.2.1.later (bnext hbel H1.out.2))).mono ?_; rintro e w2 ⟨n2, ao2, l2, c2, rfl, hi2, hb2⟩; have H2 : Hid (IntAt w2 n2 ao2 l2 c2 (dig s k) ∧ IntAt w2 n1 ao1 l1 c1 (dig p k) ∧ Below wr.heap.size wr w2) := ⟨hi2, H1.out.1.later hb2, bnext H1.out.2 hb2⟩; have hl2 : l2 ≤ 100000 := (by rw [hi2.lim]; exact Nat.le_trans (HR.out.2.2.2.1 k) HR.out.2.2.2.2); clear hi2 hb2)
          | (go_at_call 59; refine (pat_any ao la ca k p _ (HR.out.1.later hbel)).mono ?_; rintro e w1 ⟨n1, ao1, l1, c1, rfl, hi1, hb1⟩; have H1 : Hid (IntAt w1 n1 ao1 l1 c1 (dig p k) ∧ Below wr.heap.size wr w1) := ⟨hi1, hb1⟩; have hl1 : l1 ≤ 100000 := (by rw [hi1.lim]; exact Nat.le_trans (HR.out.2.2.1 k) HR.out.2.2.2.2); clear hi1 hb1))
        go_roundw
        case rel =>
          refine ⟨k + 1, by omega, by go_num, grown_owns2 (bnext hbel hA3) (Nat.le_trans hbel.size hA3.size) (owns_later2 HX.out.1 hA3) hgrow, ?_⟩
          rw [rsOf_tab, ← H3.out.1]
          exact lrow_push (by rw [rsOf_len, tab_len]) (owns_later2 HX.out.1 hA3) (HX.out.2.1.later hA3) (own_alloc H3.out.2) hown4 hgrow
        case measure => simp [intOf]; omega
    · obtain rfl : k = N := by omega
      have g1 : ¬ (k : Int) < (la : Int) := by omega
      have g2 : ¬ (k : Int) < (lb : Int) := by omega
      clear h4N
      go_wp2_with (go_at_call 30; refine (ptrim_any vo k vc _ _ HX.out.2.2.polyAt (by omega)).mono ?_; rintro e w1 ⟨m, hm, rfl, hp1, hb1⟩; clear hm)
      go_ret
      exact ⟨_, _, _, rfl, hp1, owns_base HX.out.1, bnext hbel hb1⟩
end Go.Proofs.YtdanaebhjkbfmaaGreat
/-
  Walks: the page's derivatives, order, degrees and leads of polynomials; the product with 0.
-/
namespace Go.Proofs.YtdanaebhjkbfmaaGreat
open Go.RowKit
set_option linter.unusedVariables false
set_option linter.unusedSimpArgs false
set_option maxRecDepth 100000 in
set_option maxHeartbeats 1000000 in
theorem pdeg_any (ao : Option Addr) (la ca : Nat) (w : World) (hl : la ≤ 1000) :
    Calls Tryz.prog 36 #[.slice ao la ca] w fun e w' => e = .returned (.int .i64 ((la : Int) - 1)) ∧ Below w.heap.size w w' := by
  go_enter Tryz.func36, Tryz.ntmps36
  go_wp2
  go_ret
  exact ⟨by go_num, Below.refl _ _⟩
set_option maxRecDepth 100000 in
set_option maxHeartbeats 1000000 in
theorem plead_any (ao : Option Addr) (len cap : Nat) (p : List Int) (w : World) (hp : PolyAt w ao len cap p) (hl : len ≤ 1000) :
    Calls Tryz.prog 52 #[.slice ao len cap] w fun e w' => RefInt w w' e (dig p (len - 1)) := by
  have hbW : Below w.heap.size w (w.alloc (.cells #[.bool false, .slice none 0 0] 28)) := (Below.refl _ _).alloc (Nat.le_refl _) _
  by_cases h0 : len = 0
  · subst h0
    have HZ : Hid (dig p (0 - 1) = 0) := dig_past (by rw [← hp.hlen]; omega)
    clear hp
    go_enter Tryz.func52, Tryz.ntmps52
    go_wp2_with (go_at_call 49; refine (rfrom_any 0 _ (by decide) (by decide)).mono ?_; rintro e w1 ⟨n1, ao1, l1, c1, rfl, hs, ho, hb1⟩; have HS : Hid (IntAt w1 n1 ao1 l1 c1 0) := ho.int hs; clear hs ho; have hf := (Fresh.new w).later hb1 (by simp); obtain ⟨g5, g3, g4⟩ := hf)
    exact bodyPost_ret (v := .agg #[.bool n1, .slice ao1 l1 c1]) (by simp [results, Tryz.results52, go_sem, g3, g4]) rfl
      ⟨_, _, _, _, rfl, ⟨by rw [HZ.out]; exact HS.out.sg, by rw [HZ.out]; exact HS.out.row.kept ⟨g5, g3, g4⟩ _ _⟩, below_store (bnext hbW hb1) (Nat.le_refl _) _ _⟩
  · obtain ⟨k, rfl⟩ : ∃ k, len = k + 1 := ⟨len - 1, by omega⟩
    obtain ⟨b, off, n1, ao1, l1, c1, rfl, h0', h1', hi⟩ := hp.at (show k < k + 1 by omega)
    have h0 := (hbW.cell (p := ⟨b, off + k * 2, none⟩) (cell_lt h0')).trans h0'
    have h1 := (hbW.cell (p := ⟨b, off + k * 2 + 1, none⟩) (cell_lt h1')).trans h1'
    have hn : (((k + 1 : Nat) : Int) == 0) = false := by simp; omega
    have hki : ((k + 1 : Nat) : Int) - 1 = (k : Int) := by omega
    have hk1 : (k : Int) < ((k + 1 : Nat) : Int) := by omega
    have hk2 : (0 : Int) ≤ (k : Int) := by omega
    have HI : Hid (IntAt w n1 ao1 l1 c1 (dig p k)) := hi
    clear hp hi h0' h1'
    go_enter Tryz.func52, Tryz.ntmps52
    go_wp2
    exact bodyPost_ret (v := .agg #[.bool n1, .slice ao1 l1 c1]) (by simp [results, Tryz.results52, go_sem]) rfl
      ⟨_, _, _, _, rfl, HI.out.later ((Below.refl _ _).alloc (Nat.le_refl _) _), (Below.refl _ _).alloc (Nat.le_refl _) _⟩
set_option maxRecDepth 100000 in
set_option maxHeartbeats 1000000 in
theorem ptimes_nil (ao bo : Option Addr) (la ca lb cb : Nat) (w : World) (h : la = 0 ∨ lb = 0) :
    Calls Tryz.prog 35 #[.slice ao la ca, .slice bo lb cb] w fun e w' => NewPolyB w w' e [] := by
  rcases Nat.eq_zero_or_pos la with e | e
  · subst e
    clear h
    go_enter Tryz.func35, Tryz.ntmps35
    go_wp2
    go_ret
    exact ⟨_, _, _, rfl, PolyAt.nilPoly _, fun a ha => (by cases ha), Below.refl _ _⟩
  · obtain rfl : lb = 0 := by omega
    have hn : ((la : Int) == 0) = false := by simp; omega
    clear h e
    go_enter Tryz.func35, Tryz.ntmps35
    go_wp2
    go_ret
    exact ⟨_, _, _, rfl, PolyAt.nilPoly _, fun a ha => (by cases ha), Below.refl _ _⟩
end Go.Proofs.YtdanaebhjkbfmaaGreat
/-
  Walks: powers of any length; what is refused of shifts, powers, roots; the page's Left, Pow.
-/
namespace Go.Proofs.YtdanaebhjkbfmaaGreat
open Go.RowKit Go.Shelf
set_option linter.unusedVariables false
set_option linter.unusedSimpArgs false
set_option maxRecDepth 100000 in
set_option maxHeartbeats 1000000 in
theorem rleft_any (neg : Bool) (ao : Option Addr) (len cap n : Nat) (v : Int) (w : World) (hx : IntAt w neg ao len cap v) (hl : len ≤ 1073741824) (hn : n ≤ 65536) :
    Calls Tryz.prog 37 #[.agg #[.bool neg, .slice ao len cap], .int .i64 (n : Int)] w fun e w' => NewInt w w' e (v * ((2 ^ n : Nat) : Int)) := by
  obtain ⟨W, hT⟩ := One2.mk' w neg ao len cap
  have hsz := hT.size
  have hR := hx.later hT.below
  have HE : Hid (v * ((2 ^ n : Nat) : Int) = sgn neg (v.natAbs * 2 ^ n)) := sgn_scale hx.sg _
  clear hx
  have KS : Hid (∀ w' : World, Below (w.heap.size + 1) W w' → (Below (w.heap.size + 1) W w' ∧ w'.cell? ⟨w.heap.size, 0, none⟩ = some (.bool neg) ∧ w'.cell? ⟨w.heap.size, 1, none⟩ = some (.slice ao len cap))) := fun w' h => ⟨h, (h.cell (p := ⟨w.heap.size, 0, none⟩) (by show w.heap.size < _; omega)).trans hT.a.1, (h.cell (p := ⟨w.heap.size, 1, none⟩) (by show w.heap.size < _; omega)).trans hT.a.2⟩
  have K1 : Hid (∀ w1 w2 : World, (Below (w.heap.size + 1) W w1 ∧ w1.cell? ⟨w.heap.size, 0, none⟩ = some (.bool neg) ∧ w1.cell? ⟨w.heap.size, 1, none⟩ = some (.slice ao len cap)) → Below w1.heap.size w1 w2 → (Below (w.heap.size + 1) W w2 ∧ w2.cell? ⟨w.heap.size, 0, none⟩ = some (.bool neg) ∧ w2.cell? ⟨w.heap.size, 1, none⟩ = some (.slice ao len cap))) := fun w1 w2 h hb => KS.out _ (h.1.trans (hb.mono (by have := h.1.size; omega)))
  have K2 : Hid (∀ w1 w2 : World, (Below (w.heap.size + 1) W w1 ∧ w1.cell? ⟨w.heap.size, 0, none⟩ = some (.bool neg) ∧ w1.cell? ⟨w.heap.size, 1, none⟩ = some (.slice ao len cap)) → Below (w.heap.size + 1) w1 w2 → (Below (w.heap.size + 1) W w2 ∧ w2.cell? ⟨w.heap.size, 0, none⟩ = some (.bool neg) ∧ w2.cell? ⟨w.heap.size, 1, none⟩ = some (.slice ao len cap))) := fun w1 w2 h hb => KS.out _ (h.1.trans hb)
  go_enter Tryz.func37, Tryz.ntmps37
  go_wp2
  rw [← hT.eq]
  go_region_held3 (fun w' => (Below (w.heap.size + 1) W w' ∧ w'.cell? ⟨w.heap.size, 0, none⟩ = some (.bool neg) ∧ w'.cell? ⟨w.heap.size, 1, none⟩ = some (.slice ao len cap)))
    (first
      | exact KS.out _ (Below.refl _ _).drew
      | exact K1.out _ _ (by assumption) (by assumption)
      | exact K2.out _ _ (by assumption) (below_store (Below.refl _ _) (by omega) _ _))
    (first
      | (go_at_call 61; refine (up2_any ao len cap n v.natAbs _ (hR.row.later (Below.refl _ _).drew) (by omega) (by omega)).mono ?_; rintro e w2 ⟨ao2, l2, c2, rfl, ho2, hb2⟩; have hlen2 : l2 ≤ 4611686018427387904 := (by rw [ho2.row.hlen]; have q1 := mag_len_mul v.natAbs (2 ^ n); have q2 := mag_len_two n; rw [← hR.row.hlen] at q1; omega))
      | (go_at_call 58; refine (made_any neg ao2 l2 c2 _ hlen2).mono ?_; rintro e w3 ⟨rfl, hb3⟩; obtain ⟨g5, g3, g4⟩ := hT.r.later (bnext (Below.refl _ _).drew (bnext hb2 hb3)) (by omega)))
  go_wp2
  have hN := NewInt.ret (w := w) ((ho2.later hb3).store (r := w.heap.size + 1) (by show _ < W.heap.size; omega) (.bool (neg && decide (0 < l2))) (.slice ao2 l2 c2)) (by show _ ≤ W.heap.size; omega) HE.out (below_store (bnext hT.below (bnext (Below.refl _ _).drew (bnext hb2 hb3))) (by omega) _ _)
  exact bodyPost_ret (v := .agg #[.bool (neg && decide (0 < l2)), .slice ao2 l2 c2]) (by simp [results, Tryz.results37, go_sem, g3, g4]) rfl hN
/-- a variable that holds a number -/
def XVar (Z : World) (r : Nat) (v : Int) : Prop := ∃ n o l c, Boxed Z r n o l c ∧ IntAt Z n o l c v ∧ ∀ j, Z.frozen? ⟨r, j, none⟩ = false
theorem XVar.later {Z Z' : World} {r : Nat} {v : Int} (h : XVar Z r v) (hb : Below Z.heap.size Z Z') : XVar Z' r v := by
  obtain ⟨n, o, l, c, h1, h2, h4⟩ := h
  have hr : r < Z.heap.size := cell_lt h1.1
  exact ⟨n, o, l, c, h1.later hb hr, h2.later hb, fun j => (hb.frozen (p := ⟨r, j, none⟩) hr).trans (h4 j)⟩
/-- a handed-in number, an answer to come, a variable g with x -/
structure RPow (w Z : World) (g : Nat) (neg : Bool) (ao : Option Addr) (len cap : Nat) (v x : Int) : Prop where
  ba : Boxed Z w.heap.size neg ao len cap
  ia : IntAt Z neg ao len cap v
  fr : Fresh Z (w.heap.size + 1)
  vx : XVar Z g x
  gw : w.heap.size + 2 ≤ g
  gz : g < Z.heap.size
  bw : Below w.heap.size w Z
theorem RPow.later {w Z Z' : World} {g : Nat} {neg : Bool} {ao : Option Addr} {len cap : Nat} {v x : Int} (h : RPow w Z g neg ao len cap v x) (hb : Below Z.heap.size Z Z') : RPow w Z' g neg ao len cap v x := by
  have h1 := h.gw
  have h2 := h.gz
  exact ⟨h.ba.later hb (by omega), h.ia.later hb, h.fr.later hb (by omega), h.vx.later hb, h1, Nat.lt_of_lt_of_le h2 hb.size, bnext h.bw hb⟩
theorem RPow.put {w Z Z' : World} {g : Nat} {neg n : Bool} {ao o : Option Addr} {len cap l c : Nat} {v x y : Int} (h : RPow w Z g neg ao len cap v x) (hb : Below Z.heap.size Z Z') (hi : IntAt Z' n o l c y) : RPow w ((Z'.setCell ⟨g, 0, none⟩ (.bool n)).setCell ⟨g, 1, none⟩ (.slice o l c)) g neg ao len cap v y := by
  have k := h.later hb
  have h1 := k.gw
  have h2 := k.gz
  obtain ⟨n', o', l', c', hx, _, hf⟩ := k.vx
  exact ⟨boxed_far k.ba (by omega) _ _, ⟨k.ia.sg, k.ia.row.boxed hx _ _⟩, fresh_far k.fr (by omega) _ _, ⟨_, _, _, _, boxed_new hx, ⟨hi.sg, hi.row.boxed hx _ _⟩, fun j => by rw [frozen_far, frozen_far]; exact hf j⟩, h1, by simpa [World.setCell] using h2, below_store k.bw (by omega) _ _⟩
theorem RPow.first {w W w1 : World} {neg n : Bool} {ao o : Option Addr} {len cap l c : Nat} {v x : Int} (hT : One2 w W neg ao len cap) (hx : IntAt W neg ao len cap v) (hb : Below W.heap.size W w1) (hi : IntAt w1 n o l c x) : RPow w (w1.alloc (.cells #[.bool n, .slice o l c] 28)) w1.heap.size neg ao len cap v x := by
  have hA : Below w1.heap.size w1 (w1.alloc (.cells #[.bool n, .slice o l c] 28)) := (Below.refl _ _).alloc (Nat.le_refl _) _
  have hs := hT.size
  have hz := hb.size
  have hWA := bnext hb hA
  exact ⟨hT.a.later hWA (by omega), hx.later hWA, hT.r.later hWA (by omega), ⟨n, o, l, c, ⟨by simp [go_sem], by simp [go_sem]⟩, hi.later hA, fun j => by simp [go_sem]⟩, by omega, by simp, bnext hT.below hWA⟩
theorem RPow.last {w Z : World} {g : Nat} {neg n : Bool} {ao o : Option Addr} {len cap l c : Nat} {v x : Int} (h : RPow w Z g neg ao len cap v x) (hb : Boxed Z g n o l c) (hi : IntAt Z n o l c x) (u1 u2 : Value) : RefInt w ((Z.setCell ⟨w.heap.size + 1, 0, none⟩ u1).setCell ⟨w.heap.size + 1, 1, none⟩ u2) (.returned (.agg #[.bool n, .slice o l c])) x :=
  ⟨_, _, _, _, rfl, ⟨hi.sg, hi.row.kept h.fr _ _⟩, below_store h.bw (by omega) _ _⟩
end Go.Proofs.YtdanaebhjkbfmaaGreat
/-
  Walks: a polynomial moved (Horner's rule, in new memory).
-/
namespace Go.Proofs.YtdanaebhjkbfmaaGreat
open Go.RowKit
set_option linter.unusedVariables false
set_option linter.unusedSimpArgs false
theorem cmpI_nil {v : Int} (h : cmpI v 0 = 0) : v = 0 := by
  unfold cmpI at h; split at h
  · cases h
  · split at h
    · cases h
    · omega
set_option maxRecDepth 100000 in
set_option maxHeartbeats 4000000 in
theorem shifted_any (ao : Option Addr) (len cap : Nat) (p : List Int) (n : Bool) (co : Option Addr) (lc cc : Nat) (c : Int) (w : World) (hp : PolyAt w ao len cap p) (hl : len ≤ 1048576) (hv : IntAt w n co lc cc c) (hlim : ShLim 1000000000 c p) :
    Calls Tryz.prog 40 #[.slice ao len cap, .agg #[.bool n, .slice co lc cc]] w fun e w' => NewPB w w' e (sh c p) := by
  have hlc : lc ≤ 1000000000 := by rw [hv.lim]; exact hlim.1
  obtain ⟨W, hW⟩ : ∃ W, W = w.alloc (.cells #[.bool n, .slice co lc cc] 28) := ⟨_, rfl⟩
  have HW : Hid (Below w.heap.size w W ∧ Boxed W w.heap.size n co lc cc ∧ w.heap.size < W.heap.size) := by rw [hW]; exact ⟨(Below.refl _ _).alloc (Nat.le_refl _) _, ⟨by simp [go_sem], by simp [go_sem]⟩, by simp⟩
  have hcop := copied_any ao len cap p W (hp.later HW.out.1) hl (hlim.2.1.mono (by decide))
  have HR : Hid (IntAt W n co lc cc c ∧ ShLim 1000000000 c p ∧ len = p.length) := ⟨hv.later HW.out.1, hlim, hp.hlen⟩
  have hsl : (sh c p).length = len := by rw [sh_len, ← hp.hlen]
  have HSL : Hid ((sh c p).length = len) := hsl
  clear hp hv hlim hsl
  by_cases h0 : len = 0
  · subst h0
    have hpe : Hid (sh c p = [] ∧ p.length = 0) := ⟨List.eq_nil_of_length_eq_zero HSL.out, HR.out.2.2.symm⟩
    cases hc : decide (c = 0)
    · have hc0 : c ≠ 0 := by simpa using hc
      obtain ⟨cs, hcs⟩ : ∃ cs, cmpI c 0 = cs := ⟨_, rfl⟩
      have hcs1 : (cs == 0) = false := by
        rw [← hcs]; simp; intro e; exact hc0 (cmpI_nil e)
      have HCS : Hid (cmpI c 0 = cs) := hcs
      clear hcs hc hc0
      go_enter Tryz.func40, Tryz.ntmps40
      go_wp2_with (first
        | (go_at_call 64; rw [← hW]; clear hW; refine hcop.mono ?_; intro e w1 hN; rcases hN with ⟨_, rfl, hb1⟩ | ⟨hpos, _⟩; rotate_left 1; exact absurd hpos (by have := hpe.out.2; omega); obtain ⟨q0, q1⟩ := HW.out.2.1.later hb1 HW.out.2.2)
        | (go_at_call 55; refine (bsign_any n co lc cc c _ (HR.out.1.later hb1) (by omega) cs HCS.out).mono ?_; rintro e w2 ⟨rfl, hb2⟩))
      go_loopw [6] (fun i wr => i = .int .i64 (-2) ∧ wr = w2) (fun i _ => 0)
      case atStart => exact ⟨rfl, rfl⟩
      case round =>
        obtain ⟨rfl, rfl⟩ := hrel
        go_wp2
        go_ret
        exact Or.inl ⟨by rw [hpe.out.1]; rfl, rfl, bnext HW.out.1 (bnext hb1 hb2)⟩
    · have hc0 : Hid (cmpI c 0 = 0) := cmpI_eq (by simpa using hc)
      clear hc
      go_enter Tryz.func40, Tryz.ntmps40
      go_wp2_with (first
        | (go_at_call 64; rw [← hW]; clear hW; refine hcop.mono ?_; intro e w1 hN; rcases hN with ⟨_, rfl, hb1⟩ | ⟨hpos, _⟩; rotate_left 1; exact absurd hpos (by have := hpe.out.2; omega); obtain ⟨q0, q1⟩ := HW.out.2.1.later hb1 HW.out.2.2)
        | (go_at_call 55; refine (bsign_any n co lc cc c _ (HR.out.1.later hb1) (by omega) 0 hc0.out).mono ?_; rintro e w2 ⟨rfl, hb2⟩))
      go_ret
      exact Or.inl ⟨by rw [hpe.out.1]; rfl, rfl, bnext HW.out.1 (bnext hb1 hb2)⟩
  · have hcop2 : Calls Tryz.prog 64 #[.slice ao len cap] W fun e w' => ∃ g, e = .returned (.slice (some ⟨g, 0, none⟩) len len) ∧ PBlk w' g p ∧ W.heap.size ≤ g ∧ g < w'.heap.size ∧ Below W.heap.size W w' := by
      refine hcop.mono fun e w1 hN => ?_
      rcases hN with ⟨hz, _⟩ | ⟨_, g, he, hrest⟩
      · exact absurd hz (by have := HR.out.2.2; omega)
      · exact ⟨g, by rw [HR.out.2.2]; exact he, hrest⟩
    have HP : Hid (0 < len) := by show 0 < _; omega
    clear hcop
    cases hc : decide (c = 0)
    · have hc0 : c ≠ 0 := by simpa using hc
      obtain ⟨cs, hcs⟩ : ∃ cs, cmpI c 0 = cs := ⟨_, rfl⟩
      have hcs1 : (cs == 0) = false := by
        rw [← hcs]; simp; intro e; exact hc0 (cmpI_nil e)
      have HCS : Hid (cmpI c 0 = cs) := hcs
      clear hcs hc hc0
      go_enter Tryz.func40, Tryz.ntmps40
      go_wp2_with (first
        | (go_at_call 64; rw [← hW]; clear hW; refine hcop2.mono ?_; rintro e w1 ⟨g, rfl, hPB, hg1, hg2, hb1⟩; have HPB : Hid (PBlk w1 g p ∧ W.heap.size ≤ g) := ⟨hPB, hg1⟩; clear hPB hg1; obtain ⟨q0, q1⟩ := HW.out.2.1.later hb1 HW.out.2.2)
        | (go_at_call 55; refine (bsign_any n co lc cc c _ (HR.out.1.later hb1) (by omega) cs HCS.out).mono ?_; rintro e w2 ⟨rfl, hb2⟩))
      clear q0 q1
      have HG : Hid (W.heap.size ≤ g ∧ g < w2.heap.size ∧ PBlk w2 g p ∧ Below W.heap.size W w2) := ⟨HPB.out.2, Nat.lt_of_lt_of_le hg2 hb2.size, HPB.out.1.later hb2 hg2, bnext hb1 hb2⟩
      clear HPB hg2 hb1 hb2
      go_loopw [6] (fun i wr => ∃ (k : Nat) (l : List Int), k + 1 ≤ len ∧ i = .int .i64 ((k : Int) - 1) ∧ Below W.heap.size W wr ∧ g < wr.heap.size ∧ PBlk wr g l ∧ ShOut p c k l) (fun i _ => (intOf i + 1).toNat)
      case atStart => exact ⟨len - 1, p, by have := HP.out; omega, by go_num, HG.out.2.2.2, HG.out.2.1, HG.out.2.2.1, by rw [HR.out.2.2]; exact ShOut.start c (by rw [← HR.out.2.2]; exact HP.out)⟩
      case round =>
        obtain ⟨k, l, hk, rfl, hbel, hgl, hPB, hst⟩ := hrel
        have HS : Hid (PBlk wr g l ∧ ShOut p c k l ∧ Below W.heap.size W wr) := ⟨hPB, hst, hbel⟩
        clear hPB hst hbel
        by_cases hk0 : k = 0
        · subst hk0
          have HE : Hid (l = sh c p) := HS.out.2.1.done
          go_wp2
          go_ret
          refine Or.inr ⟨by rw [HSL.out]; exact HP.out, g, by show _ = _; rw [HSL.out]; rfl, by rw [← HE.out]; exact HS.out.1, Nat.le_trans (Nat.le_of_lt HW.out.2.2) HG.out.1, hgl, bnext HW.out.1 HS.out.2.2⟩
        · obtain ⟨i, rfl⟩ : ∃ i, k = i + 1 := ⟨k - 1, by omega⟩
          have hki : ((i + 1 : Nat) : Int) - 1 = (i : Int) := by omega
          rw [hki]
          clear hk0 hki
          go_wp2
          go_loopw [7] (fun jj w3 => ∃ (j : Nat) (l : List Int), i ≤ j ∧ j + 1 ≤ len ∧ jj = .int .i64 j ∧ Below W.heap.size W w3 ∧ g < w3.heap.size ∧ PBlk w3 g l ∧ ShSt p c i j l) (fun jj _ => len - (intOf jj).toNat)
          case atStart => exact ⟨i, l, Nat.le_refl _, by omega, rfl, HS.out.2.2, hgl, HS.out.1, HS.out.2.1.st⟩
          case round =>
            obtain ⟨j, lj, hij, hj, rfl, hbel, hgw, hPB, hst⟩ := hrel
            have HT : Hid (PBlk wr g lj ∧ ShSt p c i j lj ∧ Below W.heap.size W wr) := ⟨hPB, hst, hbel⟩
            by_cases hjl : j + 1 < len
            · have hlj : lj.length = len := by rw [hst.1]; exact HR.out.2.2.symm
              obtain ⟨n1, ao1, l1, c1, ⟨e0, e1⟩, hi1⟩ := hPB.coef j (by omega)
              obtain ⟨n2, ao2, l2, c2, ⟨f0, f1⟩, hi2⟩ := hPB.coef (j + 1) (by omega)
              have hlm := hst.lims HR.out.2.1 hij (by rw [← HR.out.2.2]; exact hjl)
              have hl1 : l1 ≤ 1000000000 := by rw [hi1.lim]; exact hlm.1
              have hl2 : l2 ≤ 1000000000 := by rw [hi2.lim]; exact hlm.2
              have HI : Hid (IntAt wr n1 ao1 l1 c1 (dig lj j) ∧ IntAt wr n2 ao2 l2 c2 (dig lj (j + 1)) ∧ lj.length = len ∧ lim c ≤ 1000000000 ∧ lim (dig lj (j + 1)) ≤ 1000000000) := ⟨hi1, hi2, hlj, HR.out.2.1.1, hlm.2⟩
              have hfz := hPB.soft
              obtain ⟨b0, b1⟩ := HW.out.2.1.later hbel HW.out.2.2
              have hjI : (j : Int) < (len : Int) - 1 := by omega
              have z1 : (0 : Int) ≤ (j : Int) := by omega
              have z2 : (j : Int) < (len : Int) := by omega
              have z3 : (0 : Int) ≤ (j : Int) + 1 := by omega
              have z4 : (j : Int) + 1 < (len : Int) := by omega
              have z5 : IntKind.i64.wrap ((j : Int) + 1) = (j : Int) + 1 := by rw [IntKind.wrap_i64]; omega
              have z6 : ((j : Int) + 1).toNat = j + 1 := by omega
              clear hPB hst hlj hi1 hi2 hlm
              go_wp2
              go_region_with (first
                | (go_at_call 66; refine (bdtimes_any n n2 co ao2 lc cc l2 c2 c (dig lj (j + 1)) _ ((HR.out.1.later hbel).later (Below.refl _ _).drew) (HI.out.2.1.later (Below.refl _ _).drew) (by omega) (by omega)).mono ?_; rintro e w4 ⟨n3, ao3, l3, c3, rfl, hs3, ho3, hb3'⟩; have hb3 : Below wr.heap.size wr w4 := bnext (Below.refl _ _).drew hb3'; clear hb3'; have HI3 : Hid (IntAt w4 n3 ao3 l3 c3 (c * dig lj (j + 1)) ∧ IntAt w4 n1 ao1 l1 c1 (dig lj j)) := ⟨ho3.int hs3, HI.out.1.later hb3⟩; have hl3 : l3 ≤ 2000000000 := (by have h1 := (ho3.int hs3).lim; have h2 := lim_mul c (dig lj (j + 1)); have h3 := HI.out.2.2.2; omega); clear hs3 ho3; obtain ⟨q0, q1, q2⟩ : w4.cell? ⟨g, j * 2, none⟩ = some (.bool n1) ∧ w4.cell? ⟨g, j * 2 + 1, none⟩ = some (.slice ao1 l1 c1) ∧ (∀ m, w4.frozen? ⟨g, m, none⟩ = false) := ⟨(hb3.cell (p := ⟨g, j * 2, none⟩) hgw).trans e0, (hb3.cell (p := ⟨g, j * 2 + 1, none⟩) hgw).trans e1, fun m => (hb3.frozen (p := ⟨g, m, none⟩) hgw).trans (hfz m)⟩)
                | (go_at_call 65; refine (bdplus_any n1 n3 ao1 ao3 l1 c1 l3 c3 (dig lj j) (c * dig lj (j + 1)) w4 HI3.out.2 HI3.out.1 (by omega) (by omega)).mono ?_; rintro e w5 ⟨n4, ao4, l4, c4, rfl, hs4, ho4, hb4⟩; have HI4 : Hid (IntAt w5 n4 ao4 l4 c4 (dig lj j + c * dig lj (j + 1)) ∧ Below wr.heap.size wr w5) := ⟨ho4.int hs4, bnext hb3 hb4⟩; have hb5 : Below wr.heap.size wr w5 := HI4.out.2; obtain ⟨r0, r1, r2⟩ : w5.cell? ⟨g, j * 2, none⟩ = some (.bool n1) ∧ w5.cell? ⟨g, j * 2 + 1, none⟩ = some (.slice ao1 l1 c1) ∧ (∀ m, w5.frozen? ⟨g, m, none⟩ = false) := ⟨(HI4.out.2.cell (p := ⟨g, j * 2, none⟩) hgw).trans e0, (HI4.out.2.cell (p := ⟨g, j * 2 + 1, none⟩) hgw).trans e1, fun m => (HI4.out.2.frozen (p := ⟨g, m, none⟩) hgw).trans (hfz m)⟩; clear hs4 ho4 hb4))
              all_goals go_wp2
              all_goals go_roundw
              all_goals first
                | exact ⟨j + 1, lj.set j (dig lj j + c * dig lj (j + 1)), by omega, by omega, by go_num, ((bnext HT.out.2.2 hb5).setCell (p := ⟨g, j * 2, none⟩) HG.out.1 _).setCell (p := ⟨g, j * 2 + 1, none⟩) HG.out.1 _, by (have := hb5.size; simp; omega), (HT.out.1.later hb5 hgw).put (by have := HI.out.2.2.1; omega) HI4.out.1, HT.out.2.1.step hij (by rw [← HR.out.2.2]; exact hjl)⟩
                | (simp [intOf]; omega)
            · obtain rfl : len = j + 1 := by omega
              have HO : Hid (ShOut p c i lj) := ShSt.out (by have := HT.out.2.1; rw [← HR.out.2.2]; exact this) (by rw [← HR.out.2.2]; omega)
              go_wp2
              go_roundw
              case rel => exact ⟨i, lj, by omega, by go_num, HT.out.2.2, hgw, HT.out.1, HO.out⟩
              case measure => simp [intOf]
    · have hc0 : Hid (cmpI c 0 = 0 ∧ sh c p = p) := ⟨cmpI_eq (by simpa using hc), by rw [show c = 0 by simpa using hc]; exact sh_zero p⟩
      clear hc
      go_enter Tryz.func40, Tryz.ntmps40
      go_wp2_with (first
        | (go_at_call 64; rw [← hW]; clear hW; refine hcop2.mono ?_; rintro e w1 ⟨g, rfl, hPB, hg1, hg2, hb1⟩; have HPB : Hid (PBlk w1 g p ∧ W.heap.size ≤ g) := ⟨hPB, hg1⟩; clear hPB hg1; obtain ⟨q0, q1⟩ := HW.out.2.1.later hb1 HW.out.2.2)
        | (go_at_call 55; refine (bsign_any n co lc cc c _ (HR.out.1.later hb1) (by omega) 0 hc0.out.1).mono ?_; rintro e w2 ⟨rfl, hb2⟩))
      go_ret
      exact Or.inr ⟨by rw [HSL.out]; exact HP.out, g, by show _ = _; rw [HSL.out]; rfl, by rw [hc0.out.2]; exact HPB.out.1.later hb2 hg2, Nat.le_trans (Nat.le_of_lt HW.out.2.2) HPB.out.2, Nat.lt_of_lt_of_le hg2 hb2.size, bnext HW.out.1 (bnext hb1 hb2)⟩
end Go.Proofs.YtdanaebhjkbfmaaGreat
/-
  JG, JH.
-/
/- Walks: a polynomial mirrored, turned. -/
namespace Go.Proofs.YtdanaebhjkbfmaaGreat
open Go.RowKit
set_option linter.unusedVariables false
set_option linter.unusedSimpArgs false
theorem PBlk.drew {w : World} {g : Nat} {p : List Int} (h : PBlk w g p) : PBlk w.drew g p := ⟨h.soft, fun t ht => (h.coef t ht).later ((Below.refl _ _).drew)⟩
theorem PBlk.swap {w : World} {g i j : Nat} {p : List Int} (h : PBlk w g p) (hi : i < p.length) (hj : j < p.length) (hij : i ≠ j) {n1 n2 : Bool} {o1 o2 : Option Addr} {l1 c1 l2 c2 : Nat}
    (a0 : w.cell? ⟨g, i * 2, none⟩ = some (.bool n1)) (a1 : w.cell? ⟨g, i * 2 + 1, none⟩ = some (.slice o1 l1 c1)) (b0 : w.cell? ⟨g, j * 2, none⟩ = some (.bool n2)) (b1 : w.cell? ⟨g, j * 2 + 1, none⟩ = some (.slice o2 l2 c2)) :
    PBlk ((((w.setCell ⟨g, i * 2, none⟩ (.bool n2)).setCell ⟨g, i * 2 + 1, none⟩ (.slice o2 l2 c2)).setCell ⟨g, j * 2, none⟩ (.bool n1)).setCell ⟨g, j * 2 + 1, none⟩ (.slice o1 l1 c1)) g ((p.set i (dig p j)).set j (dig p i)) := by
  obtain ⟨m1, q1, k1, d1, ⟨x0, x1⟩, hI⟩ := h.coef i hi
  obtain ⟨m2, q2, k2, d2, ⟨y0, y1⟩, hJ⟩ := h.coef j hj
  rw [a0] at x0; rw [a1] at x1; rw [b0] at y0; rw [b1] at y1
  cases x0; cases x1; cases y0; cases y1
  have s1 := h.put hi hJ
  have hI' : IntAt ((w.setCell ⟨g, i * 2, none⟩ (.bool n2)).setCell ⟨g, i * 2 + 1, none⟩ (.slice o2 l2 c2)) n1 o1 l1 c1 (dig p i) := by
    have e1' : (w.setCell ⟨g, i * 2, none⟩ (.bool n2)).cell? ⟨g, i * 2 + 1, none⟩ = some (.slice o1 l1 c1) := by simp [go_sem, a0, a1]
    exact (hI.cellKept a0 (fun z e => by cases e) _).cellKept e1' (fun z e => by cases e) _
  exact s1.put (by simpa using hj) hI'
theorem PolyAt.drop {w : World} {ao : Option Addr} {len cap : Nat} {p : List Int} (h : PolyAt w ao len cap p) {b off : Nat} (ha : ao = some ⟨b, off, none⟩) {n : Nat} (hn : n ≤ len) : PolyAt w (some ⟨b, off + n * 2, none⟩) (len - n) (cap - n) (p.drop n) := by
  refine ⟨by have := h.hlen; simp; omega, by have := h.hcap; omega, fun e => (by cases e), ?_⟩
  rcases h.hat with h0 | ⟨b', off', h1, h2⟩
  · exact Or.inl (by omega)
  · rw [ha] at h1; cases h1
    refine Or.inr ⟨b, off + n * 2, rfl, fun t ht => ?_⟩
    rw [dig_drop]
    have := h2 (n + t) (by omega)
    rw [show off + (n + t) * 2 = off + n * 2 + t * 2 by omega] at this
    exact this
set_option maxRecDepth 100000 in
set_option maxHeartbeats 1000000 in
theorem reverse_nil (w : World) :
    Calls Tryz.prog 69 #[.slice none 0 0] w fun e w' => e = .returned (.tuple #[]) ∧ w' = w := by
  go_enter Tryz.func69, Tryz.ntmps69
  go_wp2
  go_loopw [2, 3] (fun i j wr => i = .int .i64 0 ∧ j = .int .i64 (-1) ∧ wr = w) (fun i j _ => 0)
  case atStart => exact ⟨rfl, rfl, rfl⟩
  case round =>
    obtain ⟨rfl, rfl, rfl⟩ := hrel
    go_wp2
    go_end0
    exact ⟨rfl, rfl⟩
end Go.Proofs.YtdanaebhjkbfmaaGreat
/- Walks: a polynomial turned. -/
namespace Go.Proofs.YtdanaebhjkbfmaaGreat
open Go.RowKit
set_option linter.unusedVariables false
set_option linter.unusedSimpArgs false
end Go.Proofs.YtdanaebhjkbfmaaGreat
