/-
  A pack of walks and facts: UC, UD, UE.
-/
import Derived.Test.YtojmlcignlcbhaaGreatPF10
set_option maxRecDepth 100000
set_option maxHeartbeats 40000000
set_option linter.unusedVariables false
set_option linter.unusedSimpArgs false
namespace Go.Proofs.YtojmlcignlcbhaaGreat
open Go.RowKit
theorem pat_any (ao : Option Addr) (len cap k : Nat) (p : List Int) (w : World) (hp : PolyAt w ao len cap p) :
  Calls Tryz.prog 40 #[.slice ao len cap, .int .i64 (k : Int)] w fun e w' => RefInt w w' e (dig p k) := by
 have hbW : Below w.heap.size w (w.alloc (.cells #[.bool false, .slice none 0 0] 28)) := (Below.refl _ _).alloc (Nat.le_refl _) _
 by_cases hk : k < len
 ·
  obtain ⟨b, off, n1, ao1, l1, c1, rfl, h0', h1', hi⟩ := hp.at hk
  have h0 := (hbW.cell (p := ⟨b, off + k * 2, none⟩) (cell_lt h0')).trans h0'
  have h1 := (hbW.cell (p := ⟨b, off + k * 2 + 1, none⟩) (cell_lt h1')).trans h1'
  have hk1 : (k : Int) < (len : Int) := by omega
  have HI : Hid (IntAt w n1 ao1 l1 c1 (dig p k)) := hi
  clear hp hi hk h0' h1'
  go_enter Tryz.func40, Tryz.ntmps40
  go_wp2
  exact bodyPost_ret (v := .agg #[.bool n1, .slice ao1 l1 c1]) (by simp [results, Tryz.results40, go_sem]) rfl
   ⟨_, _, _, _, rfl, HI.out.later ((Below.refl _ _).alloc (Nat.le_refl _) _), (Below.refl _ _).alloc (Nat.le_refl _) _⟩
 ·
  have hk1 : ¬ (k : Int) < (len : Int) := by omega
  have HZ : Hid (dig p k = 0) := dig_past (by rw [← hp.hlen]; omega)
  clear hp hk
  go_enter Tryz.func40, Tryz.ntmps40
  go_wp2_with (go_at_call 44; refine (rfrom_any 0 _ (by decide) (by decide)).mono ?_; rintro e w1 ⟨n1, ao1, l1, c1, rfl, hs, ho, hb1⟩; have HS : Hid (IntAt w1 n1 ao1 l1 c1 0) := ho.int hs; clear hs ho; have hf := (Fresh.new w).later hb1 (by simp); obtain ⟨g5, g3, g4⟩ := hf)
  exact bodyPost_ret (v := .agg #[.bool n1, .slice ao1 l1 c1]) (by simp [results, Tryz.results40, go_sem, g3, g4]) rfl
   ⟨_, _, _, _, rfl, ⟨by rw [HZ.out]; exact HS.out.sg, by rw [HZ.out]; exact HS.out.row.kept ⟨g5, g3, g4⟩ _ _⟩, below_store (bnext hbW hb1) (Nat.le_refl _) _ _⟩
theorem ptrim_any (ao : Option Addr) (len cap : Nat) (p : List Int) (w : World) (hp : PolyAt w ao len cap p) (hl : len ≤ 1048576) :
  Calls Tryz.prog 41 #[.slice ao len cap] w fun e w' => ∃ m, m = (trimL p).length ∧ e = .returned (.slice ao m cap) ∧ PolyAt w' ao m cap (trimL p) ∧ Below w.heap.size w w' := by
 have HP : Hid (PolyAt w ao len cap p ∧ len = p.length) := ⟨hp, hp.hlen⟩
 have hcap := hp.hcap
 have hnil := hp.hnil
 clear hp
 go_enter Tryz.func41, Tryz.ntmps41
 go_wp2
 go_loopw [3] (fun i wr => ∃ k : Nat, k ≤ len ∧ i = .int .i64 (k : Int) ∧ Below w.heap.size w wr ∧ trimN p k = trimN p len) (fun i _ => (intOf i).toNat)
 case atStart => exact ⟨len, Nat.le_refl _, rfl, Below.refl _ _, rfl⟩
 case round =>
  obtain ⟨k, hk, rfl, hbel, htr⟩ := hrel
  have HT : Hid (trimN p k = trimN p len) := htr
  clear htr
  have hfin : ∀ W', Below w.heap.size w W' → trimN p k = k → ∃ m, m = (trimL p).length ∧ Ending.returned (.slice ao k cap) = .returned (.slice ao m cap) ∧ PolyAt W' ao m cap (trimL p) ∧ Below w.heap.size w W' := fun W' hb he => by
   have e1 : (trimL p).length = k := by rw [trimL_len, ← HP.out.2, ← HT.out, he]
   refine ⟨k, e1.symm, rfl, ?_, hb⟩
   have := (HP.out.1.later hb).take hk
   unfold trimL
   rw [← HP.out.2, ← HT.out, he]; exact this
  have HF : Hid (∀ W', Below w.heap.size w W' → trimN p k = k → ∃ m, m = (trimL p).length ∧ Ending.returned (.slice ao k cap) = .returned (.slice ao m cap) ∧ PolyAt W' ao m cap (trimL p) ∧ Below w.heap.size w W') := hfin
  clear hfin
  have y2 : (k : Int) ≤ (cap : Int) := by omega
  have y1 : (0 : Int) ≤ (k : Int) := by omega
  by_cases hk0 : k = 0
  ·
   subst hk0
   go_wp2
   go_ret
   exact HF.out _ hbel rfl
  ·
   obtain ⟨i, rfl⟩ : ∃ i, k = i + 1 := ⟨k - 1, by omega⟩
   have hpI : (0 : Int) < ((i + 1 : Nat) : Int) := by omega
   have hidx : ((i + 1 : Nat) : Int) - 1 = (i : Int) := by omega
   have hil : (i : Int) < (len : Int) := by omega
   have hi0 : (0 : Int) ≤ (i : Int) := by omega
   obtain ⟨b, off, n1, ao1, l1, c1, rfl, e0, e1, hi1⟩ := (HP.out.1.later hbel).at (show i < len by omega)
   have HI : Hid (l1 = lim (dig p i)) := hi1.lim
   clear hi1 hk0
   by_cases hz : l1 = 0
   ·
    have hcon : ∀ W', Calls Tryz.prog 63 #[.agg #[.bool n1, .slice ao1 l1 c1]] W' fun e w' => e = .returned (.bool true) ∧ Below W'.heap.size W' w' := fun W' => rzero_any n1 ao1 l1 c1 W' true (by simp; omega)
    have HZ : Hid (dig p i = 0) := zero_of_lim (by rw [← HI.out]; exact hz)
    clear hz
    go_wp2_with (go_at_call 63; refine (hcon _).mono ?_; rintro e w1 ⟨rfl, hb1⟩)
    go_roundw
    case rel => exact ⟨i, by omega, by go_num, bnext hbel hb1, by rw [← HT.out, trimN_zero HZ.out]⟩
    case measure => simp [intOf]
   ·
    have hcon : ∀ W', Calls Tryz.prog 63 #[.agg #[.bool n1, .slice ao1 l1 c1]] W' fun e w' => e = .returned (.bool false) ∧ Below W'.heap.size W' w' := fun W' => rzero_any n1 ao1 l1 c1 W' false (by simp; omega)
    have HZ : Hid (dig p i ≠ 0) := fun e => hz (by rw [HI.out, e]; exact lim_zero)
    clear hz
    go_wp2_with (go_at_call 63; refine (hcon _).mono ?_; rintro e w1 ⟨rfl, hb1⟩)
    go_ret
    exact HF.out _ (bnext hbel hb1) (trimN_keep HZ.out)
end Go.Proofs.YtojmlcignlcbhaaGreat
namespace Go.Proofs.YtojmlcignlcbhaaGreat
open Go.RowKit
theorem pplus_any (ao bo : Option Addr) (la ca lb cb A N : Nat) (p s : List Int) (w : World) (hp : PolyAt w ao la ca p) (hs : PolyAt w bo lb cb s) (hla : la ≤ 1000) (hlb : lb ≤ 1000) (hA : A ≤ 100000) (hlp : Lim A p) (hls : Lim A s) (hN : N = max la lb) :
  Calls Tryz.prog 9 #[.slice ao la ca, .slice bo lb cb] w fun e w' => NewPolyB w w' e (trimL (tab N fun i => dig p i + dig s i)) := by
 have HR : Hid (PolyAt w ao la ca p ∧ PolyAt w bo lb cb s ∧ Lim A p ∧ Lim A s ∧ A ≤ 100000) := ⟨hp, hs, hlp, hls, hA⟩
 have h1N : la ≤ N := by omega
 have h2N : lb ≤ N := by omega
 have h3N : N ≤ 1000 := by omega
 have h4N : ∀ k, k < N → k < la ∨ k < lb := fun k hk => by omega
 clear hp hs hlp hls hA hN
 obtain ⟨i0, hi, hz0, hz1, hz2⟩ := info_parts infoInt
 go_enter Tryz.func9, Tryz.ntmps9
 go_wp2
 go_loopw [5, 6] (fun v i wr => ∃ k : Nat, k ≤ N ∧ i = .int .i64 (k : Int) ∧ Below w.heap.size w wr ∧ LRow w.heap.size wr v (rsOf (tab k fun i => dig p i + dig s i))) (fun _ i _ => N - (intOf i).toNat)
 case atStart => exact ⟨0, Nat.zero_le _, rfl, Below.refl _ _, LRow.nil _ _⟩
 case round =>
  obtain ⟨k, hk, rfl, hbel, hL⟩ := hrel
  have HLR := hL
  obtain ⟨xs, hown, hx⟩ := hL
  rw [rsOf_len, tab_len] at hown
  obtain ⟨vo, vc, rfl, _⟩ := lrow_cells hown
  have HX : Hid (wr.ownsRow w.heap.size 28 2 (.slice vo k vc) k xs ∧ Elems w.heap.size wr xs (rsOf (tab k fun i => dig p i + dig s i)) ∧ LRow w.heap.size wr (.slice vo k vc) (rsOf (tab k fun i => dig p i + dig s i))) := ⟨hown, hx, HLR⟩
  clear hown hx HLR
  by_cases hlt : k < N
  ·
   have h63 : Hid (k + 1 ≤ maxLen) := by show _ ≤ _; unfold maxLen; omega
   have hby : Hid ((k + 1) * 32 ≤ 140737488355328) := by show _ ≤ _; omega
   have hg : (((k : Int) < (la : Int)) ∧ True) ∨ ((¬ (k : Int) < (la : Int)) ∧ ((k : Int) < (lb : Int))) := by
    by_cases q : (k : Int) < (la : Int)
    ·
     exact Or.inl ⟨q, trivial⟩
    ·
     exact Or.inr ⟨q, by rcases h4N k hlt with q2 | q2 <;> omega⟩
   clear h4N
   rcases hg with ⟨g1, g2⟩ | ⟨g1, g2⟩
   all_goals
    go_wp2_with (first
     | (at_builtin; refine wpList_append_own _ rfl _ _ 24 rfl w.heap.size 28 i0 (.agg #[.bool false, .slice none 0 0]) 2 32 Tryz.underlying24 hi hz0 hz1 hz2 rfl (by decide) _ _ _ rfl (owns_later2 HX.out.1 hA3) ⟨w3.heap.size, 0, none⟩ 1 1 [.bool n3, .slice ao3 l3 c3] rfl rfl (World.news_of_block (cs := #[.bool n3, .slice ao3 l3 c3]) (t := 28) (fr := (0, 0)) (heap_alloc_new w3 _)) (by simp [Value.oneCell']) h63.out hby.out (Nat.le_trans hbel.size hA3.size) ?_; intro v4 w4 hown4 hgrow hnil)
     | (go_at_call 39; refine (rplus_new n1 n2 ao1 ao2 l1 c1 l2 c2 (dig p k) (dig s k) _ H2.out.2.1 H2.out.1 (by omega) (by omega)).mono ?_; rintro e w3 ⟨n3, ao3, l3, c3, rfl, hs3, ho3, hb3⟩; have H3 : Hid (n3 = sgB (dig p k + dig s k) ∧ Own w.heap.size w3 .u64 74 ao3 l3 c3 (mag (dig p k + dig s k).natAbs)) := ⟨hs3, ho3.mono (Nat.le_trans hbel.size H2.out.2.2.size)⟩; have hA3 : Below wr.heap.size wr (w3.alloc (.cells #[.bool n3, .slice ao3 l3 c3] 28)) := bnext (bnext H2.out.2.2 hb3) ((Below.refl _ _).alloc (Nat.le_refl _) _); clear hs3 ho3 hb3)
     | (go_at_call 40; have _t := H1; refine (pat_any bo lb cb k s _ (HR.out.2.1.later (bnext hbel H1.out.2))).mono ?_; rintro e w2 ⟨n2, ao2, l2, c2, rfl, hi2, hb2⟩; have H2 : Hid (IntAt w2 n2 ao2 l2 c2 (dig s k) ∧ IntAt w2 n1 ao1 l1 c1 (dig p k) ∧ Below wr.heap.size wr w2) := ⟨hi2, H1.out.1.later hb2, bnext H1.out.2 hb2⟩; have hl2 : l2 ≤ 100000 := (by rw [hi2.lim]; exact Nat.le_trans (HR.out.2.2.2.1 k) HR.out.2.2.2.2); clear hi2 hb2)
     | (go_at_call 40; refine (pat_any ao la ca k p _ (HR.out.1.later hbel)).mono ?_; rintro e w1 ⟨n1, ao1, l1, c1, rfl, hi1, hb1⟩; have H1 : Hid (IntAt w1 n1 ao1 l1 c1 (dig p k) ∧ Below wr.heap.size wr w1) := ⟨hi1, hb1⟩; have hl1 : l1 ≤ 100000 := (by rw [hi1.lim]; exact Nat.le_trans (HR.out.2.2.1 k) HR.out.2.2.2.2); clear hi1 hb1))
    go_roundw
    case rel =>
     refine ⟨k + 1, by omega, by go_num, grown_owns2 (bnext hbel hA3) (Nat.le_trans hbel.size hA3.size) (owns_later2 HX.out.1 hA3) hgrow, ?_⟩
     rw [rsOf_tab, ← H3.out.1]
     exact lrow_push (by rw [rsOf_len, tab_len]) (owns_later2 HX.out.1 hA3) (HX.out.2.1.later hA3) (own_alloc H3.out.2) hown4 hgrow
    case measure => simp [intOf]; omega
  ·
   obtain rfl : k = N := by omega
   have g1 : ¬ (k : Int) < (la : Int) := by omega
   have g2 : ¬ (k : Int) < (lb : Int) := by omega
   clear h4N
   go_wp2_with (go_at_call 41; refine (ptrim_any vo k vc _ _ HX.out.2.2.polyAt (by omega)).mono ?_; rintro e w1 ⟨m, hm, rfl, hp1, hb1⟩; clear hm)
   go_ret
   exact ⟨_, _, _, rfl, hp1, owns_base HX.out.1, bnext hbel hb1⟩
end Go.Proofs.YtojmlcignlcbhaaGreat
namespace Go.Proofs.YtojmlcignlcbhaaGreat
open Go.RowKit
theorem pscale_any (ao : Option Addr) (la ca A : Nat) (p : List Int) (n : Bool) (co : Option Addr) (lc cc : Nat) (c : Int) (w : World) (hp : PolyAt w ao la ca p) (hv : IntAt w n co lc cc c) (hla : la ≤ 1000) (hA : A ≤ 100000) (hlp : Lim A p) (hlc : lc ≤ 100000) :
    Calls Tryz.prog 17 #[.slice ao la ca, .agg #[.bool n, .slice co lc cc]] w fun e w' => NewPolyB w w' e (trimL (tab la fun i => dig p i * c)) := by
  obtain ⟨W, hW⟩ : ∃ W, W = w.alloc (.cells #[.bool n, .slice co lc cc] 28) := ⟨_, rfl⟩
  have HW : Hid (Below w.heap.size w W ∧ Boxed W w.heap.size n co lc cc ∧ w.heap.size < W.heap.size) := by rw [hW]; exact ⟨(Below.refl _ _).alloc (Nat.le_refl _) _, ⟨by simp [go_sem], by simp [go_sem]⟩, by simp⟩
  have HR : Hid (PolyAt W ao la ca p ∧ IntAt W n co lc cc c ∧ Lim A p ∧ A ≤ 100000) := ⟨hp.later HW.out.1, hv.later HW.out.1, hlp, hA⟩
  have HE : Hid (W = w.alloc (.cells #[.bool n, .slice co lc cc] 28)) := hW
  clear hp hv hlp hA hW
  obtain ⟨i0, hi, hz0, hz1, hz2⟩ := info_parts infoInt
  go_enter Tryz.func17, Tryz.ntmps17
  go_wp2
  go_loopw [5, 6] (fun v i wr => ∃ k : Nat, k ≤ la ∧ i = .int .i64 (k : Int) ∧ Below W.heap.size W wr ∧ LRow W.heap.size wr v (rsOf (tab k fun i => dig p i * c))) (fun _ i _ => la - (intOf i).toNat)
  case atStart => exact ⟨0, Nat.zero_le _, rfl, by rw [← HE.out]; exact Below.refl _ _, LRow.nil _ _⟩
  case round =>
    obtain ⟨k, hk, rfl, hbel, hL⟩ := hrel
    have HLR := hL
    obtain ⟨xs, hown, hx⟩ := hL
    rw [rsOf_len, tab_len] at hown
    obtain ⟨vo, vc, rfl, _⟩ := lrow_cells hown
    have HX : Hid (wr.ownsRow W.heap.size 28 2 (.slice vo k vc) k xs ∧ Elems W.heap.size wr xs (rsOf (tab k fun i => dig p i * c)) ∧ LRow W.heap.size wr (.slice vo k vc) (rsOf (tab k fun i => dig p i * c))) := ⟨hown, hx, HLR⟩
    clear hown hx HLR
    by_cases hlt : k < la
    · have h63 : Hid (k + 1 ≤ maxLen) := by show _ ≤ _; unfold maxLen; omega
      have hby : Hid ((k + 1) * 32 ≤ 140737488355328) := by show _ ≤ _; omega
      have HAT : Hid (∃ b off n1 ao1 l1 c1, ao = some ⟨b, off, none⟩ ∧ W.cell? ⟨b, off + k * 2, none⟩ = some (.bool n1) ∧ W.cell? ⟨b, off + k * 2 + 1, none⟩ = some (.slice ao1 l1 c1) ∧ IntAt W n1 ao1 l1 c1 (dig p k)) := HR.out.1.at hlt
      obtain ⟨b, off, n1, ao1, l1, c1, rfl, f0, f1, hi1⟩ := (HR.out.1.later hbel).at hlt
      obtain ⟨q0, q1⟩ := HW.out.2.1.later hbel HW.out.2.2
      have HI : Hid (IntAt wr n1 ao1 l1 c1 (dig p k) ∧ IntAt wr n co lc cc c) := ⟨hi1, HR.out.2.1.later hbel⟩
      have hl1 : l1 ≤ 100000 := by rw [hi1.lim]; exact Nat.le_trans (HR.out.2.2.1 k) HR.out.2.2.2
      have z1 : (0 : Int) ≤ (k : Int) := by omega
      have z2 : (k : Int) < (la : Int) := by omega
      clear hi1
      go_wp2
      have KS : Hid (∀ w', Below W.heap.size W w' → w'.cell? ⟨b, off + k * 2, none⟩ = some (.bool n1) ∧ w'.cell? ⟨b, off + k * 2 + 1, none⟩ = some (.slice ao1 l1 c1) ∧ w'.cell? ⟨w.heap.size, 0, none⟩ = some (.bool n) ∧ w'.cell? ⟨w.heap.size, 1, none⟩ = some (.slice co lc cc)) := fun w' hb => by
        obtain ⟨b', off', n1', ao1', l1', c1', e', f0', f1', _⟩ := HAT.out
        cases e'
        have e0 := (hbel.cell (p := ⟨b, off + k * 2, none⟩) (cell_lt f0')).trans f0'
        have e1 := (hbel.cell (p := ⟨b, off + k * 2 + 1, none⟩) (cell_lt f1')).trans f1'
        rw [f0] at e0; rw [f1] at e1
        rw [← e0] at f0'; rw [← e1] at f1'
        exact ⟨(hb.cell (p := ⟨b, off + k * 2, none⟩) (cell_lt f0')).trans f0', (hb.cell (p := ⟨b, off + k * 2 + 1, none⟩) (cell_lt f1')).trans f1', HW.out.2.1.later hb HW.out.2.2⟩
      refine wp_region_noPanic ?_
      refine wp_region_held_drew (S := fun w' => (w'.cell? ⟨b, off + k * 2, none⟩ = some (.bool n1) ∧ w'.cell? ⟨b, off + k * 2 + 1, none⟩ = some (.slice ao1 l1 c1) ∧ w'.cell? ⟨w.heap.size, 0, none⟩ = some (.bool n) ∧ w'.cell? ⟨w.heap.size, 1, none⟩ = some (.slice co lc cc))) (by kernel_rfl) (by (try dsimp only); exact KS.out _ hbel.drew) (fun hHeld => ?_)
      refine wpAnyH_take (i := 0) (oi := Oper.mk (some 13) _ _ _ _ _) (v := ?_) rfl (by decide +kernel) (by decide +kernel) (by decide +kernel) (fun _ _ _ h => h) (Or.inl ⟨by rfl, ?_⟩) (by assumption) ?_
      rotate_left
      · (intro w hSw; (try dsimp only at hSw); go_simp <;> (try with_reducible rfl))
      (try simp only [Act.put, List.setIfInBounds_toArray, List.set_cons_zero, List.set_cons_succ])
      refine wpAnyH_take (i := 1) (oi := Oper.mk (some 14) _ _ _ _ _) (v := ?_) rfl (by decide +kernel) (by decide +kernel) (by decide +kernel) (fun _ _ _ h => h) (Or.inl ⟨by rfl, ?_⟩) (by assumption) ?_
      rotate_left
      · (intro w hSw; (try dsimp only at hSw); go_simp <;> (try with_reducible rfl))
      (try simp only [Act.put, List.setIfInBounds_toArray, List.set_cons_zero, List.set_cons_succ])
      refine wpAnyH_take (i := 2) (oi := Oper.mk (some 15) _ _ _ _ _) (v := ?_) rfl (by decide +kernel) (by decide +kernel) (by decide +kernel) (fun _ _ _ h => h) (Or.inl ⟨by rfl, ?_⟩) (by assumption) ?_
      rotate_left
      · (intro w hSw; (try dsimp only at hSw); go_simp <;> (try with_reducible rfl))
      (try simp only [Act.put, List.setIfInBounds_toArray, List.set_cons_zero, List.set_cons_succ])
      refine wpAnyH_take (i := 3) (oi := Oper.mk (some 16) _ _ _ _ _) (v := ?_) rfl (by decide +kernel) (by decide +kernel) (by decide +kernel) (fun _ _ _ h => h) (Or.inl ⟨by rfl, ?_⟩) (by assumption) ?_
      rotate_left
      · (intro w hSw; (try dsimp only at hSw); go_simp <;> (try with_reducible rfl))
      (try simp only [Act.put, List.setIfInBounds_toArray, List.set_cons_zero, List.set_cons_succ])
      refine wpAnyH_take (i := 4) (oi := Oper.mk (some 17) _ _ _ _ _) (v := ?_) rfl (by decide +kernel) (by decide +kernel) (by decide +kernel) (fun _ _ _ h => h) (Or.inl ⟨by rfl, ?_⟩) (by assumption) ?_
      rotate_left
      · (intro w hSw; (try dsimp only at hSw); go_simp <;> (try with_reducible rfl))
      (try simp only [Act.put, List.setIfInBounds_toArray, List.set_cons_zero, List.set_cons_succ])
      refine wpAnyH_take (i := 5) (oi := Oper.mk (some 18) _ _ _ _ _) (v := ?_) rfl (by decide +kernel) (by decide +kernel) (by decide +kernel) (fun _ _ _ h => h) (Or.inl ⟨by rfl, ?_⟩) (by assumption) ?_
      rotate_left
      · (intro w hSw; (try dsimp only at hSw); go_simp <;> (try with_reducible rfl))
      (try simp only [Act.put, List.setIfInBounds_toArray, List.set_cons_zero, List.set_cons_succ])
      refine wpAnyH_ready (rs := [6]) (by decide +kernel) (by simp) ?_
      refine AllReadyH.cons (o := Oper.mk (some 19) _ _ _ _ _) rfl (fun K hK => ?_) AllReadyH.nil
      go_simp
      (go_at_call 42; refine (rtimes_any n1 n ao1 co l1 c1 lc cc (dig p k) c _ (HI.out.1.later (Below.refl _ _).drew) (HI.out.2.later (Below.refl _ _).drew) (by omega) (by omega)).mono ?_; rintro e w3 ⟨n3, ao3, l3, c3, rfl, hs3, ho3, hb3'⟩; have hb3 : Below wr.heap.size wr w3 := bnext (Below.refl _ _).drew hb3'; have H3 : Hid (n3 = sgB (dig p k * c) ∧ Own W.heap.size w3 .u64 74 ao3 l3 c3 (mag (dig p k * c).natAbs)) := ⟨hs3, ho3.mono (by have := hbel.size; simpa using this)⟩; have hA3 : Below wr.heap.size wr (w3.alloc (.cells #[.bool n3, .slice ao3 l3 c3] 28)) := bnext hb3 ((Below.refl _ _).alloc (Nat.le_refl _) _); clear hs3 ho3 hb3')
      (try go_wp2_with fail)
      clear hHeld
      refine hK.out _ _ (by (try dsimp only); exact KS.out _ (bnext hbel hb3)) (fun hHeld => ?_)
      clear hK K
      (try simp only [Act.put, List.setIfInBounds_toArray, List.set_cons_zero, List.set_cons_succ])
      refine wpAnyH_ready (rs := [7]) (by decide +kernel) (by simp) ?_
      refine AllReadyH.cons (o := Oper.mk (some 20) _ _ _ _ _) rfl (fun K hK => ?_) AllReadyH.nil
      go_simp
      clear hHeld
      refine hK.out _ _ (by (try dsimp only); exact KS.out _ (bnext hbel hA3)) (fun hHeld => ?_)
      clear hK K
      (try simp only [Act.put, List.setIfInBounds_toArray, List.set_cons_zero, List.set_cons_succ])
      refine wpAnyH_ready (rs := [8]) (by decide +kernel) (by simp) ?_
      refine AllReadyH.cons (o := Oper.mk (some 21) _ _ _ _ _) rfl (fun K hK => ?_) AllReadyH.nil
      (refine wp_append_own _ _ _ 24 rfl W.heap.size 28 i0 (.agg #[.bool false, .slice none 0 0]) 2 32 Tryz.underlying24 hi hz0 hz1 hz2 rfl (by decide) _ _ _ rfl (owns_later2 HX.out.1 hA3) ⟨w3.heap.size, 0, none⟩ 1 1 [.bool n3, .slice ao3 l3 c3] rfl rfl (World.news_of_block (cs := #[.bool n3, .slice ao3 l3 c3]) (t := 28) (fr := (0, 0)) (heap_alloc_new w3 _)) (by simp [Value.oneCell']) h63.out hby.out (Nat.le_trans hbel.size hA3.size) ?_; intro v4 w4 hown4 hgrow hnil; have hb4 : Below W.heap.size W w4 := grown_owns2 (bnext hbel hA3) (Nat.le_trans hbel.size hA3.size) (owns_later2 HX.out.1 hA3) hgrow)
      clear hHeld
      refine hK.out _ _ (by (try dsimp only); exact KS.out _ hb4) (fun hHeld => ?_)
      clear hK K
      (try simp only [Act.put, List.setIfInBounds_toArray, List.set_cons_zero, List.set_cons_succ])
      refine wpAnyH_take (i := 9) (oi := Oper.mk (some 5) _ _ _ _ _) (v := ?_) rfl (by decide +kernel) (by decide +kernel) (by decide +kernel) (fun _ _ _ h => h) (Or.inl ⟨by rfl, ?_⟩) (by assumption) ?_
      rotate_left
      · (intro w hSw; (try dsimp only at hSw); go_simp <;> (try with_reducible rfl))
      (try simp only [Act.put, List.setIfInBounds_toArray, List.set_cons_zero, List.set_cons_succ])
      refine wpAnyH_done (by decide +kernel) ?_ _
      refine NoPanic.normal ?_
      all_goals go_wp2
      all_goals go_roundw
      all_goals first
        | (refine ⟨k + 1, by omega, by go_num, grown_owns2 (bnext hbel hA3) (Nat.le_trans hbel.size hA3.size) (owns_later2 HX.out.1 hA3) hgrow, ?_⟩
           rw [rsOf_tab, ← H3.out.1]
           exact lrow_push (by rw [rsOf_len, tab_len]) (owns_later2 HX.out.1 hA3) (HX.out.2.1.later hA3) (own_alloc H3.out.2) hown4 hgrow)
        | (simp [intOf]; omega)
    · obtain rfl : k = la := by omega
      go_wp2_with (go_at_call 41; refine (ptrim_any vo k vc _ _ HX.out.2.2.polyAt (by omega)).mono ?_; rintro e w1 ⟨m, hm, rfl, hp1, hb1⟩; clear hm)
      go_ret
      exact ⟨_, _, _, rfl, hp1, fun a ha => Nat.le_trans HW.out.1.size (owns_base HX.out.1 a ha), bnext HW.out.1 (bnext hbel hb1)⟩
theorem neg_tab (p : List Int) {la : Nat} (h : la = p.length) (hL : Lead p) : trimL (tab la fun i => dig p i * -1) = tab la fun i => -dig p i := by
  have e : (tab la fun i => dig p i * -1) = tab la fun i => -dig p i := tab_congr fun t _ => by omega
  rw [e]
  refine trimL_of_lead fun h0 => ?_
  rw [tab_len] at h0 ⊢
  rw [tab_dig _ (by omega)]
  have := hL (by omega)
  rw [← h] at this
  omega
theorem pneg_any (ao : Option Addr) (la ca A : Nat) (p : List Int) (w : World) (hp : PolyAt w ao la ca p) (hla : la ≤ 1000) (hA : A ≤ 100000) (hlp : Lim A p) :
    Calls Tryz.prog 13 #[.slice ao la ca] w fun e w' => NewPolyB w w' e (trimL (tab la fun i => dig p i * -1)) := by
  have HP : Hid (PolyAt w ao la ca p ∧ Lim A p) := ⟨hp, hlp⟩
  clear hp hlp
  go_enter Tryz.func13, Tryz.ntmps13
  go_wp2_with (first
    | (go_at_call 44; refine (rfrom_any (-1) _ (by decide) (by decide)).mono ?_; rintro e w1 ⟨n1, ao1, l1, c1, rfl, hs, ho, hb1⟩; have HI : Hid (IntAt w1 n1 ao1 l1 c1 (-1)) := ho.int hs; have hl1 : l1 ≤ 100000 := (by rw [(ho.int hs).lim]; decide); clear hs ho)
    | (go_at_call 17; refine (pscale_any ao la ca A p n1 ao1 l1 c1 (-1) _ (HP.out.1.later hb1) HI.out hla hA HP.out.2 hl1).mono ?_; rintro e w2 ⟨ao2, l2, c2, rfl, hp2, hn2, hb2⟩))
  go_ret
  exact ⟨_, _, _, rfl, hp2, fun a ha => Nat.le_trans hb1.size (hn2 a ha), bnext hb1 hb2⟩
theorem pless_any (ao bo : Option Addr) (la ca lb cb A N : Nat) (p s : List Int) (w : World) (hp : PolyAt w ao la ca p) (hs : PolyAt w bo lb cb s) (hla : la ≤ 1000) (hlb : lb ≤ 1000) (hA : A ≤ 100000) (hlp : Lim A p) (hls : Lim A s) (hLs : Lead s) (hN : N = max la lb) :
    Calls Tryz.prog 10 #[.slice ao la ca, .slice bo lb cb] w fun e w' => NewPolyB w w' e (trimL (tab N fun i => dig p i - dig s i)) := by
  have HP : Hid (PolyAt w ao la ca p ∧ Lim A p ∧ PolyAt w bo lb cb s ∧ Lim A s ∧ Lead s ∧ N = max la lb) := ⟨hp, hlp, hs, hls, hLs, hN⟩
  have hneg : Calls Tryz.prog 13 #[.slice bo lb cb] w fun e w' => NewPolyB w w' e (tab lb fun i => -dig s i) := (pneg_any bo lb cb A s w hs hlb hA hls).mono fun e w' h => by rw [neg_tab s hs.hlen hLs] at h; exact h
  clear hp hlp hs hls hLs hN
  have HT : Hid ((tab N fun i => dig p i + dig (tab lb fun i => -dig s i) i) = tab N fun i => dig p i - dig s i) := tab_congr fun t ht => by
    by_cases e : t < lb
    · rw [tab_dig _ e]; omega
    · rw [dig_past (s := tab lb fun i => -dig s i) (by rw [tab_len]; omega), dig_past (s := s) (by rw [← HP.out.2.2.1.hlen]; omega)]; omega
  have HLM : Hid (Lim A (tab lb fun i => -dig s i)) := tab_lim fun t _ => by rw [lim_neg]; exact HP.out.2.2.2.1 t
  go_enter Tryz.func10, Tryz.ntmps10
  go_wp2_with (first
    | (go_at_call 13; refine hneg.mono ?_; rintro e w1 ⟨ao1, l1, c1, rfl, hp1, hn1, hb1⟩; clear hn1; have H1 : Hid (PolyAt w1 ao1 l1 c1 (tab lb fun i => -dig s i) ∧ l1 = lb) := ⟨hp1, by rw [hp1.hlen, tab_len]⟩; clear hp1)
    | (go_at_call 9; refine (pplus_any ao ao1 la ca l1 c1 A N p (tab lb fun i => -dig s i) _ (HP.out.1.later hb1) H1.out.1 hla (by have := H1.out.2; omega) hA HP.out.2.1 HLM.out (by have := H1.out.2; have := HP.out.2.2.2.2.2; omega)).mono ?_; rintro e w2 ⟨ao2, l2, c2, rfl, hp2, hn2, hb2⟩; have H2 : Hid (PolyAt w2 ao2 l2 c2 (trimL (tab N fun i => dig p i - dig s i))) := (by rw [HT.out] at hp2; exact hp2); clear hp2))
  go_ret
  exact ⟨_, _, _, rfl, H2.out, fun a ha => Nat.le_trans hb1.size (hn2 a ha), bnext hb1 hb2⟩
end Go.Proofs.YtojmlcignlcbhaaGreat
