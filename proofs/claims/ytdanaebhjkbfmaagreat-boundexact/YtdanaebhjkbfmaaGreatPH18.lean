/-
  Walks: a polynomial moved, in memory of the call's own.
-/
import Derived.Test.YtdanaebhjkbfmaaGreatPH16
import Derived.Test.YtdanaebhjkbfmaaGreatPH17
namespace Go.Proofs.YtdanaebhjkbfmaaGreat
open Go.RowKit
set_option linter.unusedVariables false
set_option linter.unusedSimpArgs false
set_option maxRecDepth 100000 in
set_option maxHeartbeats 4000000 in
theorem shiftedO_any (ao : Option Addr) (len cap : Nat) (p : List Int) (n : Bool) (co : Option Addr) (lc cc : Nat) (c : Int) (w : World) (hp : PolyAt w ao len cap p) (hl : len ≤ 1048576) (hv : IntAt w n co lc cc c) (hlim : ShLim 1000000000 c p) :
    Calls Tryz.prog 40 #[.slice ao len cap, .agg #[.bool n, .slice co lc cc]] w fun e w' => NewQO w w' e (sh c p) := by
  have hlc : lc ≤ 1000000000 := by rw [hv.lim]; exact hlim.1
  obtain ⟨W, hW⟩ : ∃ W, W = w.alloc (.cells #[.bool n, .slice co lc cc] 28) := ⟨_, rfl⟩
  have HW : Hid (Below w.heap.size w W ∧ Boxed W w.heap.size n co lc cc ∧ w.heap.size < W.heap.size) := by rw [hW]; exact ⟨(Below.refl _ _).alloc (Nat.le_refl _) _, ⟨by simp [go_sem], by simp [go_sem]⟩, by simp⟩
  have hcop := copiedO_any ao len cap p W (hp.later HW.out.1) hl (hlim.2.1.mono (by decide))
  have HR : Hid (IntAt W n co lc cc c ∧ ShLim 1000000000 c p ∧ len = p.length) := ⟨hv.later HW.out.1, hlim, hp.hlen⟩
  have hsl : (sh c p).length = len := by rw [sh_len, ← hp.hlen]
  have HSL : Hid ((sh c p).length = len) := hsl
  clear hp hv hlim hsl
  by_cases h0 : len = 0
  · subst h0
    have hpe : Hid (sh c p = [] ∧ p.length = 0) := ⟨List.eq_nil_of_length_eq_zero HSL.out, HR.out.2.2.symm⟩
    cases hc : decide (c = 0)
    · have hc0 : c ≠ 0 := by simpa using hc
      obtain ⟨cs, hcs⟩ : ∃ cs, cmpI c 0 = cs := ⟨_, rfl⟩
      have hcs1 : (cs == 0) = false := by
        rw [← hcs]; simp; intro e; exact hc0 (cmpI_nil e)
      have HCS : Hid (cmpI c 0 = cs) := hcs
      clear hcs hc hc0
      go_enter Tryz.func40, Tryz.ntmps40
      go_wp2_with (first
        | (go_at_call 64; rw [← hW]; clear hW; refine hcop.mono ?_; intro e w1 hN; rcases hN with ⟨_, rfl, hb1⟩ | ⟨hpos, _⟩; rotate_left 1; exact absurd hpos (by have := hpe.out.2; omega); obtain ⟨q0, q1⟩ := HW.out.2.1.later hb1 HW.out.2.2)
        | (go_at_call 55; refine (bsign_any n co lc cc c _ (HR.out.1.later hb1) (by omega) cs HCS.out).mono ?_; rintro e w2 ⟨rfl, hb2⟩))
      go_loopw [6] (fun i wr => i = .int .i64 (-2) ∧ wr = w2) (fun i _ => 0)
      case atStart => exact ⟨rfl, rfl⟩
      case round =>
        obtain ⟨rfl, rfl⟩ := hrel
        go_wp2
        go_ret
        exact Or.inl ⟨by rw [hpe.out.1]; rfl, rfl, bnext HW.out.1 (bnext hb1 hb2)⟩
    · have hc0 : Hid (cmpI c 0 = 0) := cmpI_eq (by simpa using hc)
      clear hc
      go_enter Tryz.func40, Tryz.ntmps40
      go_wp2_with (first
        | (go_at_call 64; rw [← hW]; clear hW; refine hcop.mono ?_; intro e w1 hN; rcases hN with ⟨_, rfl, hb1⟩ | ⟨hpos, _⟩; rotate_left 1; exact absurd hpos (by have := hpe.out.2; omega); obtain ⟨q0, q1⟩ := HW.out.2.1.later hb1 HW.out.2.2)
        | (go_at_call 55; refine (bsign_any n co lc cc c _ (HR.out.1.later hb1) (by omega) 0 hc0.out).mono ?_; rintro e w2 ⟨rfl, hb2⟩))
      go_ret
      exact Or.inl ⟨by rw [hpe.out.1]; rfl, rfl, bnext HW.out.1 (bnext hb1 hb2)⟩
  · have hcop2 : Calls Tryz.prog 64 #[.slice ao len cap] W fun e w' => ∃ g, e = .returned (.slice (some ⟨g, 0, none⟩) len len) ∧ PBlkO w.heap.size w' g p ∧ W.heap.size ≤ g ∧ g < w'.heap.size ∧ Below W.heap.size W w' := by
      refine hcop.mono fun e w1 hN => ?_
      rcases hN with ⟨hz, _⟩ | ⟨_, g, he, hrest⟩
      · exact absurd hz (by have := HR.out.2.2; omega)
      · exact ⟨g, by rw [HR.out.2.2]; exact he, hrest.1.mono HW.out.1.size, hrest.2⟩
    have HP : Hid (0 < len) := by show 0 < _; omega
    clear hcop
    cases hc : decide (c = 0)
    · have hc0 : c ≠ 0 := by simpa using hc
      obtain ⟨cs, hcs⟩ : ∃ cs, cmpI c 0 = cs := ⟨_, rfl⟩
      have hcs1 : (cs == 0) = false := by
        rw [← hcs]; simp; intro e; exact hc0 (cmpI_nil e)
      have HCS : Hid (cmpI c 0 = cs) := hcs
      clear hcs hc hc0
      go_enter Tryz.func40, Tryz.ntmps40
      go_wp2_with (first
        | (go_at_call 64; rw [← hW]; clear hW; refine hcop2.mono ?_; rintro e w1 ⟨g, rfl, hPB, hg1, hg2, hb1⟩; have HPB : Hid (PBlkO w.heap.size w1 g p ∧ W.heap.size ≤ g) := ⟨hPB, hg1⟩; clear hPB hg1; obtain ⟨q0, q1⟩ := HW.out.2.1.later hb1 HW.out.2.2)
        | (go_at_call 55; refine (bsign_any n co lc cc c _ (HR.out.1.later hb1) (by omega) cs HCS.out).mono ?_; rintro e w2 ⟨rfl, hb2⟩))
      clear q0 q1
      have HG : Hid (W.heap.size ≤ g ∧ g < w2.heap.size ∧ PBlkO w.heap.size w2 g p ∧ Below W.heap.size W w2) := ⟨HPB.out.2, Nat.lt_of_lt_of_le hg2 hb2.size, HPB.out.1.later hb2 hg2, bnext hb1 hb2⟩
      clear HPB hg2 hb1 hb2
      go_loopw [6] (fun i wr => ∃ (k : Nat) (l : List Int), k + 1 ≤ len ∧ i = .int .i64 ((k : Int) - 1) ∧ Below W.heap.size W wr ∧ g < wr.heap.size ∧ PBlkO w.heap.size wr g l ∧ ShOut p c k l) (fun i _ => (intOf i + 1).toNat)
      case atStart => exact ⟨len - 1, p, by have := HP.out; omega, by go_num, HG.out.2.2.2, HG.out.2.1, HG.out.2.2.1, by rw [HR.out.2.2]; exact ShOut.start c (by rw [← HR.out.2.2]; exact HP.out)⟩
      case round =>
        obtain ⟨k, l, hk, rfl, hbel, hgl, hPB, hst⟩ := hrel
        have HS : Hid (PBlkO w.heap.size wr g l ∧ ShOut p c k l ∧ Below W.heap.size W wr) := ⟨hPB, hst, hbel⟩
        clear hPB hst hbel
        by_cases hk0 : k = 0
        · subst hk0
          have HE : Hid (l = sh c p) := HS.out.2.1.done
          go_wp2
          go_ret
          refine Or.inr ⟨by rw [HSL.out]; exact HP.out, g, by show _ = _; rw [HSL.out]; rfl, by rw [← HE.out]; exact HS.out.1, Nat.le_trans (Nat.le_of_lt HW.out.2.2) HG.out.1, hgl, bnext HW.out.1 HS.out.2.2⟩
        · obtain ⟨i, rfl⟩ : ∃ i, k = i + 1 := ⟨k - 1, by omega⟩
          have hki : ((i + 1 : Nat) : Int) - 1 = (i : Int) := by omega
          rw [hki]
          clear hk0 hki
          go_wp2
          go_loopw [7] (fun jj w3 => ∃ (j : Nat) (l : List Int), i ≤ j ∧ j + 1 ≤ len ∧ jj = .int .i64 j ∧ Below W.heap.size W w3 ∧ g < w3.heap.size ∧ PBlkO w.heap.size w3 g l ∧ ShSt p c i j l) (fun jj _ => len - (intOf jj).toNat)
          case atStart => exact ⟨i, l, Nat.le_refl _, by omega, rfl, HS.out.2.2, hgl, HS.out.1, HS.out.2.1.st⟩
          case round =>
            obtain ⟨j, lj, hij, hj, rfl, hbel, hgw, hPB, hst⟩ := hrel
            have HT : Hid (PBlkO w.heap.size wr g lj ∧ ShSt p c i j lj ∧ Below W.heap.size W wr) := ⟨hPB, hst, hbel⟩
            by_cases hjl : j + 1 < len
            · have hlj : lj.length = len := by rw [hst.1]; exact HR.out.2.2.symm
              obtain ⟨n1, ao1, l1, c1, ⟨e0, e1⟩, hi1⟩ := hPB.blk.coef j (by omega)
              obtain ⟨n2, ao2, l2, c2, ⟨f0, f1⟩, hi2⟩ := hPB.blk.coef (j + 1) (by omega)
              have hlm := hst.lims HR.out.2.1 hij (by rw [← HR.out.2.2]; exact hjl)
              have hl1 : l1 ≤ 1000000000 := by rw [hi1.lim]; exact hlm.1
              have hl2 : l2 ≤ 1000000000 := by rw [hi2.lim]; exact hlm.2
              have HI : Hid (IntAt wr n1 ao1 l1 c1 (dig lj j) ∧ IntAt wr n2 ao2 l2 c2 (dig lj (j + 1)) ∧ lj.length = len ∧ lim c ≤ 1000000000 ∧ lim (dig lj (j + 1)) ≤ 1000000000) := ⟨hi1, hi2, hlj, HR.out.2.1.1, hlm.2⟩
              have hfz := hPB.soft
              obtain ⟨b0, b1⟩ := HW.out.2.1.later hbel HW.out.2.2
              have hjI : (j : Int) < (len : Int) - 1 := by omega
              have z1 : (0 : Int) ≤ (j : Int) := by omega
              have z2 : (j : Int) < (len : Int) := by omega
              have z3 : (0 : Int) ≤ (j : Int) + 1 := by omega
              have z4 : (j : Int) + 1 < (len : Int) := by omega
              have z5 : IntKind.i64.wrap ((j : Int) + 1) = (j : Int) + 1 := by rw [IntKind.wrap_i64]; omega
              have z6 : ((j : Int) + 1).toNat = j + 1 := by omega
              clear hPB hst hlj hi1 hi2 hlm
              go_wp2
              go_region_with (first
                | (go_at_call 66; refine (bdtimes_any n n2 co ao2 lc cc l2 c2 c (dig lj (j + 1)) _ ((HR.out.1.later hbel).later (Below.refl _ _).drew) (HI.out.2.1.later (Below.refl _ _).drew) (by omega) (by omega)).mono ?_; rintro e w4 ⟨n3, ao3, l3, c3, rfl, hs3, ho3, hb3'⟩; have hb3 : Below wr.heap.size wr w4 := bnext (Below.refl _ _).drew hb3'; clear hb3'; have HI3 : Hid (IntAt w4 n3 ao3 l3 c3 (c * dig lj (j + 1)) ∧ IntAt w4 n1 ao1 l1 c1 (dig lj j)) := ⟨ho3.int hs3, HI.out.1.later hb3⟩; have hl3 : l3 ≤ 2000000000 := (by have h1 := (ho3.int hs3).lim; have h2 := lim_mul c (dig lj (j + 1)); have h3 := HI.out.2.2.2; omega); clear hs3 ho3; obtain ⟨q0, q1, q2⟩ : w4.cell? ⟨g, j * 2, none⟩ = some (.bool n1) ∧ w4.cell? ⟨g, j * 2 + 1, none⟩ = some (.slice ao1 l1 c1) ∧ (∀ m, w4.frozen? ⟨g, m, none⟩ = false) := ⟨(hb3.cell (p := ⟨g, j * 2, none⟩) hgw).trans e0, (hb3.cell (p := ⟨g, j * 2 + 1, none⟩) hgw).trans e1, fun m => (hb3.frozen (p := ⟨g, m, none⟩) hgw).trans (hfz m)⟩)
                | (go_at_call 65; refine (bdplus_any n1 n3 ao1 ao3 l1 c1 l3 c3 (dig lj j) (c * dig lj (j + 1)) w4 HI3.out.2 HI3.out.1 (by omega) (by omega)).mono ?_; rintro e w5 ⟨n4, ao4, l4, c4, rfl, hs4, ho4, hb4⟩; have HI4 : Hid ((n4 = sgB (dig lj j + c * dig lj (j + 1)) ∧ Own wr.heap.size w5 .u64 73 ao4 l4 c4 (mag (dig lj j + c * dig lj (j + 1)).natAbs)) ∧ Below wr.heap.size wr w5) := ⟨⟨hs4, ho4.mono hb3.size⟩, bnext hb3 hb4⟩; have hb5 : Below wr.heap.size wr w5 := HI4.out.2; obtain ⟨r0, r1, r2⟩ : w5.cell? ⟨g, j * 2, none⟩ = some (.bool n1) ∧ w5.cell? ⟨g, j * 2 + 1, none⟩ = some (.slice ao1 l1 c1) ∧ (∀ m, w5.frozen? ⟨g, m, none⟩ = false) := ⟨(HI4.out.2.cell (p := ⟨g, j * 2, none⟩) hgw).trans e0, (HI4.out.2.cell (p := ⟨g, j * 2 + 1, none⟩) hgw).trans e1, fun m => (HI4.out.2.frozen (p := ⟨g, m, none⟩) hgw).trans (hfz m)⟩; clear hs4 ho4 hb4))
              all_goals go_wp2
              all_goals go_roundw
              all_goals first
                | exact ⟨j + 1, lj.set j (dig lj j + c * dig lj (j + 1)), by omega, by omega, by go_num, ((bnext HT.out.2.2 hb5).setCell (p := ⟨g, j * 2, none⟩) HG.out.1 _).setCell (p := ⟨g, j * 2 + 1, none⟩) HG.out.1 _, by (have := hb5.size; simp; omega), HT.out.1.put hb5 hgw (Nat.le_trans HW.out.1.size HT.out.2.2.size) (by have := HI.out.2.2.1; omega) HI4.out.1.1 HI4.out.1.2, HT.out.2.1.step hij (by rw [← HR.out.2.2]; exact hjl)⟩
                | (simp [intOf]; omega)
            · obtain rfl : len = j + 1 := by omega
              have HO : Hid (ShOut p c i lj) := ShSt.out (by have := HT.out.2.1; rw [← HR.out.2.2]; exact this) (by rw [← HR.out.2.2]; omega)
              go_wp2
              go_roundw
              case rel => exact ⟨i, lj, by omega, by go_num, HT.out.2.2, hgw, HT.out.1, HO.out⟩
              case measure => simp [intOf]
    · have hc0 : Hid (cmpI c 0 = 0 ∧ sh c p = p) := ⟨cmpI_eq (by simpa using hc), by rw [show c = 0 by simpa using hc]; exact sh_zero p⟩
      clear hc
      go_enter Tryz.func40, Tryz.ntmps40
      go_wp2_with (first
        | (go_at_call 64; rw [← hW]; clear hW; refine hcop2.mono ?_; rintro e w1 ⟨g, rfl, hPB, hg1, hg2, hb1⟩; have HPB : Hid (PBlkO w.heap.size w1 g p ∧ W.heap.size ≤ g) := ⟨hPB, hg1⟩; clear hPB hg1; obtain ⟨q0, q1⟩ := HW.out.2.1.later hb1 HW.out.2.2)
        | (go_at_call 55; refine (bsign_any n co lc cc c _ (HR.out.1.later hb1) (by omega) 0 hc0.out.1).mono ?_; rintro e w2 ⟨rfl, hb2⟩))
      go_ret
      exact Or.inr ⟨by rw [HSL.out]; exact HP.out, g, by show _ = _; rw [HSL.out]; rfl, by rw [hc0.out.2]; exact HPB.out.1.later hb2 hg2, Nat.le_trans (Nat.le_of_lt HW.out.2.2) HPB.out.2, Nat.lt_of_lt_of_le hg2 hb2.size, bnext HW.out.1 (bnext hb1 hb2)⟩
end Go.Proofs.YtdanaebhjkbfmaaGreat
/-
  Walks: bound's faces of whatever is handed in.
-/
namespace Go.Proofs.YtdanaebhjkbfmaaGreat
open Go.RowKit
set_option linter.unusedVariables false
set_option linter.unusedSimpArgs false
/-- a refusal that holds a -/
def Refuse (w w' : World) (e : Ending) (a : Int) : Prop := ∃ r, e = .returned (.iface 78 (.pointer (some ⟨r, 0, none⟩))) ∧ w'.cell? ⟨r, 1, none⟩ = some (.int .i64 a) ∧ Below w.heap.size w w'
/-- what a face answers: an error and nothing, or none and a polynomial of its own -/
def QAns (B : Nat) (w : World) (c : Int) (ao : Option Addr) (l : Nat) (L : List Int) : Prop := (c = 0 ∧ POwn B w ao l l L) ∨ (c ≠ 0 ∧ ao = none ∧ l = 0)
def NewQ (w w' : World) (e : Ending) (c : Int) (L : List Int) : Prop := ∃ ao l, e = .returned (.tuple #[.slice ao l l, .int .i64 c]) ∧ QAns w.heap.size w' c ao l L ∧ Below w.heap.size w w'
/-- a number handed in: k tells whether it is one -/
structure CArg (w : World) (n : Bool) (co : Option Addr) (lc cc : Nat) (zs : List Int) (k : Bool) (v : Int) : Prop where
  row : RowAt w .u64 co lc cc zs
  short : lc ≤ 3
  may : mayB n zs = k
  good : k = true → IntAt w n co lc cc v
theorem CArg.later {w w' : World} {n : Bool} {co : Option Addr} {lc cc : Nat} {zs : List Int} {k : Bool} {v : Int} (h : CArg w n co lc cc zs k v) (hb : Below w.heap.size w w') : CArg w' n co lc cc zs k v :=
  ⟨h.row.later hb, h.short, h.may, fun e => (h.good e).later hb⟩
theorem PArg.len {w : World} {ao : Option Addr} {len cap : Nat} {rs : List (Bool × List Int)} {m : Bool} {p : List Int} (h : PArg w ao len cap rs m p) : len ≤ 1000 := by have := h.short; omega
theorem ok_of {w : World} {ao : Option Addr} {len cap : Nat} {rs : List (Bool × List Int)} {p : List Int} (h : PArg w ao len cap rs true p) : Calls Tryz.prog 42 #[.slice ao len cap] w fun e w' => e = .returned .nilIface ∧ Below w.heap.size w w' :=
  boundCheck_ok ao len cap p w (h.good rfl).1 (by have := h.short; omega) (h.good rfl).2.1 ((h.good rfl).2.2.mono (by decide))
set_option maxRecDepth 100000 in
set_option maxHeartbeats 2000000 in
theorem bcheck_bad (ao : Option Addr) (len cap : Nat) (rs : List (Bool × List Int)) (p : List Int) (w : World) (hp : PArg w ao len cap rs false p) :
    Calls Tryz.prog 42 #[.slice ao len cap] w fun e w' => Refuse w w' e 50 := by
  have h1 := pcheck_is ao len cap rs w hp.raws hp.len (fun t => Nat.le_trans (hp.lims t) (by decide)) 50 (by rw [hp.may]; rfl)
  clear hp
  go_enter Tryz.func42, Tryz.ntmps42
  go_wp2_with (go_at_call 54; refine h1.mono ?_; rintro e w1 ⟨rfl, hb1⟩)
  go_ret
  exact ⟨_, rfl, by simp [go_sem], bnext hb1 ((Below.refl _ _).alloc (Nat.le_refl _) _)⟩
set_option maxRecDepth 100000 in
set_option maxHeartbeats 2000000 in
theorem checkMove_bad (ao : Option Addr) (len cap : Nat) (rs : List (Bool × List Int)) (m k : Bool) (p : List Int) (n : Bool) (co : Option Addr) (lc cc : Nat) (zs : List Int) (v : Int) (w : World) (hp : PArg w ao len cap rs m p) (hv : CArg w n co lc cc zs k v) (hmk : (m && k) = false) :
    Calls Tryz.prog 38 #[.slice ao len cap, .agg #[.bool n, .slice co lc cc]] w fun e w' => Refuse w w' e 50 := by
  obtain ⟨W, hW⟩ : ∃ W, W = w.alloc (.cells #[.bool n, .slice co lc cc] 28) := ⟨_, rfl⟩
  have HW : Hid (Below w.heap.size w W ∧ Boxed W w.heap.size n co lc cc ∧ w.heap.size < W.heap.size) := by rw [hW]; exact ⟨(Below.refl _ _).alloc (Nat.le_refl _) _, ⟨by simp [go_sem], by simp [go_sem]⟩, by simp⟩
  have HV : Hid (CArg W n co lc cc zs k v) := hv.later HW.out.1
  have hp := hp.later HW.out.1
  have hlc : lc ≤ 3 := hv.short
  clear hv
  cases m
  · have hck := bcheck_bad ao len cap rs p W hp
    clear hp hmk
    go_enter Tryz.func38, Tryz.ntmps38
    go_wp2_with (go_at_call 42; rw [← hW]; clear hW; refine hck.mono ?_; rintro e w1 ⟨r, rfl, hr1, hb1⟩)
    go_ret
    exact ⟨_, rfl, hr1, bnext HW.out.1 hb1⟩
  · obtain rfl : k = false := by simpa using hmk
    have hck := ok_of hp
    clear hp hmk
    have hM : Hid ((if mayB n zs then 0 else 10 : Int) = 10) := by show _ = _; rw [HV.out.may]; rfl
    go_enter Tryz.func38, Tryz.ntmps38
    go_wp2_with (first
      | (go_at_call 42; rw [← hW]; clear hW; refine hck.mono ?_; rintro e w1 ⟨rfl, hb1⟩; obtain ⟨q0, q1⟩ := HW.out.2.1.later hb1 HW.out.2.2)
      | (go_at_call 62; refine (check_at n co lc cc zs _ (HV.out.row.later hb1) (by omega) 10 hM.out).mono ?_; rintro e w2 ⟨rfl, hb2⟩))
    go_ret
    exact ⟨_, rfl, by simp [go_sem], bnext HW.out.1 (bnext hb1 (bnext hb2 ((Below.refl _ _).alloc (Nat.le_refl _) _)))⟩
set_option maxRecDepth 100000 in
set_option maxHeartbeats 2000000 in
theorem checkStretch_bad1 (ao : Option Addr) (len cap : Nat) (rs : List (Bool × List Int)) (p : List Int) (K : Int) (w : World) (hp : PArg w ao len cap rs false p) :
    Calls Tryz.prog 45 #[.slice ao len cap, .int .i64 K] w fun e w' => Refuse w w' e 50 := by
  have hck := bcheck_bad ao len cap rs p w hp
  clear hp
  go_enter Tryz.func45, Tryz.ntmps45
  go_wp2_with (go_at_call 42; refine hck.mono ?_; rintro e w1 ⟨r, rfl, hr1, hb1⟩)
  go_ret
  exact ⟨_, rfl, hr1, hb1⟩
set_option maxRecDepth 100000 in
set_option maxHeartbeats 2000000 in
theorem checkStretch_bad2 (ao : Option Addr) (len cap : Nat) (rs : List (Bool × List Int)) (p : List Int) (K : Int) (w : World) (hp : PArg w ao len cap rs true p) (hK : K < -64 ∨ 64 < K) :
    Calls Tryz.prog 45 #[.slice ao len cap, .int .i64 K] w fun e w' => Refuse w w' e 60 := by
  have hck := ok_of hp
  clear hp
  rcases hK with hK | hK
  · go_enter Tryz.func45, Tryz.ntmps45
    go_wp2_with (go_at_call 42; refine hck.mono ?_; rintro e w1 ⟨rfl, hb1⟩)
    go_ret
    exact ⟨_, rfl, by simp [go_sem], bnext hb1 ((Below.refl _ _).alloc (Nat.le_refl _) _)⟩
  · have hK2 : ¬ K < -64 := by omega
    go_enter Tryz.func45, Tryz.ntmps45
    go_wp2_with (go_at_call 42; refine hck.mono ?_; rintro e w1 ⟨rfl, hb1⟩)
    go_ret
    exact ⟨_, rfl, by simp [go_sem], bnext hb1 ((Below.refl _ _).alloc (Nat.le_refl _) _)⟩
set_option maxRecDepth 100000 in
set_option maxHeartbeats 2000000 in
theorem checkStretch_good (ao : Option Addr) (len cap : Nat) (rs : List (Bool × List Int)) (p : List Int) (K : Int) (w : World) (hp : PArg w ao len cap rs true p) (h1 : -64 ≤ K) (h2 : K ≤ 64) :
    Calls Tryz.prog 45 #[.slice ao len cap, .int .i64 K] w fun e w' => e = .returned .nilIface ∧ Below w.heap.size w w' := by
  have hck := ok_of hp
  have h1 : ¬ (K < -64) := by omega
  have h2 : ¬ ((64 : Int) < K) := by omega
  clear hp
  go_enter Tryz.func45, Tryz.ntmps45
  go_wp2_with (go_at_call 42; refine hck.mono ?_; rintro e w1 ⟨rfl, hb1⟩)
  go_ret
  exact ⟨rfl, hb1⟩
set_option maxRecDepth 100000 in
set_option maxHeartbeats 2000000 in
theorem checkNotZero_bad1 (ao : Option Addr) (len cap : Nat) (rs : List (Bool × List Int)) (p : List Int) (w : World) (hp : PArg w ao len cap rs false p) :
    Calls Tryz.prog 47 #[.slice ao len cap] w fun e w' => Refuse w w' e 50 := by
  have hck := bcheck_bad ao len cap rs p w hp
  clear hp
  go_enter Tryz.func47, Tryz.ntmps47
  go_wp2_with (go_at_call 42; refine hck.mono ?_; rintro e w1 ⟨r, rfl, hr1, hb1⟩)
  go_ret
  exact ⟨_, rfl, hr1, hb1⟩
set_option maxRecDepth 100000 in
set_option maxHeartbeats 2000000 in
theorem checkNotZero_bad2 (ao : Option Addr) (cap : Nat) (rs : List (Bool × List Int)) (p : List Int) (w : World) (hp : PArg w ao 0 cap rs true p) :
    Calls Tryz.prog 47 #[.slice ao 0 cap] w fun e w' => Refuse w w' e 51 := by
  have hck := ok_of hp
  clear hp
  go_enter Tryz.func47, Tryz.ntmps47
  go_wp2_with (go_at_call 42; refine hck.mono ?_; rintro e w1 ⟨rfl, hb1⟩)
  go_ret
  exact ⟨_, rfl, by simp [go_sem], bnext hb1 ((Below.refl _ _).alloc (Nat.le_refl _) _)⟩
set_option maxRecDepth 100000 in
set_option maxHeartbeats 2000000 in
theorem checkNotZero_good (ao : Option Addr) (len cap : Nat) (rs : List (Bool × List Int)) (p : List Int) (w : World) (hp : PArg w ao len cap rs true p) (h0 : 0 < len) :
    Calls Tryz.prog 47 #[.slice ao len cap] w fun e w' => e = .returned .nilIface ∧ Below w.heap.size w w' := by
  have hck := ok_of hp
  have hz : ((len : Int) == 0) = false := by simp; omega
  clear hp
  go_enter Tryz.func47, Tryz.ntmps47
  go_wp2_with (go_at_call 42; refine hck.mono ?_; rintro e w1 ⟨rfl, hb1⟩)
  go_ret
  exact ⟨rfl, hb1⟩
set_option maxRecDepth 100000 in
set_option maxHeartbeats 2000000 in
theorem bmirror_is (ao : Option Addr) (len cap : Nat) (rs : List (Bool × List Int)) (m : Bool) (p : List Int) (w : World) (hp : PArg w ao len cap rs m p) (c : Int) (hc : bad1 m = c) :
    Calls Tryz.prog 15 #[.slice ao len cap] w fun e w' => NewQ w w' e c (mir p.length p) := by
  cases m
  · have hck := bcheck_bad ao len cap rs p w hp
    obtain rfl : c = 50 := hc.symm
    clear hp hc
    go_enter Tryz.func15, Tryz.ntmps15
    go_wp2_with (first
      | (go_at_call 42; refine hck.mono ?_; rintro e w1 ⟨r, rfl, hr1, hb1⟩)
      | (go_at_call 39; refine (asked_any r 50 (by omega) _ hr1).mono ?_; rintro e w2 ⟨rfl, hb2⟩))
    exact bodyPost_ret (v := .tuple #[.slice none 0 0, .int .i64 50]) (by simp [results, Tryz.results15, go_sem]) rfl ⟨_, _, rfl, Or.inr ⟨by decide, rfl, rfl⟩, bnext hb1 hb2⟩
  · have hck := ok_of hp
    have HV : Hid (PArg w ao len cap rs true p) := hp
    have hl := hp.len
    obtain rfl : c = 0 := hc.symm
    clear hp hc
    go_enter Tryz.func15, Tryz.ntmps15
    go_wp2_with (first
      | (go_at_call 42; refine hck.mono ?_; rintro e w1 ⟨rfl, hb1⟩)
      | (go_at_call 43; refine (mirroredO_any ao len cap p _ ((HV.out.later hb1).good rfl).1 (by omega) ((HV.out.good rfl).2.2.mono (by decide))).mono ?_; intro e w2 hN; obtain ⟨ao2, l2, rfl, hp2, hb2⟩ := hN.own; clear hN))
    exact bodyPost_ret (v := .tuple #[.slice ao2 l2 l2, .int .i64 0]) (by simp [results, Tryz.results15, go_sem]) rfl ⟨_, _, rfl, Or.inl ⟨rfl, hp2.mono hb1.size⟩, bnext hb1 hb2⟩
theorem turn_trim {p q : List Int} (h : TurnOf p q) : q = trimL p.reverse := by
  obtain ⟨low, h1, h2, h3, rfl⟩ := h
  have hd : ∀ t, t < (p.drop low).reverse.length → dig (p.drop low).reverse t = dig p.reverse t := fun t ht => by
    rw [List.length_reverse, List.length_drop] at ht
    rw [rev_dig _ _ (by rw [List.length_drop]; omega), rev_dig _ _ (by omega), dig_drop, List.length_drop]
    congr 1; omega
  have hn : trimN p.reverse p.length = p.length - low := by
    have : ∀ n, n ≤ p.length → p.length - low ≤ n → trimN p.reverse n = p.length - low := by
      intro n
      induction n with
      | zero => intro _ hn; simp [trimN]; omega
      | succ n ih =>
        intro hn1 hn2
        by_cases e : p.length - low = n + 1
        · rw [trimN_keep ?_]; · omega
          rw [rev_dig _ _ (by omega)]
          have := h3 (by omega)
          rw [show p.length - 1 - n = low by omega]; exact this
        · rw [trimN_zero ?_]
          · exact ih (by omega) (by omega)
          · rw [rev_dig _ _ (by omega)]; exact h2 _ (by omega)
    exact this p.length (Nat.le_refl _) (by omega)
  refine dig_ext ?_ fun t ht => ?_
  · rw [trimL_len, List.length_reverse, List.length_reverse, List.length_drop]; exact hn.symm
  · rw [hd t ht, trimL_dig]
set_option maxRecDepth 100000 in
set_option maxHeartbeats 2000000 in
theorem bturn_is (ao : Option Addr) (len cap : Nat) (rs : List (Bool × List Int)) (m : Bool) (p : List Int) (w : World) (hp : PArg w ao len cap rs m p) (c : Int) (hc : bad1 m = c) :
    Calls Tryz.prog 16 #[.slice ao len cap] w fun e w' => NewQ w w' e c (trimL p.reverse) := by
  cases m
  · have hck := bcheck_bad ao len cap rs p w hp
    obtain rfl : c = 50 := hc.symm
    clear hp hc
    go_enter Tryz.func16, Tryz.ntmps16
    go_wp2_with (first
      | (go_at_call 42; refine hck.mono ?_; rintro e w1 ⟨r, rfl, hr1, hb1⟩)
      | (go_at_call 39; refine (asked_any r 50 (by omega) _ hr1).mono ?_; rintro e w2 ⟨rfl, hb2⟩))
    exact bodyPost_ret (v := .tuple #[.slice none 0 0, .int .i64 50]) (by simp [results, Tryz.results16, go_sem]) rfl ⟨_, _, rfl, Or.inr ⟨by decide, rfl, rfl⟩, bnext hb1 hb2⟩
  · have hck := ok_of hp
    have HV : Hid (PArg w ao len cap rs true p) := hp
    have hl := hp.len
    obtain rfl : c = 0 := hc.symm
    clear hp hc
    go_enter Tryz.func16, Tryz.ntmps16
    go_wp2_with (first
      | (go_at_call 42; refine hck.mono ?_; rintro e w1 ⟨rfl, hb1⟩)
      | (go_at_call 44; refine (turnedO_any ao len cap p _ ((HV.out.later hb1).good rfl).1 (by omega) ((HV.out.good rfl).2.2.mono (by decide)) (HV.out.good rfl).2.1).mono ?_; rintro e w2 ⟨q, hT, hN⟩; have HT : Hid (q = trimL p.reverse) := turn_trim hT; rw [HT.out] at hN; clear hT; obtain ⟨ao2, l2, rfl, hp2, hb2⟩ := hN.own; clear hN))
    exact bodyPost_ret (v := .tuple #[.slice ao2 l2 l2, .int .i64 0]) (by simp [results, Tryz.results16, go_sem]) rfl ⟨_, _, rfl, Or.inl ⟨rfl, hp2.mono hb1.size⟩, bnext hb1 hb2⟩
/-- what Stretch answers -/
def bad2 (m : Bool) (K : Int) : Int := if m then (if K < -64 ∨ 64 < K then 60 else 0) else 50
set_option maxRecDepth 100000 in
set_option maxHeartbeats 2000000 in
theorem bstretch_is (ao : Option Addr) (len cap : Nat) (rs : List (Bool × List Int)) (m : Bool) (p : List Int) (K : Int) (w : World) (hp : PArg w ao len cap rs m p) (c : Int) (hc : bad2 m K = c) :
    Calls Tryz.prog 17 #[.slice ao len cap, .int .i64 K] w fun e w' => NewQ w w' e c (stZ K p) := by
  cases m
  · have hck := checkStretch_bad1 ao len cap rs p K w hp
    obtain rfl : c = 50 := hc.symm
    clear hp hc
    go_enter Tryz.func17, Tryz.ntmps17
    go_wp2_with (first
      | (go_at_call 45; refine hck.mono ?_; rintro e w1 ⟨r, rfl, hr1, hb1⟩)
      | (go_at_call 39; refine (asked_any r 50 (by omega) _ hr1).mono ?_; rintro e w2 ⟨rfl, hb2⟩))
    exact bodyPost_ret (v := .tuple #[.slice none 0 0, .int .i64 50]) (by simp [results, Tryz.results17, go_sem]) rfl ⟨_, _, rfl, Or.inr ⟨by decide, rfl, rfl⟩, bnext hb1 hb2⟩
  · by_cases hK : K < -64 ∨ 64 < K
    · have hck := checkStretch_bad2 ao len cap rs p K w hp hK
      obtain rfl : c = 60 := by rw [← hc]; unfold bad2; rw [if_pos rfl, if_pos hK]
      clear hp hc hK
      go_enter Tryz.func17, Tryz.ntmps17
      go_wp2_with (first
        | (go_at_call 45; refine hck.mono ?_; rintro e w1 ⟨r, rfl, hr1, hb1⟩)
        | (go_at_call 39; refine (asked_any r 60 (by omega) _ hr1).mono ?_; rintro e w2 ⟨rfl, hb2⟩))
      exact bodyPost_ret (v := .tuple #[.slice none 0 0, .int .i64 60]) (by simp [results, Tryz.results17, go_sem]) rfl ⟨_, _, rfl, Or.inr ⟨by decide, rfl, rfl⟩, bnext hb1 hb2⟩
    · have hck := checkStretch_good ao len cap rs p K w hp (by omega) (by omega)
      have HV : Hid (PArg w ao len cap rs true p) := hp
      have hl := hp.short
      obtain rfl : c = 0 := by rw [← hc]; unfold bad2; rw [if_pos rfl, if_neg hK]
      have HK : Hid (-64 ≤ K ∧ K ≤ 64) := ⟨by omega, by omega⟩
      clear hp hc hK
      go_enter Tryz.func17, Tryz.ntmps17
      go_wp2_with (first
        | (go_at_call 45; refine hck.mono ?_; rintro e w1 ⟨rfl, hb1⟩)
        | (go_at_call 46; refine (stretchedO_any ao len cap K p _ ((HV.out.later hb1).good rfl).1 (by omega) HK.out.1 HK.out.2 ((HV.out.good rfl).2.2.mono (by decide))).mono ?_; intro e w2 hN; obtain ⟨ao2, l2, rfl, hp2, hb2⟩ := hN.own; clear hN))
      exact bodyPost_ret (v := .tuple #[.slice ao2 l2 l2, .int .i64 0]) (by simp [results, Tryz.results17, go_sem]) rfl ⟨_, _, rfl, Or.inl ⟨rfl, hp2.mono hb1.size⟩, bnext hb1 hb2⟩
set_option maxRecDepth 100000 in
set_option maxHeartbeats 2000000 in
theorem bshift_is (ao : Option Addr) (len cap : Nat) (rs : List (Bool × List Int)) (m k : Bool) (p : List Int) (n : Bool) (co : Option Addr) (lc cc : Nat) (zs : List Int) (v : Int) (w : World) (hp : PArg w ao len cap rs m p) (hv : CArg w n co lc cc zs k v) (c : Int) (hc : bad1 (m && k) = c) :
    Calls Tryz.prog 13 #[.slice ao len cap, .agg #[.bool n, .slice co lc cc]] w fun e w' => NewQ w w' e c (sh v p) := by
  obtain ⟨W, hW⟩ : ∃ W, W = w.alloc (.cells #[.bool n, .slice co lc cc] 28) := ⟨_, rfl⟩
  have HW : Hid (Below w.heap.size w W ∧ Boxed W w.heap.size n co lc cc ∧ w.heap.size < W.heap.size) := by rw [hW]; exact ⟨(Below.refl _ _).alloc (Nat.le_refl _) _, ⟨by simp [go_sem], by simp [go_sem]⟩, by simp⟩
  have hp := hp.later HW.out.1
  have hv := hv.later HW.out.1
  have hlc := hv.short
  cases hmk : (m && k)
  · have hck := checkMove_bad ao len cap rs m k p n co lc cc zs v W hp hv hmk
    obtain rfl : c = 50 := by rw [← hc, hmk]; rfl
    clear hp hv hc hmk
    go_enter Tryz.func13, Tryz.ntmps13
    go_wp2_with (first
      | (go_at_call 38; rw [← hW]; clear hW; refine hck.mono ?_; rintro e w1 ⟨r, rfl, hr1, hb1⟩)
      | (go_at_call 39; refine (asked_any r 50 (by omega) _ hr1).mono ?_; rintro e w2 ⟨rfl, hb2⟩))
    exact bodyPost_ret (v := .tuple #[.slice none 0 0, .int .i64 50]) (by simp [results, Tryz.results13, go_sem]) rfl ⟨_, _, rfl, Or.inr ⟨by decide, rfl, rfl⟩, bnext HW.out.1 (bnext hb1 hb2)⟩
  · obtain ⟨rfl, rfl⟩ : m = true ∧ k = true := by simpa using hmk
    obtain rfl : c = 0 := by rw [← hc]; rfl
    have hG := hp.good rfl
    have hI := hv.good rfl
    have hl := hp.short
    have hSL : ShLim 1000000000 v p := ShLim.of (L := 3) (C := 3) (N := 11) hG.2.2 (by rw [← hI.lim]; exact hlc) (by rw [← hG.1.hlen]; exact hl) (by decide)
    have hck := checkMove_ok ao len cap p n co lc cc v W hG.1 (by omega) hG.2.1 (hG.2.2.mono (by decide)) hI (by omega)
    have HV : Hid (PolyAt W ao len cap p ∧ IntAt W n co lc cc v ∧ ShLim 1000000000 v p) := ⟨hG.1, hI, hSL⟩
    clear hp hv hc hmk hG hI hSL
    go_enter Tryz.func13, Tryz.ntmps13
    go_wp2_with (first
      | (go_at_call 38; rw [← hW]; clear hW; refine hck.mono ?_; rintro e w1 ⟨rfl, hb1⟩; obtain ⟨q0, q1⟩ := HW.out.2.1.later hb1 HW.out.2.2)
      | (go_at_call 40; refine (shiftedO_any ao len cap p n co lc cc v _ (HV.out.1.later hb1) (by omega) (HV.out.2.1.later hb1) HV.out.2.2).mono ?_; intro e w2 hN; obtain ⟨ao2, l2, rfl, hp2, hb2⟩ := hN.own; clear hN))
    exact bodyPost_ret (v := .tuple #[.slice ao2 l2 l2, .int .i64 0]) (by simp [results, Tryz.results13, go_sem]) rfl ⟨_, _, rfl, Or.inl ⟨rfl, hp2.mono (Nat.le_trans HW.out.1.size hb1.size)⟩, bnext HW.out.1 (bnext hb1 hb2)⟩
end Go.Proofs.YtdanaebhjkbfmaaGreat
