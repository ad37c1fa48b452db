/-
  Walks: a polynomial moved (Horner's rule, in new memory).
-/
import Derived.Test.YtnodcfeimiimbaaJE
namespace Go.Proofs.Ytnodcfeimiimbaa
open Go.RowKit
set_option linter.unusedVariables false
set_option linter.unusedSimpArgs false

theorem cmpI_zero {v : Int} (h : cmpI v 0 = 0) : v = 0 := by
  unfold cmpI at h; split at h
  · cases h
  · split at h
    · cases h
    · omega

set_option maxRecDepth 100000 in
set_option maxHeartbeats 4000000 in
theorem shifted_any (ao : Option Addr) (len cap : Nat) (p : List Int) (n : Bool) (co : Option Addr) (lc cc : Nat) (c : Int) (w : World) (hp : PolyAt w ao len cap p) (hl : len ≤ 1048576) (hv : IntAt w n co lc cc c) (hlim : ShLim 1000000000 c p) :
    Calls Try.prog 26 #[.slice ao len cap, .agg #[.bool n, .slice co lc cc]] w fun e w' => NewPB w w' e (sh c p) := by
  have hlc : lc ≤ 1000000000 := by rw [hv.lim]; exact hlim.1
  obtain ⟨W, hW⟩ : ∃ W, W = w.alloc (.cells #[.bool n, .slice co lc cc] 28) := ⟨_, rfl⟩
  have HW : Hid (Below w.heap.size w W ∧ Boxed W w.heap.size n co lc cc ∧ w.heap.size < W.heap.size) := by rw [hW]; exact ⟨(Below.refl _ _).alloc (Nat.le_refl _) _, ⟨by simp [go_sem], by simp [go_sem]⟩, by simp⟩
  have hcop := copied_any ao len cap p W (hp.later HW.out.1) hl (hlim.2.1.mono (by decide))
  have HR : Hid (IntAt W n co lc cc c ∧ ShLim 1000000000 c p ∧ len = p.length) := ⟨hv.later HW.out.1, hlim, hp.hlen⟩
  have hsl : (sh c p).length = len := by rw [sh_len, ← hp.hlen]
  have HSL : Hid ((sh c p).length = len) := hsl
  clear hp hv hlim hsl
  by_cases h0 : len = 0
  · subst h0
    have hpe : Hid (sh c p = [] ∧ p.length = 0) := ⟨List.eq_nil_of_length_eq_zero HSL.out, HR.out.2.2.symm⟩
    cases hc : decide (c = 0)
    · have hc0 : c ≠ 0 := by simpa using hc
      obtain ⟨cs, hcs⟩ : ∃ cs, cmpI c 0 = cs := ⟨_, rfl⟩
      have hcs1 : (cs == 0) = false := by
        rw [← hcs]; simp; intro e; exact hc0 (cmpI_zero e)
      have HCS : Hid (cmpI c 0 = cs) := hcs
      clear hcs hc hc0
      go_enter Try.func26, Try.ntmps26
      go_wp2_with (first
        | (go_at_call 39; rw [← hW]; clear hW; refine hcop.mono ?_; intro e w1 hN; rcases hN with ⟨_, rfl, hb1⟩ | ⟨hpos, _⟩; rotate_left 1; exact absurd hpos (by have := hpe.out.2; omega); obtain ⟨q0, q1⟩ := HW.out.2.1.later hb1 HW.out.2.2)
        | (go_at_call 40; refine (bsign_any n co lc cc c _ (HR.out.1.later hb1) (by omega) cs HCS.out).mono ?_; rintro e w2 ⟨rfl, hb2⟩))
      go_loopw [6] (fun i wr => i = .int .i64 (-2) ∧ wr = w2) (fun i _ => 0)
      case atStart => exact ⟨rfl, rfl⟩
      case round =>
        obtain ⟨rfl, rfl⟩ := hrel
        go_wp2
        go_ret
        exact Or.inl ⟨by rw [hpe.out.1]; rfl, rfl, bnext HW.out.1 (bnext hb1 hb2)⟩
    · have hc0 : Hid (cmpI c 0 = 0) := cmpI_eq (by simpa using hc)
      clear hc
      go_enter Try.func26, Try.ntmps26
      go_wp2_with (first
        | (go_at_call 39; rw [← hW]; clear hW; refine hcop.mono ?_; intro e w1 hN; rcases hN with ⟨_, rfl, hb1⟩ | ⟨hpos, _⟩; rotate_left 1; exact absurd hpos (by have := hpe.out.2; omega); obtain ⟨q0, q1⟩ := HW.out.2.1.later hb1 HW.out.2.2)
        | (go_at_call 40; refine (bsign_any n co lc cc c _ (HR.out.1.later hb1) (by omega) 0 hc0.out).mono ?_; rintro e w2 ⟨rfl, hb2⟩))
      go_ret
      exact Or.inl ⟨by rw [hpe.out.1]; rfl, rfl, bnext HW.out.1 (bnext hb1 hb2)⟩
  · have hcop2 : Calls Try.prog 39 #[.slice ao len cap] W fun e w' => ∃ g, e = .returned (.slice (some ⟨g, 0, none⟩) len len) ∧ PBlk w' g p ∧ W.heap.size ≤ g ∧ g < w'.heap.size ∧ Below W.heap.size W w' := by
      refine hcop.mono fun e w1 hN => ?_
      rcases hN with ⟨hz, _⟩ | ⟨_, g, he, hrest⟩
      · exact absurd hz (by have := HR.out.2.2; omega)
      · exact ⟨g, by rw [HR.out.2.2]; exact he, hrest⟩
    have HP : Hid (0 < len) := by show 0 < _; omega
    clear hcop
    cases hc : decide (c = 0)
    · have hc0 : c ≠ 0 := by simpa using hc
      obtain ⟨cs, hcs⟩ : ∃ cs, cmpI c 0 = cs := ⟨_, rfl⟩
      have hcs1 : (cs == 0) = false := by
        rw [← hcs]; simp; intro e; exact hc0 (cmpI_zero e)
      have HCS : Hid (cmpI c 0 = cs) := hcs
      clear hcs hc hc0
      go_enter Try.func26, Try.ntmps26
      go_wp2_with (first
        | (go_at_call 39; rw [← hW]; clear hW; refine hcop2.mono ?_; rintro e w1 ⟨g, rfl, hPB, hg1, hg2, hb1⟩; have HPB : Hid (PBlk w1 g p ∧ W.heap.size ≤ g) := ⟨hPB, hg1⟩; clear hPB hg1; obtain ⟨q0, q1⟩ := HW.out.2.1.later hb1 HW.out.2.2)
        | (go_at_call 40; refine (bsign_any n co lc cc c _ (HR.out.1.later hb1) (by omega) cs HCS.out).mono ?_; rintro e w2 ⟨rfl, hb2⟩))
      clear q0 q1
      have HG : Hid (W.heap.size ≤ g ∧ g < w2.heap.size ∧ PBlk w2 g p ∧ Below W.heap.size W w2) := ⟨HPB.out.2, Nat.lt_of_lt_of_le hg2 hb2.size, HPB.out.1.later hb2 hg2, bnext hb1 hb2⟩
      clear HPB hg2 hb1 hb2
      go_loopw [6] (fun i wr => ∃ (k : Nat) (l : List Int), k + 1 ≤ len ∧ i = .int .i64 ((k : Int) - 1) ∧ Below W.heap.size W wr ∧ g < wr.heap.size ∧ PBlk wr g l ∧ ShOut p c k l) (fun i _ => (intOf i + 1).toNat)
      case atStart => exact ⟨len - 1, p, by have := HP.out; omega, by go_num, HG.out.2.2.2, HG.out.2.1, HG.out.2.2.1, by rw [HR.out.2.2]; exact ShOut.start c (by rw [← HR.out.2.2]; exact HP.out)⟩
      case round =>
        obtain ⟨k, l, hk, rfl, hbel, hgl, hPB, hst⟩ := hrel
        have HS : Hid (PBlk wr g l ∧ ShOut p c k l ∧ Below W.heap.size W wr) := ⟨hPB, hst, hbel⟩
        clear hPB hst hbel
        by_cases hk0 : k = 0
        · subst hk0
          have HE : Hid (l = sh c p) := HS.out.2.1.done
          go_wp2
          go_ret
          refine Or.inr ⟨by rw [HSL.out]; exact HP.out, g, by show _ = _; rw [HSL.out]; rfl, by rw [← HE.out]; exact HS.out.1, Nat.le_trans (Nat.le_of_lt HW.out.2.2) HG.out.1, hgl, bnext HW.out.1 HS.out.2.2⟩
        · obtain ⟨i, rfl⟩ : ∃ i, k = i + 1 := ⟨k - 1, by omega⟩
          have hki : ((i + 1 : Nat) : Int) - 1 = (i : Int) := by omega
          rw [hki]
          clear hk0 hki
          go_wp2
          go_loopw [7] (fun jj w3 => ∃ (j : Nat) (l : List Int), i ≤ j ∧ j + 1 ≤ len ∧ jj = .int .i64 j ∧ Below W.heap.size W w3 ∧ g < w3.heap.size ∧ PBlk w3 g l ∧ ShSt p c i j l) (fun jj _ => len - (intOf jj).toNat)
          case atStart => exact ⟨i, l, Nat.le_refl _, by omega, rfl, HS.out.2.2, hgl, HS.out.1, HS.out.2.1.st⟩
          case round =>
            obtain ⟨j, lj, hij, hj, rfl, hbel, hgw, hPB, hst⟩ := hrel
            have HT : Hid (PBlk wr g lj ∧ ShSt p c i j lj ∧ Below W.heap.size W wr) := ⟨hPB, hst, hbel⟩
            by_cases hjl : j + 1 < len
            · have hlj : lj.length = len := by rw [hst.1]; exact HR.out.2.2.symm
              obtain ⟨n1, ao1, l1, c1, ⟨e0, e1⟩, hi1⟩ := hPB.coef j (by omega)
              obtain ⟨n2, ao2, l2, c2, ⟨f0, f1⟩, hi2⟩ := hPB.coef (j + 1) (by omega)
              have hlm := hst.lims HR.out.2.1 hij (by rw [← HR.out.2.2]; exact hjl)
              have hl1 : l1 ≤ 1000000000 := by rw [hi1.lim]; exact hlm.1
              have hl2 : l2 ≤ 1000000000 := by rw [hi2.lim]; exact hlm.2
              have HI : Hid (IntAt wr n1 ao1 l1 c1 (dig lj j) ∧ IntAt wr n2 ao2 l2 c2 (dig lj (j + 1)) ∧ lj.length = len ∧ lim c ≤ 1000000000 ∧ lim (dig lj (j + 1)) ≤ 1000000000) := ⟨hi1, hi2, hlj, HR.out.2.1.1, hlm.2⟩
              have hfz := hPB.soft
              obtain ⟨b0, b1⟩ := HW.out.2.1.later hbel HW.out.2.2
              have hjI : (j : Int) < (len : Int) - 1 := by omega
              have z1 : (0 : Int) ≤ (j : Int) := by omega
              have z2 : (j : Int) < (len : Int) := by omega
              have z3 : (0 : Int) ≤ (j : Int) + 1 := by omega
              have z4 : (j : Int) + 1 < (len : Int) := by omega
              have z5 : IntKind.i64.wrap ((j : Int) + 1) = (j : Int) + 1 := by rw [IntKind.wrap_i64]; omega
              have z6 : ((j : Int) + 1).toNat = j + 1 := by omega
              clear hPB hst hlj hi1 hi2 hlm
              go_wp2
              go_region_with (first
                | (go_at_call 42; refine (bdtimes_any n n2 co ao2 lc cc l2 c2 c (dig lj (j + 1)) _ ((HR.out.1.later hbel).later (Below.refl _ _).drew) (HI.out.2.1.later (Below.refl _ _).drew) (by omega) (by omega)).mono ?_; rintro e w4 ⟨n3, ao3, l3, c3, rfl, hs3, ho3, hb3'⟩; have hb3 : Below wr.heap.size wr w4 := bnext (Below.refl _ _).drew hb3'; clear hb3'; have HI3 : Hid (IntAt w4 n3 ao3 l3 c3 (c * dig lj (j + 1)) ∧ IntAt w4 n1 ao1 l1 c1 (dig lj j)) := ⟨ho3.int hs3, HI.out.1.later hb3⟩; have hl3 : l3 ≤ 2000000000 := (by have h1 := (ho3.int hs3).lim; have h2 := lim_mul c (dig lj (j + 1)); have h3 := HI.out.2.2.2; omega); clear hs3 ho3; obtain ⟨q0, q1, q2⟩ : w4.cell? ⟨g, j * 2, none⟩ = some (.bool n1) ∧ w4.cell? ⟨g, j * 2 + 1, none⟩ = some (.slice ao1 l1 c1) ∧ (∀ m, w4.frozen? ⟨g, m, none⟩ = false) := ⟨(hb3.cell (p := ⟨g, j * 2, none⟩) hgw).trans e0, (hb3.cell (p := ⟨g, j * 2 + 1, none⟩) hgw).trans e1, fun m => (hb3.frozen (p := ⟨g, m, none⟩) hgw).trans (hfz m)⟩)
                | (go_at_call 41; refine (bdplus_any n1 n3 ao1 ao3 l1 c1 l3 c3 (dig lj j) (c * dig lj (j + 1)) w4 HI3.out.2 HI3.out.1 (by omega) (by omega)).mono ?_; rintro e w5 ⟨n4, ao4, l4, c4, rfl, hs4, ho4, hb4⟩; have HI4 : Hid (IntAt w5 n4 ao4 l4 c4 (dig lj j + c * dig lj (j + 1)) ∧ Below wr.heap.size wr w5) := ⟨ho4.int hs4, bnext hb3 hb4⟩; have hb5 : Below wr.heap.size wr w5 := HI4.out.2; obtain ⟨r0, r1, r2⟩ : w5.cell? ⟨g, j * 2, none⟩ = some (.bool n1) ∧ w5.cell? ⟨g, j * 2 + 1, none⟩ = some (.slice ao1 l1 c1) ∧ (∀ m, w5.frozen? ⟨g, m, none⟩ = false) := ⟨(HI4.out.2.cell (p := ⟨g, j * 2, none⟩) hgw).trans e0, (HI4.out.2.cell (p := ⟨g, j * 2 + 1, none⟩) hgw).trans e1, fun m => (HI4.out.2.frozen (p := ⟨g, m, none⟩) hgw).trans (hfz m)⟩; clear hs4 ho4 hb4))
              all_goals go_wp2
              all_goals go_roundw
              all_goals first
                | exact ⟨j + 1, lj.set j (dig lj j + c * dig lj (j + 1)), by omega, by omega, by go_num, ((bnext HT.out.2.2 hb5).setCell (p := ⟨g, j * 2, none⟩) HG.out.1 _).setCell (p := ⟨g, j * 2 + 1, none⟩) HG.out.1 _, by (have := hb5.size; simp; omega), (HT.out.1.later hb5 hgw).put (by have := HI.out.2.2.1; omega) HI4.out.1, HT.out.2.1.step hij (by rw [← HR.out.2.2]; exact hjl)⟩
                | (simp [intOf]; omega)
            · obtain rfl : len = j + 1 := by omega
              have HO : Hid (ShOut p c i lj) := ShSt.out (by have := HT.out.2.1; rw [← HR.out.2.2]; exact this) (by rw [← HR.out.2.2]; omega)
              go_wp2
              go_roundw
              case rel => exact ⟨i, lj, by omega, by go_num, HT.out.2.2, hgw, HT.out.1, HO.out⟩
              case measure => simp [intOf]
    · have hc0 : Hid (cmpI c 0 = 0 ∧ sh c p = p) := ⟨cmpI_eq (by simpa using hc), by rw [show c = 0 by simpa using hc]; exact sh_zero p⟩
      clear hc
      go_enter Try.func26, Try.ntmps26
      go_wp2_with (first
        | (go_at_call 39; rw [← hW]; clear hW; refine hcop2.mono ?_; rintro e w1 ⟨g, rfl, hPB, hg1, hg2, hb1⟩; have HPB : Hid (PBlk w1 g p ∧ W.heap.size ≤ g) := ⟨hPB, hg1⟩; clear hPB hg1; obtain ⟨q0, q1⟩ := HW.out.2.1.later hb1 HW.out.2.2)
        | (go_at_call 40; refine (bsign_any n co lc cc c _ (HR.out.1.later hb1) (by omega) 0 hc0.out.1).mono ?_; rintro e w2 ⟨rfl, hb2⟩))
      go_ret
      exact Or.inr ⟨by rw [HSL.out]; exact HP.out, g, by show _ = _; rw [HSL.out]; rfl, by rw [hc0.out.2]; exact HPB.out.1.later hb2 hg2, Nat.le_trans (Nat.le_of_lt HW.out.2.2) HPB.out.2, Nat.lt_of_lt_of_le hg2 hb2.size, bnext HW.out.1 (bnext hb1 hb2)⟩
end Go.Proofs.Ytnodcfeimiimbaa
