/-
  MH: walks: a row of residues divided by another one. (gen/mh.py)
-/
import Derived.Test.YtnniipekcbjloaaDoorPR04
namespace Go.Proofs.YtnniipekcbjloaaDoor
open Go.RowKit Go.Shelf
set_option linter.unusedVariables false
set_option linter.unusedSimpArgs false
theorem QSt.can {p : Int} {f g Q : List Int} (h : QSt p f g Q 0) (hp : IsPr p) (hf : Pm p f) (hg : 0 < g.length) : Can Q := by
  have hp2 := hp.two
  refine can_of_dig fun hq e => ?_
  have hl := h.len
  obtain ⟨c, hc⟩ := h.eq (Q.length - 1) (Nat.zero_le _) (by omega)
  rw [← cs_mulL, show Q.length - 1 + (g.length - 1) = Q.length + g.length - 2 by omega, mulL_lead _ _ hq hg, e, Int.zero_mul, Int.zero_add, show Q.length + g.length - 2 = f.length - 1 by omega] at hc
  have h1 := hf.lead (by omega) (by omega)
  exact hp.small h1.1 h1.2 ⟨c, hc⟩
theorem step_eq {p F S c s l v : Int} (hs : S % p = s) (hl : (F - s) % p = l) (hv : l * c % p = v) : ∃ z, v = (F - S) * c + p * z := by
  have e1 := emod_eq S p
  have e2 := emod_eq (F - s) p
  have e3 := emod_eq (l * c) p
  rw [hs] at e1; rw [hl] at e2; rw [hv] at e3
  obtain ⟨a, ha⟩ : ∃ a, -(S / p) = a := ⟨_, rfl⟩
  obtain ⟨b, hb⟩ : ∃ b, -((F - s) / p) = b := ⟨_, rfl⟩
  obtain ⟨d, hd⟩ : ∃ d, -(l * c / p) = d := ⟨_, rfl⟩
  rw [ha] at e1; rw [hb] at e2; rw [hd] at e3
  refine ⟨d + b * c - a * c, ?_⟩
  rw [e3, e2, e1]; grind
theorem sub_emod (a b p : Int) : (a - b % p) % p = (a - b) % p := by
  have e := emod_eq b p
  rw [e, show a - (b + p * -(b / p)) = a - b + p * (b / p) by rw [Int.mul_neg]; omega, Int.add_mul_emod_self_left]
/-- what a division hands back: two rows of the call's own -/
def DivOut (w w' : World) (e : Ending) (p : Int) (f g : List Int) : Prop :=
  ∃ qo ql qc ro rl rc q r, e = .returned (.tuple #[.slice qo ql qc, .slice ro rl rc]) ∧ Own w.heap.size w' .u64 25 qo ql qc q ∧ Own w.heap.size w' .u64 25 ro rl rc r ∧
    (Pm p f → Can q) ∧ Wd p q ∧ q.length ≤ f.length ∧ Pm p r ∧ r.length < g.length ∧ EqM p (fun x => ev f x) (fun x => ev q x * ev g x + ev r x) ∧ qc ≤ 4194304 ∧ rc ≤ 4194304 ∧ Below w.heap.size w w'
/-- the like, and that they lie apart -/
def DivTwo (w w' : World) (e : Ending) (p : Int) (f g : List Int) : Prop :=
  ∃ qo ql qc ro rl rc q r, e = .returned (.tuple #[.slice qo ql qc, .slice ro rl rc]) ∧ Own w.heap.size w' .u64 25 qo ql qc q ∧ Own w.heap.size w' .u64 25 ro rl rc r ∧
    (Pm p f → Can q) ∧ Wd p q ∧ q.length ≤ f.length ∧ Pm p r ∧ r.length < g.length ∧ EqM p (fun x => ev f x) (fun x => ev q x * ev g x + ev r x) ∧ qc ≤ 4194304 ∧ rc ≤ 4194304 ∧ (∀ a b : Addr, qo = some a → ro = some b → a.block ≠ b.block) ∧ Below w.heap.size w w'
set_option maxRecDepth 100000 in
set_option maxHeartbeats 4000000 in
theorem divide_two (p : Int) (ao bo : Option Addr) (la ca lb cb : Nat) (f g : List Int) (w : World) (hpr : IsPr p) (hp : p ≤ 2147483648) (hf : FRow p w ao la ca f) (hg : FRow p w bo lb cb g) (hlb : 0 < lb) (hgc : Can g) :
    Calls Tryd.prog 60 #[.int .u64 p, .slice ao la ca, .slice bo lb cb] w fun e w' => DivTwo w w' e p f g := by
  have hp2 := hpr.two
  have HF : Hid (FRow p w ao la ca f ∧ FRow p w bo lb cb g ∧ la = f.length ∧ lb = g.length) := ⟨hf, hg, hf.row.hlen, hg.row.hlen⟩
  have HP : Hid (IsPr p ∧ (0 < p ∧ p ≤ 2147483648) ∧ (2 ≤ p ∧ p ≤ 2147483648) ∧ (0 < p ∧ p < 18446744073709551616)) := ⟨hpr, ⟨by omega, hp⟩, ⟨hp2, hp⟩, ⟨by omega, by omega⟩⟩
  have hla4 := hf.short
  have hlb4 := hg.short
  obtain ⟨d, hd⟩ : ∃ d, d = lb - 1 := ⟨_, rfl⟩
  have hdI : (lb : Int) - 1 = (d : Int) := by omega
  obtain ⟨nq, hnq⟩ : ∃ nq, nq = la - d := ⟨_, rfl⟩
  have hnI : max (0 : Int) ((la : Int) - (d : Int)) = (nq : Int) := by omega
  obtain ⟨m, hm⟩ : ∃ m, m = min la d := ⟨_, rfl⟩
  have hmI : min (la : Int) (d : Int) = (m : Int) := by omega
  have HN : Hid (d = g.length - 1 ∧ nq = f.length - (g.length - 1) ∧ m = min f.length (g.length - 1) ∧ d < lb ∧ nq + d ≤ la + d ∧ nq ≤ la ∧ m ≤ la ∧ m ≤ d) := by
    have h1 := HF.out.2.2
    exact ⟨by omega, by omega, by omega, by omega, by omega, by omega, by omega, by omega⟩
  have hd4 : d ≤ 4194304 := by omega
  have hn4 : nq ≤ 4194304 := by omega
  have hm4 : m ≤ 4194304 := by omega
  obtain ⟨gb, goff, rfl, hgb, hgx, hgx0, hgx1⟩ := hg.cell (p := p) (by omega) (k := d) (by omega)
  obtain ⟨a, ha⟩ : ∃ a, dig g d = a := ⟨_, rfl⟩
  rw [ha] at hgx hgx0 hgx1
  have HA0 : Hid (0 < a ∧ a < p) := by
    have h := (⟨hg.wd, hgc⟩ : Pm p g).lead (by omega) (by rw [← hg.row.hlen]; exact hlb)
    rw [← hg.row.hlen, ← hd, ha] at h; exact h
  obtain ⟨c, hc⟩ : ∃ c, a ^ (p.toNat - 2) % p = c := ⟨_, rfl⟩
  have HI : Hid (∀ W, Calls Tryd.prog 73 #[.int .u64 p, .int .u64 a] W fun e w' => e = .returned (.int .u64 c) ∧ Below W.heap.size W w') :=
    fun W => minverse_any p a c W HP.out.2.2.1 ⟨hgx0, by omega⟩ hc
  have HC : Hid ((0 ≤ c ∧ c < p) ∧ ∃ y, c * dig g (g.length - 1) = 1 + p * y) := by
    refine ⟨by rw [← hc]; exact ⟨Int.emod_nonneg _ (by omega), Int.emod_lt_of_pos _ (by omega)⟩, ?_⟩
    obtain ⟨y, hy⟩ := hpr.inv HA0.out.1 HA0.out.2
    have e := emod_eq (a ^ (p.toNat - 2)) p
    rw [hc] at e
    obtain ⟨u, hu⟩ : ∃ u, -(a ^ (p.toNat - 2) / p) = u := ⟨_, rfl⟩
    rw [hu] at e
    rw [show g.length - 1 = d by have := HF.out.2.2.2; omega, ha]
    refine ⟨y + u * a, ?_⟩
    obtain ⟨t, ht⟩ : ∃ t, a ^ (p.toNat - 2) = t := ⟨_, rfl⟩
    rw [ht] at hy e
    rw [e]
    have : (t + p * u) * a = a * t + p * (u * a) := by grind
    rw [this, hy]; grind
  obtain ⟨i0, hi, hz0, hz1, hz2⟩ := info_parts info64
  have b1 : Hid (i0.bytes * nq ≤ 281474976710656) := by show _ ≤ _; rw [hz2]; omega
  have b2 : Hid (nq ≤ maxLen) := by show _ ≤ _; unfold maxLen; omega
  have b3 : Hid (i0.bytes * m ≤ 281474976710656) := by show _ ≤ _; rw [hz2]; omega
  have b4 : Hid (m ≤ maxLen) := by show _ ≤ _; unfold maxLen; omega
  have zd : (d : Int) < (lb : Int) := by omega
  have zd0 : (0 : Int) ≤ (d : Int) := by omega
  have HGB : Hid (gb < w.heap.size ∧ w.cell? ⟨gb, goff + d, none⟩ = some (.int .u64 a)) := ⟨hgb, hgx⟩
  clear hf hg hpr hp hp2 hd hnq hm ha hc hgc hgx0 hgx1
  go_enter Tryd.func60, Tryd.ntmps60
  go_wp2_with (first
    | (at_make; refine wpList_make_full _ rfl (.tmp 20) (.tmp 20) 24 rfl w.heap.size 25 i0 (.int .u64 0) 1 Tryd.underlying24 hi hz0 hz1 .i64 .i64 _ _ nq rfl rfl rfl rfl b1.out b2.out (Nat.le_refl _) ?_; intro w1 hown1 hgrow1; have HM : Hid (Blk w1 w.heap.size .u64 25 (List.replicate nq 0) ∧ Below w.heap.size w w1) := ⟨made_blk hown1, grown_below hgrow1⟩; clear hown1 hgrow1; have hgx1 := (HM.out.2.cell (p := ⟨gb, goff + d, none⟩) hgb).trans hgx)
    | (go_at_call 73; refine (HI.out _).mono ?_; rintro e w2 ⟨rfl, hb2⟩; have HM2 : Hid (Blk w2 w.heap.size .u64 25 (List.replicate nq 0) ∧ Below w.heap.size w w2) := ⟨HM.out.1.all hb2, bnextM (B := 0) HM.out.2 hb2⟩; clear hb2))
  clear hnI hdI HM hgx1 hgx
  obtain ⟨G, hG⟩ : ∃ G, G = w.heap.size := ⟨_, rfl⟩
  rw [← hG] at HM2 ⊢
  have HG : Hid (G = w.heap.size) := hG
  clear hG
  go_loopw [10] (fun i wr => ∃ (kk : Nat) (Q : List Int), i = .int .i64 ((kk : Int) - 1) ∧ kk ≤ nq ∧ Hid (Blk wr G .u64 25 Q ∧ QSt p f g Q kk ∧ Below w.heap.size w wr)) (fun i _ => (intOf i + 1).toNat)
  case atStart => exact ⟨nq, _, by go_num, Nat.le_refl _, HM2.out.1, by rw [HN.out.2.1]; exact QSt.start HP.out.2.1.1 f g, by have := HM2.out.2; rwa [HG.out] at this⟩
  case round =>
    obtain ⟨kk, Q, rfl, hkk, HS⟩ := hrel
    clear HM2
    rcases kk with _ | k
    · have HQ : Hid (QSt p f g Q 0 ∧ Blk wr G .u64 25 Q ∧ Q.length = nq ∧ Below w.heap.size w wr) := ⟨HS.out.2.1, HS.out.1, by rw [HS.out.2.1.len]; exact HN.out.2.1.symm, HS.out.2.2⟩
      clear HS
      go_wp2_with (at_make; refine wpList_make_full _ rfl (.tmp 60) (.tmp 60) 24 rfl wr.heap.size 25 i0 (.int .u64 0) 1 Tryd.underlying24 hi hz0 hz1 .i64 .i64 _ _ m rfl rfl rfl rfl b3.out b4.out (Nat.le_refl _) ?_; intro w5 hown5 hgrow5; have HM5 : Hid (Blk w5 wr.heap.size .u64 25 (List.replicate m 0) ∧ Below wr.heap.size wr w5) := ⟨made_blk hown5, grown_below hgrow5⟩; clear hown5 hgrow5)
      obtain ⟨G2, hG2⟩ : ∃ G2, G2 = wr.heap.size := ⟨_, rfl⟩
      rw [← hG2] at HM5 ⊢
      have HG2 : Hid (G2 = wr.heap.size ∧ G < G2 ∧ w.heap.size ≤ G2) := by have h := HQ.out.2.1.lt; have := HG.out; exact ⟨hG2, by omega, by omega⟩
      have HM : Hid (Blk w5 G .u64 25 Q ∧ Below w.heap.size w w5) := ⟨HQ.out.2.1.all (by have := HM5.out.2; rwa [HG2.out.1] at this), bnextM (B := 0) HQ.out.2.2.2 (by have := HM5.out.2; rwa [HG2.out.1] at this)⟩
      clear hG2 hmI
      go_loopw [64] (fun i wr => ∃ (j : Nat) (R : List Int), i = .int .i64 (j : Int) ∧ j ≤ m ∧ Hid (Blk wr G .u64 25 Q ∧ Blk wr G2 .u64 25 R ∧ R.length = m ∧ (∀ t, t < j → dig R t = (dig f t - cs Q g t (t + 1)) % p) ∧ Below w.heap.size w wr)) (fun i _ => m - (intOf i).toNat)
      case atStart => exact ⟨0, _, rfl, Nat.zero_le _, HM.out.1, HM5.out.1, by simp, fun t h => absurd h (by omega), HM.out.2⟩
      case round =>
        obtain ⟨j, R, rfl, hj, HT⟩ := hrel
        clear HM HM5
        by_cases hlt : j < m
        · have hjla : j < la := by have := HN.out; omega
          obtain ⟨b1', o1, rfl, hb1, hx', x0, x1⟩ := (HF.out.1.later HT.out.2.2.2.2).cell HP.out.2.1.1 hjla
          obtain ⟨bb, oo, eb, hbw, _⟩ := HF.out.1.cell HP.out.2.1.1 hjla
          have hbG : b1' ≠ G2 := by
            simp only [Option.some.injEq, Addr.mk.injEq] at eb
            have := HG2.out; omega
          clear eb hbw
          obtain ⟨x, hxe⟩ : ∃ x, dig f j = x := ⟨_, rfl⟩
          rw [hxe] at hx' x0 x1
          obtain ⟨s, hs⟩ : ∃ s, dig (mulL Q g) j % p = s := ⟨_, rfl⟩
          have hs0 : 0 ≤ s ∧ s < p := by rw [← hs]; exact ⟨Int.emod_nonneg _ (by have := HP.out.2.1.1; omega), Int.emod_lt_of_pos _ HP.out.2.1.1⟩
          obtain ⟨l, hl⟩ : ∃ l, (x - s) % p = l := ⟨_, rfl⟩
          have HCF : Hid (∀ W, Below wr.heap.size wr W → Calls Tryd.prog 72 #[.int .u64 p, .slice (some ⟨G, 0, none⟩) nq nq, .slice (some ⟨gb, goff, none⟩) lb cb, .int .i64 (j : Int)] W fun e w' => e = .returned (.int .u64 s) ∧ Below W.heap.size W w') := fun W hb =>
            coefficient_any p s (some ⟨G, 0, none⟩) (some ⟨gb, goff, none⟩) nq nq lb cb j Q g W HP.out.2.1 ⟨(Own.whole (HT.out.1.all hb) (Nat.zero_le _) HQ.out.2.2.1.symm).row, HQ.out.1.wd, hn4⟩ ((HF.out.2.1.later HT.out.2.2.2.2).later hb) (by omega) hs
          have HMI : Hid (∀ W, Calls Tryd.prog 52 #[.int .u64 p, .int .u64 x, .int .u64 s] W fun e w' => e = .returned (.int .u64 l) ∧ w' = W) := fun W => mminus_any p x s l W HP.out.2.1 ⟨x0, x1⟩ hs0 hl
          have hjR : j < R.length := by rw [HT.out.2.2.1]; exact hlt
          have HJ : Hid (l = (dig f j - cs Q g j (j + 1)) % p ∧ j < R.length) := ⟨by rw [← hl, ← hs, hxe, sub_emod, cs_mulL], hjR⟩
          have KS : Hid (∀ w', Below wr.heap.size wr w' → w'.cell? ⟨b1', o1 + j, none⟩ = some (.int .u64 x)) := fun w' hb => (hb.cell (p := ⟨b1', o1 + j, none⟩) hb1).trans hx'
          have KS2 : Hid (∀ (w' : World) (z : Nat) (v : Value), w'.cell? ⟨b1', o1 + j, none⟩ = some (.int .u64 x) → (w'.setCell ⟨G2, z, none⟩ v).cell? ⟨b1', o1 + j, none⟩ = some (.int .u64 x)) := fun w' z v h => by rw [setCell_ne (fun e => hbG e.1)]; exact h
          have r0 := HT.out.2.1.cell hjR
          have r1 := HT.out.2.1.frozen
          have z1 : (j : Int) < (m : Int) := by omega
          have z2 : (0 : Int) ≤ (j : Int) := by omega
          have z3 : (j : Int) < (la : Int) := by omega
          clear hxe hs hs0 hl x0 x1 hx' hb1 hjla hbG hjR
          go_wp2
          refine wp_region_noPanic ?_
          refine wp_region_held_drew (S := fun w' => (w'.cell? ⟨b1', o1 + j, none⟩ = some (.int .u64 x))) (by kernel_rfl) (by (try dsimp only); exact KS.out _ (Below.refl _ _).drew) (fun hHeld => ?_)
          refine wpAnyH_take (i := 0) (oi := Oper.mk (some 67) _ _ _ _ _) (v := ?_) rfl (by decide +kernel) (by decide +kernel) (by decide +kernel) (fun _ _ _ h => h) (Or.inl ⟨by rfl, ?_⟩) (by assumption) ?_
          rotate_left
          · (intro w hSw; (try dsimp only at hSw); go_simp <;> (try with_reducible rfl))
          (try simp only [Act.put, List.setIfInBounds_toArray, List.set_cons_zero, List.set_cons_succ])
          refine wpAnyH_take (i := 1) (oi := Oper.mk (some 68) _ _ _ _ _) (v := ?_) rfl (by decide +kernel) (by decide +kernel) (by decide +kernel) (fun _ _ _ h => h) (Or.inl ⟨by rfl, ?_⟩) (by assumption) ?_
          rotate_left
          · (intro w hSw; (try dsimp only at hSw); go_simp <;> (try with_reducible rfl))
          (try simp only [Act.put, List.setIfInBounds_toArray, List.set_cons_zero, List.set_cons_succ])
          refine wpAnyH_take (i := 2) (oi := Oper.mk (some 69) _ _ _ _ _) (v := ?_) rfl (by decide +kernel) (by decide +kernel) (by decide +kernel) (fun _ _ _ h => h) (Or.inl ⟨by rfl, ?_⟩) (by assumption) ?_
          rotate_left
          · (intro w hSw; (try dsimp only at hSw); go_simp <;> (try with_reducible rfl))
          (try simp only [Act.put, List.setIfInBounds_toArray, List.set_cons_zero, List.set_cons_succ])
          refine wpAnyH_take (i := 3) (oi := Oper.mk (some 70) _ _ _ _ _) (v := ?_) rfl (by decide +kernel) (by decide +kernel) (by decide +kernel) (fun _ _ _ h => h) (Or.inl ⟨by rfl, ?_⟩) (by assumption) ?_
          rotate_left
          · (intro w hSw; (try dsimp only at hSw); go_simp <;> (try with_reducible rfl))
          (try simp only [Act.put, List.setIfInBounds_toArray, List.set_cons_zero, List.set_cons_succ])
          refine wpAnyH_take (i := 4) (oi := Oper.mk (some 71) _ _ _ _ _) (v := ?_) rfl (by decide +kernel) (by decide +kernel) (by decide +kernel) (fun _ _ _ h => h) (Or.inl ⟨by rfl, ?_⟩) (by assumption) ?_
          rotate_left
          · (intro w hSw; (try dsimp only at hSw); go_simp <;> (try with_reducible rfl))
          (try simp only [Act.put, List.setIfInBounds_toArray, List.set_cons_zero, List.set_cons_succ])
          refine wpAnyH_take (i := 5) (oi := Oper.mk (some 72) _ _ _ _ _) (v := ?_) rfl (by decide +kernel) (by decide +kernel) (by decide +kernel) (fun _ _ _ h => h) (Or.inl ⟨by rfl, ?_⟩) (by assumption) ?_
          rotate_left
          · (intro w hSw; (try dsimp only at hSw); go_simp <;> (try with_reducible rfl))
          (try simp only [Act.put, List.setIfInBounds_toArray, List.set_cons_zero, List.set_cons_succ])
          refine wpAnyH_take (i := 6) (oi := Oper.mk (some 73) _ _ _ _ _) (v := ?_) rfl (by decide +kernel) (by decide +kernel) (by decide +kernel) (fun _ _ _ h => h) (Or.inl ⟨by rfl, ?_⟩) (by assumption) ?_
          rotate_left
          · (intro w hSw; (try dsimp only at hSw); go_simp <;> (try with_reducible rfl))
          (try simp only [Act.put, List.setIfInBounds_toArray, List.set_cons_zero, List.set_cons_succ])
          refine wpAnyH_take (i := 7) (oi := Oper.mk (some 74) _ _ _ _ _) (v := ?_) rfl (by decide +kernel) (by decide +kernel) (by decide +kernel) (fun _ _ _ h => h) (Or.inl ⟨by rfl, ?_⟩) (by assumption) ?_
          rotate_left
          · (intro w hSw; (try dsimp only at hSw); go_simp <;> (try with_reducible rfl))
          (try simp only [Act.put, List.setIfInBounds_toArray, List.set_cons_zero, List.set_cons_succ])
          refine wpAnyH_take (i := 8) (oi := Oper.mk (some 75) _ _ _ _ _) (v := ?_) rfl (by decide +kernel) (by decide +kernel) (by decide +kernel) (fun _ _ _ h => h) (Or.inl ⟨by rfl, ?_⟩) (by assumption) ?_
          rotate_left
          · (intro w hSw; (try dsimp only at hSw); go_simp <;> (try with_reducible rfl))
          (try simp only [Act.put, List.setIfInBounds_toArray, List.set_cons_zero, List.set_cons_succ])
          refine wpAnyH_take (i := 9) (oi := Oper.mk (some 76) _ _ _ _ _) (v := ?_) rfl (by decide +kernel) (by decide +kernel) (by decide +kernel) (fun _ _ _ h => h) (Or.inl ⟨by rfl, ?_⟩) (by assumption) ?_
          rotate_left
          · (intro w hSw; (try dsimp only at hSw); go_simp <;> (try with_reducible rfl))
          (try simp only [Act.put, List.setIfInBounds_toArray, List.set_cons_zero, List.set_cons_succ])
          refine wpAnyH_take (i := 10) (oi := Oper.mk (some 77) _ _ _ _ _) (v := ?_) rfl (by decide +kernel) (by decide +kernel) (by decide +kernel) (fun _ _ _ h => h) (Or.inl ⟨by rfl, ?_⟩) (by assumption) ?_
          rotate_left
          · (intro w hSw; (try dsimp only at hSw); go_simp <;> (try with_reducible rfl))
          (try simp only [Act.put, List.setIfInBounds_toArray, List.set_cons_zero, List.set_cons_succ])
          refine wpAnyH_ready (rs := [11]) (by decide +kernel) (by simp) ?_
          refine AllReadyH.cons (o := Oper.mk (some 78) _ _ _ _ _) rfl (fun K hK => ?_) AllReadyH.nil
          go_simp
          (go_at_call 72; refine (HCF.out _ (Below.refl _ _).drew).mono ?_; rintro e w4 ⟨rfl, hb4'⟩; have hb4 : Below wr.heap.size wr w4 := bnextM (B := 0) (Below.refl _ _).drew hb4'; clear hb4'; have HB : Hid (Below wr.heap.size wr w4 ∧ Blk w4 G .u64 25 Q ∧ Blk w4 G2 .u64 25 R ∧ Below w.heap.size w w4) := ⟨hb4, HT.out.1.all hb4, HT.out.2.1.all hb4, bnextM (B := 0) HT.out.2.2.2.2 hb4⟩; clear hb4; have q0 := HB.out.2.2.1.cell HJ.out.2; have q1 := HB.out.2.2.1.frozen)
          (try go_wp2_with fail)
          clear hHeld
          refine hK.out _ _ (by (try dsimp only); exact KS.out _ HB.out.1) (fun hHeld => ?_)
          clear hK K
          (try simp only [Act.put, List.setIfInBounds_toArray, List.set_cons_zero, List.set_cons_succ])
          refine wpAnyH_ready (rs := [12]) (by decide +kernel) (by simp) ?_
          refine AllReadyH.cons (o := Oper.mk (some 79) _ _ _ _ _) rfl (fun K hK => ?_) AllReadyH.nil
          go_simp
          (go_at_call 52; refine (HMI.out _).mono ?_; rintro e w6 ⟨rfl, hw6⟩; replace hw6 := hw6.symm; subst hw6)
          (try go_wp2_with fail)
          clear hHeld
          refine hK.out _ _ (by (try dsimp only); exact KS.out _ HB.out.1) (fun hHeld => ?_)
          clear hK K
          (try simp only [Act.put, List.setIfInBounds_toArray, List.set_cons_zero, List.set_cons_succ])
          refine wpAnyH_take (i := 13) (oi := Oper.mk (some 80) _ _ _ _ _) (v := ?_) rfl (by decide +kernel) (by decide +kernel) (by decide +kernel) (fun _ _ _ h => h) (Or.inl ⟨by rfl, ?_⟩) (by assumption) ?_
          rotate_left
          · (intro w hSw; (try dsimp only at hSw); go_simp <;> (try with_reducible rfl))
          (try simp only [Act.put, List.setIfInBounds_toArray, List.set_cons_zero, List.set_cons_succ])
          refine wpAnyH_ready (rs := [14]) (by decide +kernel) (by simp) ?_
          refine AllReadyH.cons (o := Oper.mk none _ _ _ _ _) rfl (fun K hK => ?_) AllReadyH.nil
          go_simp
          clear hHeld
          refine hK.out _ _ (by (try dsimp only); exact KS2.out _ _ _ (KS.out _ HB.out.1)) (fun hHeld => ?_)
          clear hK K
          (try simp only [Act.put, List.setIfInBounds_toArray, List.set_cons_zero, List.set_cons_succ])
          refine wpAnyH_done (by decide +kernel) ?_ _
          refine NoPanic.normal ?_
          go_wp2
          go_roundw
          case rel => exact ⟨j + 1, R.set j l, by go_num, by omega, HB.out.2.1.other (a := ⟨G2, j, none⟩) (by have := HG2.out; simp; omega) _, HB.out.2.2.1.set j l, by rw [List.length_set]; exact HT.out.2.2.1, fun t ht => by
            rw [dig_set _ HJ.out.2]
            by_cases e : t = j
            · subst e; rw [if_pos rfl]; exact HJ.out.1
            · rw [if_neg e]; exact HT.out.2.2.2.1 t (by omega), HB.out.2.2.2.setCell (p := ⟨G2, j, none⟩) HG2.out.2.2 _⟩
          case measure => simp [intOf]; omega
        · have HE : Hid (EqM p (fun x => ev f x) (fun x => ev Q x * ev g x + ev R x) ∧ Wd p R) := by
            have hjm : j = m := by omega
            refine ⟨HQ.out.1.done (by rw [← HF.out.2.2.2]; exact hlb) (by rw [HT.out.2.2.1]; exact HN.out.2.2.1) fun t ht => HT.out.2.2.2.1 t (by rw [HT.out.2.2.1] at ht; omega), ?_⟩
            intro z hz
            obtain ⟨i, hi, rfl⟩ := List.getElem_of_mem hz
            have : R[i] = dig R i := by simp [dig, hi]
            rw [this, HT.out.2.2.2.1 i (by rw [HT.out.2.2.1] at hi; omega)]
            exact ⟨Int.emod_nonneg _ (by have := HP.out.2.1.1; omega), Int.emod_lt_of_pos _ HP.out.2.1.1⟩
          have HTR := mtrimmed_any (some ⟨G2, 0, none⟩) m m R wr (Own.whole HT.out.2.1 (Nat.zero_le _) HT.out.2.2.1.symm).row (by omega)
          go_wp2_with (go_at_call 54; refine HTR.mono ?_; rintro e w4 ⟨⟨n, hn, rfl, hcan, hz⟩, hw4⟩; replace hw4 := hw4.symm; subst hw4; have HZ : Hid (n ≤ m ∧ Can (R.take n) ∧ ∀ t, n ≤ t → dig R t = 0) := ⟨hn, hcan, hz⟩; clear hn hcan hz)
          go_ret2
          have hz := HZ.out
          refine ⟨_, _, _, _, _, _, Q, R.take n, rfl, Own.whole HT.out.1 (by rw [HG.out]; exact Nat.le_refl _) HQ.out.2.2.1.symm, (Own.whole HT.out.2.1 HG2.out.2.2 HT.out.2.2.1.symm).take hz.1, fun h => HQ.out.1.can HP.out.1 h (by rw [← HF.out.2.2.2]; exact hlb), HQ.out.1.wd, ?_, ⟨HE.out.2.take n, hz.2.1⟩, ?_, HE.out.1.trans ((EqM.of_eq fun x => rfl).add (take_eqm p hz.2.2).symm), hn4, hm4, (fun a b ha hb => by cases ha; cases hb; show G ≠ G2; have := HG2.out; omega), HT.out.2.2.2.2⟩
          · rw [HQ.out.2.2.1, HN.out.2.1]; omega
          · rw [List.length_take, HT.out.2.2.1]; have h1 := HN.out; have h2 := HF.out.2.2; omega
    · have hQl : Q.length = nq := by rw [HS.out.2.1.len]; exact HN.out.2.1.symm
      have hkq : k < Q.length := by omega
      obtain ⟨K, hK⟩ : ∃ K, K = k + d := ⟨_, rfl⟩
      have hKI : (k : Int) + (d : Int) = (K : Int) := by omega
      have hKla : K < la := by have h1 := HN.out; have h2 := HF.out.2.2; omega
      obtain ⟨b1', o1, rfl, hb1, hx', x0, x1⟩ := (HF.out.1.later HS.out.2.2).cell HP.out.2.1.1 hKla
      obtain ⟨x, hxe⟩ : ∃ x, dig f K = x := ⟨_, rfl⟩
      rw [hxe] at hx' x0 x1
      obtain ⟨s, hs⟩ : ∃ s, dig (mulL Q g) K % p = s := ⟨_, rfl⟩
      have hs0 : 0 ≤ s ∧ s < p := by rw [← hs]; exact ⟨Int.emod_nonneg _ (by have := HP.out.2.1.1; omega), Int.emod_lt_of_pos _ HP.out.2.1.1⟩
      obtain ⟨l, hl⟩ : ∃ l, (x - s) % p = l := ⟨_, rfl⟩
      have hl0 : 0 ≤ l ∧ l < p := by rw [← hl]; exact ⟨Int.emod_nonneg _ (by have := HP.out.2.1.1; omega), Int.emod_lt_of_pos _ HP.out.2.1.1⟩
      obtain ⟨v, hv⟩ : ∃ v, l * c % p = v := ⟨_, rfl⟩
      have hv0 : 0 ≤ v ∧ v < p := by rw [← hv]; exact ⟨Int.emod_nonneg _ (by have := HP.out.2.1.1; omega), Int.emod_lt_of_pos _ HP.out.2.1.1⟩
      have HCF : Hid (∀ W, Below wr.heap.size wr W → Calls Tryd.prog 72 #[.int .u64 p, .slice (some ⟨G, 0, none⟩) nq nq, .slice (some ⟨gb, goff, none⟩) lb cb, .int .i64 (K : Int)] W fun e w' => e = .returned (.int .u64 s) ∧ Below W.heap.size W w') := fun W hb =>
        coefficient_any p s (some ⟨G, 0, none⟩) (some ⟨gb, goff, none⟩) nq nq lb cb K Q g W HP.out.2.1 ⟨(Own.whole (HS.out.1.all hb) (Nat.zero_le _) hQl.symm).row, HS.out.2.1.wd, hn4⟩ ((HF.out.2.1.later HS.out.2.2).later hb) (by omega) hs
      have HMI : Hid (∀ W, Calls Tryd.prog 52 #[.int .u64 p, .int .u64 x, .int .u64 s] W fun e w' => e = .returned (.int .u64 l) ∧ w' = W) := fun W => mminus_any p x s l W HP.out.2.1 ⟨x0, x1⟩ hs0 hl
      have HTI : Hid (∀ W, Calls Tryd.prog 47 #[.int .u64 p, .int .u64 l, .int .u64 c] W fun e w' => e = .returned (.int .u64 v) ∧ Below W.heap.size W w') := fun W => mtimes_any p l c v W HP.out.2.2.2 ⟨hl0.1, by have := HP.out.2.1; omega⟩ (by have := HC.out.1; have := HP.out.2.1; omega) hv
      have HQ : Hid (QSt p f g (Q.set k v) k ∧ k < Q.length ∧ Q.length = nq) := by
        obtain ⟨y, hy⟩ := HC.out.2
        obtain ⟨z, hz⟩ := step_eq (F := x) (c := c) hs hl hv
        refine ⟨HS.out.2.1.step hkq (by rw [← HF.out.2.2.2]; exact hlb) hv0 hy (z := z) ?_, hkq, hQl⟩
        rw [← HN.out.1, ← hK, hxe, ← cs_mulL]; exact hz
      have KS : Hid (∀ w', Below wr.heap.size wr w' → w'.cell? ⟨b1', o1 + K, none⟩ = some (.int .u64 x)) := fun w' hb => (hb.cell (p := ⟨b1', o1 + K, none⟩) hb1).trans hx'
      have r0 := HS.out.1.cell hkq
      have r1 := HS.out.1.frozen
      have z1 : (k : Int) < (nq : Int) := by omega
      have z2 : (0 : Int) ≤ (k : Int) := by omega
      have z3 : (K : Int) < (la : Int) := by omega
      have z4 : (0 : Int) ≤ (K : Int) := by omega
      have z5 : IntKind.i64.wrap (K : Int) = (K : Int) := by rw [IntKind.wrap_i64]; omega
      clear hK hxe hs hs0 hl hl0 hv hv0 hQl hkq x0 x1 hx' hb1 hKla
      go_wp2
      refine wp_region_noPanic ?_
      refine wp_region_held_drew (S := fun w' => (w'.cell? ⟨b1', o1 + K, none⟩ = some (.int .u64 x))) (by kernel_rfl) (by (try dsimp only); exact KS.out _ (Below.refl _ _).drew) (fun hHeld => ?_)
      refine wpAnyH_take (i := 0) (oi := Oper.mk (some 35) _ _ _ _ _) (v := ?_) rfl (by decide +kernel) (by decide +kernel) (by decide +kernel) (fun _ _ _ h => h) (Or.inl ⟨by rfl, ?_⟩) (by assumption) ?_
      rotate_left
      · (intro w hSw; (try dsimp only at hSw); go_simp <;> (try with_reducible rfl))
      (try simp only [Act.put, List.setIfInBounds_toArray, List.set_cons_zero, List.set_cons_succ])
      refine wpAnyH_take (i := 1) (oi := Oper.mk (some 36) _ _ _ _ _) (v := ?_) rfl (by decide +kernel) (by decide +kernel) (by decide +kernel) (fun _ _ _ h => h) (Or.inl ⟨by rfl, ?_⟩) (by assumption) ?_
      rotate_left
      · (intro w hSw; (try dsimp only at hSw); go_simp <;> (try with_reducible rfl))
      (try simp only [Act.put, List.setIfInBounds_toArray, List.set_cons_zero, List.set_cons_succ])
      refine wpAnyH_take (i := 2) (oi := Oper.mk (some 37) _ _ _ _ _) (v := ?_) rfl (by decide +kernel) (by decide +kernel) (by decide +kernel) (fun _ _ _ h => h) (Or.inl ⟨by rfl, ?_⟩) (by assumption) ?_
      rotate_left
      · (intro w hSw; (try dsimp only at hSw); go_simp <;> (try with_reducible rfl))
      (try simp only [Act.put, List.setIfInBounds_toArray, List.set_cons_zero, List.set_cons_succ])
      refine wpAnyH_take (i := 3) (oi := Oper.mk (some 38) _ _ _ _ _) (v := ?_) rfl (by decide +kernel) (by decide +kernel) (by decide +kernel) (fun _ _ _ h => h) (Or.inl ⟨by rfl, ?_⟩) (by assumption) ?_
      rotate_left
      · (intro w hSw; (try dsimp only at hSw); go_simp <;> (try with_reducible rfl))
      (try simp only [Act.put, List.setIfInBounds_toArray, List.set_cons_zero, List.set_cons_succ])
      refine wpAnyH_take (i := 4) (oi := Oper.mk (some 39) _ _ _ _ _) (v := ?_) rfl (by decide +kernel) (by decide +kernel) (by decide +kernel) (fun _ _ _ h => h) (Or.inl ⟨by rfl, ?_⟩) (by assumption) ?_
      rotate_left
      · (intro w hSw; (try dsimp only at hSw); go_simp <;> (try with_reducible rfl))
      (try simp only [Act.put, List.setIfInBounds_toArray, List.set_cons_zero, List.set_cons_succ])
      refine wpAnyH_take (i := 5) (oi := Oper.mk (some 40) _ _ _ _ _) (v := ?_) rfl (by decide +kernel) (by decide +kernel) (by decide +kernel) (fun _ _ _ h => h) (Or.inl ⟨by rfl, ?_⟩) (by assumption) ?_
      rotate_left
      · (intro w hSw; (try dsimp only at hSw); go_simp <;> (try with_reducible rfl))
      (try simp only [Act.put, List.setIfInBounds_toArray, List.set_cons_zero, List.set_cons_succ])
      refine wpAnyH_take (i := 6) (oi := Oper.mk (some 41) _ _ _ _ _) (v := ?_) rfl (by decide +kernel) (by decide +kernel) (by decide +kernel) (fun _ _ _ h => h) (Or.inl ⟨by rfl, ?_⟩) (by assumption) ?_
      rotate_left
      · (intro w hSw; (try dsimp only at hSw); go_simp <;> (try with_reducible rfl))
      (try simp only [Act.put, List.setIfInBounds_toArray, List.set_cons_zero, List.set_cons_succ])
      refine wpAnyH_take (i := 7) (oi := Oper.mk (some 42) _ _ _ _ _) (v := ?_) rfl (by decide +kernel) (by decide +kernel) (by decide +kernel) (fun _ _ _ h => h) (Or.inl ⟨by rfl, ?_⟩) (by assumption) ?_
      rotate_left
      · (intro w hSw; (try dsimp only at hSw); go_simp <;> (try with_reducible rfl))
      (try simp only [Act.put, List.setIfInBounds_toArray, List.set_cons_zero, List.set_cons_succ])
      refine wpAnyH_take (i := 8) (oi := Oper.mk (some 43) _ _ _ _ _) (v := ?_) rfl (by decide +kernel) (by decide +kernel) (by decide +kernel) (fun _ _ _ h => h) (Or.inl ⟨by rfl, ?_⟩) (by assumption) ?_
      rotate_left
      · (intro w hSw; (try dsimp only at hSw); go_simp <;> (try with_reducible rfl))
      (try simp only [Act.put, List.setIfInBounds_toArray, List.set_cons_zero, List.set_cons_succ])
      refine wpAnyH_take (i := 9) (oi := Oper.mk (some 44) _ _ _ _ _) (v := ?_) rfl (by decide +kernel) (by decide +kernel) (by decide +kernel) (fun _ _ _ h => h) (Or.inl ⟨by rfl, ?_⟩) (by assumption) ?_
      rotate_left
      · (intro w hSw; (try dsimp only at hSw); go_simp <;> (try with_reducible rfl))
      (try simp only [Act.put, List.setIfInBounds_toArray, List.set_cons_zero, List.set_cons_succ])
      refine wpAnyH_take (i := 10) (oi := Oper.mk (some 45) _ _ _ _ _) (v := ?_) rfl (by decide +kernel) (by decide +kernel) (by decide +kernel) (fun _ _ _ h => h) (Or.inl ⟨by rfl, ?_⟩) (by assumption) ?_
      rotate_left
      · (intro w hSw; (try dsimp only at hSw); go_simp <;> (try with_reducible rfl))
      (try simp only [Act.put, List.setIfInBounds_toArray, List.set_cons_zero, List.set_cons_succ])
      refine wpAnyH_take (i := 11) (oi := Oper.mk (some 46) _ _ _ _ _) (v := ?_) rfl (by decide +kernel) (by decide +kernel) (by decide +kernel) (fun _ _ _ h => h) (Or.inl ⟨by rfl, ?_⟩) (by assumption) ?_
      rotate_left
      · (intro w hSw; (try dsimp only at hSw); go_simp <;> (try with_reducible rfl))
      (try simp only [Act.put, List.setIfInBounds_toArray, List.set_cons_zero, List.set_cons_succ])
      refine wpAnyH_take (i := 12) (oi := Oper.mk (some 47) _ _ _ _ _) (v := ?_) rfl (by decide +kernel) (by decide +kernel) (by decide +kernel) (fun _ _ _ h => h) (Or.inl ⟨by rfl, ?_⟩) (by assumption) ?_
      rotate_left
      · (intro w hSw; (try dsimp only at hSw); go_simp <;> (try with_reducible rfl))
      (try simp only [Act.put, List.setIfInBounds_toArray, List.set_cons_zero, List.set_cons_succ])
      refine wpAnyH_ready (rs := [13]) (by decide +kernel) (by simp) ?_
      refine AllReadyH.cons (o := Oper.mk (some 48) _ _ _ _ _) rfl (fun K hK => ?_) AllReadyH.nil
      go_simp
      (go_at_call 72; refine (HCF.out _ (Below.refl _ _).drew).mono ?_; rintro e w4 ⟨rfl, hb4'⟩; have hb4 : Below wr.heap.size wr w4 := bnextM (B := 0) (Below.refl _ _).drew hb4'; clear hb4'; have HB : Hid (Below wr.heap.size wr w4 ∧ Blk w4 G .u64 25 Q ∧ Below w.heap.size w w4) := ⟨hb4, HS.out.1.all hb4, bnextM (B := 0) HS.out.2.2 hb4⟩; clear hb4)
      (try go_wp2_with fail)
      clear hHeld
      refine hK.out _ _ (by (try dsimp only); exact KS.out _ HB.out.1) (fun hHeld => ?_)
      clear hK K
      (try simp only [Act.put, List.setIfInBounds_toArray, List.set_cons_zero, List.set_cons_succ])
      refine wpAnyH_ready (rs := [14]) (by decide +kernel) (by simp) ?_
      refine AllReadyH.cons (o := Oper.mk (some 49) _ _ _ _ _) rfl (fun K hK => ?_) AllReadyH.nil
      go_simp
      (go_at_call 52; refine (HMI.out _).mono ?_; rintro e w6 ⟨rfl, hw6⟩; replace hw6 := hw6.symm; subst hw6)
      (try go_wp2_with fail)
      clear hHeld
      refine hK.out _ _ (by (try dsimp only); exact KS.out _ HB.out.1) (fun hHeld => ?_)
      clear hK K
      (try simp only [Act.put, List.setIfInBounds_toArray, List.set_cons_zero, List.set_cons_succ])
      refine wpAnyH_take (i := 15) (oi := Oper.mk (some 11) _ _ _ _ _) (v := ?_) rfl (by decide +kernel) (by decide +kernel) (by decide +kernel) (fun _ _ _ h => h) (Or.inl ⟨by rfl, ?_⟩) (by assumption) ?_
      rotate_left
      · (intro w hSw; (try dsimp only at hSw); go_simp <;> (try with_reducible rfl))
      (try simp only [Act.put, List.setIfInBounds_toArray, List.set_cons_zero, List.set_cons_succ])
      refine wpAnyH_done (by decide +kernel) ?_ _
      refine NoPanic.normal ?_
      have e0 := HB.out.2.1.cell HQ.out.2.1
      have e1 := HB.out.2.1.frozen
      go_wp2_with (go_at_call 47; refine (HTI.out _).mono ?_; rintro e w5 ⟨rfl, hb5⟩; have HB5 : Hid (Blk w5 G .u64 25 Q ∧ Below w.heap.size w w5) := ⟨HB.out.2.1.all hb5, bnextM (B := 0) HB.out.2.2 hb5⟩; have q0 := HB5.out.1.cell HQ.out.2.1; have q1 := HB5.out.1.frozen; clear hb5 e0 e1)
      go_roundw
      case rel => exact ⟨k, Q.set k v, by go_num, by omega, HB5.out.1.set k v, HQ.out.1, HB5.out.2.setCell (p := ⟨G, k, none⟩) (by rw [HG.out]; exact Nat.le_refl _) _⟩
      case measure => simp [intOf]
theorem divide_any (p : Int) (ao bo : Option Addr) (la ca lb cb : Nat) (f g : List Int) (w : World) (hpr : IsPr p) (hp : p ≤ 2147483648) (hf : FRow p w ao la ca f) (hg : FRow p w bo lb cb g) (hlb : 0 < lb) (hgc : Can g) :
    Calls Tryd.prog 60 #[.int .u64 p, .slice ao la ca, .slice bo lb cb] w fun e w' => DivOut w w' e p f g :=
  (divide_two p ao bo la ca lb cb f g w hpr hp hf hg hlb hgc).mono fun e w' h => by
    obtain ⟨qo, ql, qc, ro, rl, rc, q, r, h1, h2, h3, h4, h5, h6, h7, h8, h9, h10, h11, _, h12⟩ := h
    exact ⟨qo, ql, qc, ro, rl, rc, q, r, h1, h2, h3, h4, h5, h6, h7, h8, h9, h10, h11, h12⟩
end Go.Proofs.YtnniipekcbjloaaDoor
/-
  MI: walks: powers modulo a polynomial.
-/
namespace Go.Proofs.YtnniipekcbjloaaDoor
open Go.RowKit Go.Shelf
set_option linter.unusedVariables false
set_option linter.unusedSimpArgs false
theorem prodL_wd {p : Int} (hp : 0 < p) (f g : List Int) : Wd p (prodL p f g) := by
  unfold prodL
  split
  · exact Wd.nil p
  · exact rmL_wd hp _
theorem prodL_eqm (p : Int) (f g : List Int) : EqM p (fun x => ev (prodL p f g) x) (fun x => ev f x * ev g x) := by
  unfold prodL
  split
  · rename_i h
    exact EqM.of_eq fun x => by
      rcases h with h | h <;> subst h <;> simp [ev]
  · exact mulM_eqm p f g
theorem prodL_pm {p : Int} {f g : List Int} (hp : IsPr p) (hf : Pm p f) (hg : Pm p g) : Pm p (prodL p f g) := by
  unfold prodL
  split
  · exact Pm.nil p
  · rename_i h
    have h1 : f ≠ [] := fun e => h (Or.inl e)
    have h2 : g ≠ [] := fun e => h (Or.inr e)
    exact mulM_pm hp hf hg (List.length_pos_iff.2 h1) (List.length_pos_iff.2 h2)
/-- what a division leaves is the same modulo the divisor -/
theorem Md.ofDiv {p : Int} {g q r : List Int} {A : Int → Int} (h : EqM p A (fun x => ev q x * ev g x + ev r x)) : Md p g (fun x => ev r x) A := by
  obtain ⟨E, hE, h⟩ := h
  exact ⟨_, _, (IsP.ev q).neg, hE.neg, fun x => by rw [h x]; grind⟩
/-- what is left modulo g, in memory of the call's own -/
def LeftP (p : Int) (g : List Int) (B : Nat) (w : World) (ro : Option Addr) (rl rc : Nat) (r : List Int) (A : Int → Int) : Prop :=
  Own B w .u64 25 ro rl rc r ∧ Pm p r ∧ r.length < g.length ∧ rc ≤ 4194304 ∧ Md p g (fun x => ev r x) A
theorem LeftP.frow {p : Int} {g : List Int} {B : Nat} {w : World} {ro : Option Addr} {rl rc : Nat} {r : List Int} {A : Int → Int} (h : LeftP p g B w ro rl rc r A) : FRow p w ro rl rc r :=
  ⟨h.1.row, h.2.1.wd, Nat.le_trans h.1.row.hcap h.2.2.2.1⟩
theorem LeftP.later {p : Int} {g : List Int} {B : Nat} {w w' : World} {ro : Option Addr} {rl rc : Nat} {r : List Int} {A : Int → Int} (h : LeftP p g B w ro rl rc r A) (hb : Below w.heap.size w w') : LeftP p g B w' ro rl rc r A :=
  ⟨h.1.later hb, h.2⟩
theorem LeftP.to {p : Int} {g : List Int} {B : Nat} {w : World} {ro : Option Addr} {rl rc : Nat} {r : List Int} {A C : Int → Int} (h : LeftP p g B w ro rl rc r A) (k : Md p g A C) : LeftP p g B w ro rl rc r C :=
  ⟨h.1, h.2.1, h.2.2.1, h.2.2.2.1, h.2.2.2.2.trans k⟩
theorem powstep (A : Int → Int) (n b : Nat) (x : Int) : A x ^ (n / 2 ^ (b + 1)) * A x ^ (n / 2 ^ (b + 1)) * A x ^ (n / 2 ^ b % 2) = A x ^ (n / 2 ^ b) := (powhalf (A x) n b).symm
set_option maxRecDepth 100000 in
set_option maxHeartbeats 4000000 in
theorem power_any (p : Int) (n : Nat) (ao bo : Option Addr) (la ca lb cb : Nat) (f g : List Int) (w : World) (hpr : IsPr p) (hp : p ≤ 2147483648) (hf : FRow p w ao la ca f) (hg : FRow p w bo lb cb g) (hlb : 0 < lb) (hlb' : lb ≤ 100000) (hgc : Can g) (hn : n < 18446744073709551616) :
    Calls Tryd.prog 61 #[.int .u64 p, .slice ao la ca, .int .u64 (n : Int), .slice bo lb cb] w fun e w' => NewF w w' e fun r => Pm p r ∧ r.length < g.length ∧ Md p g (fun x => ev r x) (fun x => ev f x ^ n) := by
  have hp2 := hpr.two
  have hlen := fun W => mlen64 (n : Int) W (by omega) (by omega)
  simp only [Int.toNat_natCast] at hlen
  have b4 : Lib.bitLen n ≤ 64 := Lib.bitLen_le n 64 (by omega) (by omega)
  have b5 : n < 2 ^ Lib.bitLen n := by
    by_cases h0 : n = 0
    · subst h0; exact Nat.two_pow_pos _
    · exact (bitLen_bounds (y := n) (by omega) hn).2.2
  obtain ⟨L, hL⟩ : ∃ L, Lib.bitLen n = L := ⟨_, rfl⟩
  rw [hL] at hlen b4 b5
  clear hL
  have HP : Hid (IsPr p ∧ p ≤ 2147483648 ∧ (0 < p ∧ p ≤ 2147483648) ∧ n < 2 ^ L) := ⟨hpr, hp, ⟨by omega, hp⟩, b5⟩
  have HF : Hid (FRow p w ao la ca f ∧ FRow p w bo lb cb g ∧ 0 < lb ∧ lb ≤ 100000 ∧ Can g ∧ lb = g.length) := ⟨hf, hg, hlb, hlb', hgc, hg.row.hlen⟩
  have HD : Hid (∀ (W : World) (B : Nat) (xo : Option Addr) (xl xc : Nat) (xs : List Int), Below w.heap.size w W → FRow p W xo xl xc xs → Calls Tryd.prog 60 #[.int .u64 p, .slice xo xl xc, .slice bo lb cb] W fun e w' => (∃ qo ql qc ro rl rc r, e = .returned (.tuple #[.slice qo ql qc, .slice ro rl rc]) ∧ LeftP p g w.heap.size w' ro rl rc r (fun x => ev xs x)) ∧ Below W.heap.size W w') := by
    intro W B xo xl xc xs hb hx
    refine (divide_any p xo bo xl xc lb cb xs g W HP.out.1 HP.out.2.1 hx (HF.out.2.1.later hb) HF.out.2.2.1 HF.out.2.2.2.2.1).mono fun e w' h => ?_
    obtain ⟨qo, ql, qc, ro, rl, rc, q, r, he, _, hr, _, _, _, hpm, hlt, heq, _, hrc, hbw⟩ := h
    exact ⟨⟨qo, ql, qc, ro, rl, rc, r, he, hr.mono hb.size, hpm, hlt, hrc, Md.ofDiv heq⟩, hbw⟩
  have HM : Hid (∀ (W : World) (xo yo : Option Addr) (xl xc yl yc : Nat) (xs ys : List Int) (A C : Int → Int), LeftP p g w.heap.size W xo xl xc xs A → LeftP p g w.heap.size W yo yl yc ys C → Calls Tryd.prog 53 #[.int .u64 p, .slice xo xl xc, .slice yo yl yc] W fun e w' => (∃ zo zl zc, e = .returned (.slice zo zl zc) ∧ FRow p w' zo zl zc (prodL p xs ys)) ∧ Below W.heap.size W w') := by
    intro W xo yo xl xc yl yc xs ys A C hx hy
    have h1 := hx.1.row.hlen
    have h2 := hy.1.row.hlen
    have h3 := hx.2.2.1
    have h4 := hy.2.2.1
    have h5 := HF.out.2.2.2.2.2
    have h6 := HF.out.2.2.2.1
    refine (product_any p xo yo xl xc yl yc xs ys W HP.out.2.2.1 hx.frow hy.frow (by omega)).mono fun e w' h => ?_
    obtain ⟨zo, zl, zc, zs, he, ho, rfl, hc, hb⟩ := h
    exact ⟨⟨zo, zl, zc, he, ho.row, prodL_wd HP.out.2.2.1.1 _ _, Nat.le_trans ho.row.hcap hc⟩, hb⟩
  have H1 : Hid (FRow p (w.alloc (.cells #[.int .u64 1] 25)) (some ⟨w.heap.size, 0, none⟩) 1 1 [1] ∧ Below w.heap.size w (w.alloc (.cells #[.int .u64 1] 25))) := by
    have hbk : Blk (w.alloc (.cells #[.int .u64 1] 25)) w.heap.size .u64 25 [1] := Blk.new w .u64 25 [1]
    exact ⟨⟨(Own.whole hbk (Nat.le_refl _) rfl).row, fun z hz => by rw [List.mem_singleton.1 hz]; omega, by decide⟩, (Below.refl _ _).alloc (Nat.le_refl _) _⟩
  clear hf hg hpr hp hp2 hgc b5 hlb'
  go_enter Tryd.func61, Tryd.ntmps61
  go_wp2_with (first
    | (go_at_call 60; have _t := HA; refine (HD.out _ 0 ao la ca f HA.out.2 (HF.out.1.later HA.out.2)).mono ?_; rintro e w3 ⟨⟨qo3, ql3, qc3, fo, fl, fc, f', rfl, hlf⟩, hb3⟩; have HB : Hid (LeftP p g w.heap.size w3 ro rl rc r (fun _ => 1) ∧ LeftP p g w.heap.size w3 fo fl fc f' (fun x => ev f x) ∧ Below w.heap.size w w3) := ⟨HA.out.1.later hb3, hlf, bnextM (B := 0) HA.out.2 hb3⟩; clear hlf hb3)
    | (go_at_call 60; refine (HD.out _ 0 (some ⟨w.heap.size, 0, none⟩) 1 1 [1] H1.out.2 H1.out.1).mono ?_; rintro e w2 ⟨⟨qo, ql, qc, ro, rl, rc, r, rfl, hlr⟩, hb2⟩; have HA : Hid (LeftP p g w.heap.size w2 ro rl rc r (fun _ => 1) ∧ Below w.heap.size w w2) := ⟨hlr.to (Md.of_eq fun x => by simp [ev]), bnextM (B := 0) H1.out.2 hb2⟩; clear hlr hb2)
    | (go_at_call 77; refine (hlen _).mono ?_; rintro e w4 ⟨rfl, hw4⟩; replace hw4 := hw4.symm; subst hw4))
  clear HA
  go_loopw [10, 11] (fun z i wr => ∃ (b : Nat) (ro : Option Addr) (rl rc : Nat) (r : List Int), i = .int .i64 ((b : Int) - 1) ∧ b ≤ 64 ∧ z = .slice ro rl rc ∧ Hid (LeftP p g w.heap.size wr ro rl rc r (fun x => ev f x ^ (n / 2 ^ b)) ∧ Below w3.heap.size w3 wr)) (fun _ i _ => (intOf i + 1).toNat)
  case atStart => exact ⟨L, ro, rl, rc, r, by go_num, b4, rfl, HB.out.1.to (Md.of_eq fun x => by rw [Nat.div_eq_of_lt HP.out.2.2.2, Int.pow_zero]), Below.refl _ _⟩
  case round =>
    obtain ⟨b, ro, rl, rc, r, rfl, hb64, rfl, HS⟩ := hrel
    rcases b with _ | b
    · have hs := HS.out.1
      rw [Nat.pow_zero, Nat.div_one] at hs
      have HE : Hid (LeftP p g w.heap.size wr ro rl rc r (fun x => ev f x ^ n)) := hs
      clear hs
      go_wp2
      go_ret
      exact ⟨ro, rl, rc, r, rfl, HE.out.1, ⟨HE.out.2.1, HE.out.2.2.1, HE.out.2.2.2.2⟩, HE.out.2.2.2.1, bnextM (B := 0) HB.out.2.2 HS.out.2⟩
    · have hand := mand_one n b hn
      have hbw : Hid (Below w.heap.size w wr) := bnextM (B := 0) HB.out.2.2 HS.out.2
      by_cases hbit : n / 2 ^ b % 2 = 1
      · have HE : Hid (n / 2 ^ b % 2 = 1) := hbit
        rw [hbit] at hand
        clear hbit
        go_wp2_with (first
          | (go_at_call 60; have _t := HP2; refine (HD.out _ 0 zo7 zl7 zc7 _ HP2.out.2.1 HP2.out.1).mono ?_; rintro e w8 ⟨⟨qo8, ql8, qc8, ro8, rl8, rc8, r8, rfl, hl8⟩, hb8⟩; have HQ : Hid (LeftP p g w.heap.size w8 ro8 rl8 rc8 r8 (fun x => ev f x ^ (n / 2 ^ b)) ∧ Below w3.heap.size w3 w8) := ⟨hl8.to (HP2.out.2.2.1), bnextM (B := 0) HP2.out.2.2.2 hb8⟩; clear hl8 hb8)
          | (go_at_call 53; have _t := HD1; refine (HM.out _ ro6 fo rl6 rc6 fl fc r6 f' _ _ HD1.out.1 HD1.out.2.1).mono ?_; rintro e w7 ⟨⟨zo7, zl7, zc7, rfl, hz7⟩, hb7⟩; have HP2 : Hid (FRow p w7 zo7 zl7 zc7 (prodL p r6 f') ∧ Below w.heap.size w w7 ∧ Md p g (fun x => ev (prodL p r6 f') x) (fun x => ev f x ^ (n / 2 ^ b)) ∧ Below w3.heap.size w3 w7) := ⟨hz7, bnextM (B := 0) HD1.out.2.2.1 hb7, (Md.ofEqM g (prodL_eqm p r6 f')).trans ((HD1.out.1.2.2.2.2.mul HD1.out.2.1.2.2.2.2 (IsP.ev r6) (IsP.ev f)).trans (Md.of_eq fun x => by have := powstep (fun x => ev f x) n b x; rw [HE.out, Int.pow_one] at this; exact this)), bnextM (B := 0) HD1.out.2.2.2 hb7⟩; clear hz7 hb7)
          | (go_at_call 60; have _t := HP1; refine (HD.out _ 0 zo5 zl5 zc5 _ HP1.out.2.1 HP1.out.1).mono ?_; rintro e w6 ⟨⟨qo6, ql6, qc6, ro6, rl6, rc6, r6, rfl, hl6⟩, hb6⟩; have HD1 : Hid (LeftP p g w.heap.size w6 ro6 rl6 rc6 r6 (fun x => ev f x ^ (n / 2 ^ (b + 1)) * ev f x ^ (n / 2 ^ (b + 1))) ∧ LeftP p g w.heap.size w6 fo fl fc f' (fun x => ev f x) ∧ Below w.heap.size w w6 ∧ Below w3.heap.size w3 w6) := ⟨hl6.to HP1.out.2.2.1, HB.out.2.1.later (bnextM (B := 0) HP1.out.2.2.2 hb6), bnextM (B := 0) HP1.out.2.1 hb6, bnextM (B := 0) HP1.out.2.2.2 hb6⟩; clear hl6 hb6)
          | (go_at_call 53; refine (HM.out _ ro ro rl rc rl rc r r _ _ HS.out.1 HS.out.1).mono ?_; rintro e w5 ⟨⟨zo5, zl5, zc5, rfl, hz5⟩, hb5⟩; have HP1 : Hid (FRow p w5 zo5 zl5 zc5 (prodL p r r) ∧ Below w.heap.size w w5 ∧ Md p g (fun x => ev (prodL p r r) x) (fun x => ev f x ^ (n / 2 ^ (b + 1)) * ev f x ^ (n / 2 ^ (b + 1))) ∧ Below w3.heap.size w3 w5) := ⟨hz5, bnextM (B := 0) hbw.out hb5, (Md.ofEqM g (prodL_eqm p r r)).trans (HS.out.1.2.2.2.2.mul HS.out.1.2.2.2.2 (IsP.ev r) ((IsP.ev f).pow _)), bnextM (B := 0) HS.out.2 hb5⟩; clear hz5 hb5))
        go_roundw
        case rel => exact ⟨b, ro8, rl8, rc8, r8, rfl, by omega, rfl, HQ.out⟩
        case measure => simp [intOf]
      · have hbit0 : n / 2 ^ b % 2 = 0 := by omega
        have HE : Hid (n / 2 ^ b % 2 = 0) := hbit0
        rw [hbit0] at hand
        clear hbit hbit0
        go_wp2_with (first
          | (go_at_call 60; have _t := HP1; refine (HD.out _ 0 zo5 zl5 zc5 _ HP1.out.2.1 HP1.out.1).mono ?_; rintro e w6 ⟨⟨qo6, ql6, qc6, ro6, rl6, rc6, r6, rfl, hl6⟩, hb6⟩; have HQ : Hid (LeftP p g w.heap.size w6 ro6 rl6 rc6 r6 (fun x => ev f x ^ (n / 2 ^ b)) ∧ Below w3.heap.size w3 w6) := ⟨hl6.to (HP1.out.2.2.1.trans (Md.of_eq fun x => by have := powstep (fun x => ev f x) n b x; rw [HE.out, Int.pow_zero, Int.mul_one] at this; exact this)), bnextM (B := 0) HP1.out.2.2.2 hb6⟩; clear hl6 hb6)
          | (go_at_call 53; refine (HM.out _ ro ro rl rc rl rc r r _ _ HS.out.1 HS.out.1).mono ?_; rintro e w5 ⟨⟨zo5, zl5, zc5, rfl, hz5⟩, hb5⟩; have HP1 : Hid (FRow p w5 zo5 zl5 zc5 (prodL p r r) ∧ Below w.heap.size w w5 ∧ Md p g (fun x => ev (prodL p r r) x) (fun x => ev f x ^ (n / 2 ^ (b + 1)) * ev f x ^ (n / 2 ^ (b + 1))) ∧ Below w3.heap.size w3 w5) := ⟨hz5, bnextM (B := 0) hbw.out hb5, (Md.ofEqM g (prodL_eqm p r r)).trans (HS.out.1.2.2.2.2.mul HS.out.1.2.2.2.2 (IsP.ev r) ((IsP.ev f).pow _)), bnextM (B := 0) HS.out.2 hb5⟩; clear hz5 hb5))
        go_roundw
        case rel => exact ⟨b, ro6, rl6, rc6, r6, rfl, by omega, rfl, HQ.out⟩
        case measure => simp [intOf]
end Go.Proofs.YtnniipekcbjloaaDoor
/-
  MJ: walks: modp's faces at what is good: Check, Add, Mul, DivMod, Pow.
-/
namespace Go.Proofs.YtnniipekcbjloaaDoor
open Go.RowKit Go.Shelf
set_option linter.unusedVariables false
set_option linter.unusedSimpArgs false
/-- a prime and the table that its test wants -/
def PrimeT (p : Int) (w : World) : Prop := IsPr p ∧ p < 2147483648 ∧ TabAt 0 Lib.deBruijn64tab w
theorem PrimeT.later {p : Int} {w w' : World} (h : PrimeT p w) (hb : Below w.heap.size w w') : PrimeT p w' := ⟨h.1, h.2.1, mtab_later h.2.2 hb⟩
/-- a polynomial modulo p in memory -/
def GoodF (p : Int) (w : World) (ao : Option Addr) (len cap : Nat) (zs : List Int) : Prop := FRow p w ao len cap zs ∧ Pm p zs ∧ len ≤ 1025
theorem GoodF.later {p : Int} {w w' : World} {ao : Option Addr} {len cap : Nat} {zs : List Int} (h : GoodF p w ao len cap zs) (hb : Below w.heap.size w w') : GoodF p w' ao len cap zs := ⟨h.1.later hb, h.2⟩
set_option maxRecDepth 100000 in
set_option maxHeartbeats 1000000 in
theorem mcheck_any (p : Int) (ao : Option Addr) (len cap : Nat) (zs : List Int) (w : World) (hp : PrimeT p w) (hf : GoodF p w ao len cap zs) :
    Calls Tryd.prog 18 #[.slice ao len cap, .int .u64 p] w fun e w' => e = .returned (.int .i64 0) ∧ Below w.heap.size w w' := by
  have hp0 : 0 < p := by have := hp.1.two; omega
  have HI := isPrime_any p w hp.1 hp.2.1 hp.2.2
  have HF : Hid (GoodF p w ao len cap zs) := hf
  have hl : len ≤ 1025 := hf.2.2
  have hl' : ¬ (1025 : Int) < (len : Int) := by omega
  have hlen : Hid (len = zs.length) := hf.1.row.hlen
  have hloop : ∀ (wr : World) (k : Nat), Below w.heap.size w wr → k < len → ∃ b off z, ao = some ⟨b, off, none⟩ ∧ wr.cell? ⟨b, off + k, none⟩ = some (.int .u64 z) ∧ ¬ p ≤ z ∧ 0 ≤ z := by
    intro wr k hb hk
    obtain ⟨b, off, e, _, hc, h0, h1⟩ := (HF.out.1.later hb).cell hp0 hk
    exact ⟨b, off, _, e, hc, by omega, h0⟩
  have HL : Hid (∀ (wr : World) (k : Nat), Below w.heap.size w wr → k < len → ∃ b off z, ao = some ⟨b, off, none⟩ ∧ wr.cell? ⟨b, off + k, none⟩ = some (.int .u64 z) ∧ ¬ p ≤ z ∧ 0 ≤ z) := hloop
  clear hloop hp
  by_cases h0 : len = 0
  · subst h0
    clear hf
    go_enter Tryd.func18, Tryd.ntmps18
    go_wp2_with (go_at_call 48; refine HI.mono ?_; rintro e w1 ⟨rfl, hb1⟩)
    go_loopw [29] (fun i wr => i = .int .i64 0 ∧ wr = w1) (fun i wr => 0)
    case atStart => exact ⟨rfl, rfl⟩
    case round =>
      obtain ⟨rfl, rfl⟩ := hrel
      go_wp2
      go_ret
      exact ⟨rfl, hb1⟩
  · obtain ⟨b, off, eo, _, hc, c0, c1⟩ := hf.1.cell hp0 (k := len - 1) (by omega)
    subst eo
    have hcan := can_dig hf.2.1.can (by have := hlen.out; omega)
    rw [← hlen.out] at hcan
    obtain ⟨z, hz⟩ : ∃ z, dig zs (len - 1) = z := ⟨_, rfl⟩
    rw [hz] at hc c0 c1 hcan
    have hz0 : (z == 0) = false := by simpa using hcan
    have HCE : Hid (∀ wr, Below w.heap.size w wr → wr.cell? ⟨b, off + (len - 1), none⟩ = some (.int .u64 z)) := fun wr hb => (hb.cell (p := ⟨b, off + (len - 1), none⟩) (cell_lt hc)).trans hc
    have e1 : (len : Int) - 1 = ((len - 1 : Nat) : Int) := by omega
    have e2 : (0 : Int) < (len : Int) := by omega
    have e3 : len - 1 < len := by omega
    clear hf hc hcan hz h0
    go_enter Tryd.func18, Tryd.ntmps18
    go_wp2_with (go_at_call 48; refine HI.mono ?_; rintro e w1 ⟨rfl, hb1⟩; have hcc := HCE.out _ hb1)
    go_loopw [29, 6] (fun i z wr => ∃ k : Nat, k ≤ len ∧ i = .int .i64 (k : Int) ∧ wr = w1) (fun i _ _ => len - (intOf i).toNat)
    case atStart => exact ⟨0, Nat.zero_le _, rfl, rfl⟩
    case round =>
      obtain ⟨k, hk, rfl, rfl⟩ := hrel
      by_cases hlt : k < len
      · obtain ⟨b', off', z', ee, hc', hz1, hz2⟩ := HL.out _ k hb1 hlt
        simp only [Option.some.injEq, Addr.mk.injEq, and_true] at ee
        obtain ⟨rfl, rfl⟩ := ee
        have z1 : (k : Int) < (len : Int) := by omega
        have z2 : (0 : Int) ≤ (k : Int) := by omega
        clear hcc
        go_wp2
        go_roundw
        case rel => exact ⟨k + 1, by omega, by go_num, by first | trivial | rfl⟩
        case measure => simp [intOf]; omega
      · have z1 : ¬ (k : Int) < (len : Int) := by omega
        clear hcc
        go_wp2
        go_ret
        exact ⟨rfl, hb1⟩
/-- two good polynomials and their prime -/
def Good2 (p : Int) (w : World) (ao bo : Option Addr) (la ca lb cb : Nat) (f g : List Int) : Prop := PrimeT p w ∧ GoodF p w ao la ca f ∧ GoodF p w bo lb cb g
theorem Good2.later {p : Int} {w w' : World} {ao bo : Option Addr} {la ca lb cb : Nat} {f g : List Int} (h : Good2 p w ao bo la ca lb cb f g) (hb : Below w.heap.size w w') : Good2 p w' ao bo la ca lb cb f g := ⟨h.1.later hb, h.2.1.later hb, h.2.2.later hb⟩
set_option maxHeartbeats 400000 in
theorem mcheckBoth_any (p : Int) (ao bo : Option Addr) (la ca lb cb : Nat) (f g : List Int) (w : World) (h : Good2 p w ao bo la ca lb cb f g) :
    Calls Tryd.prog 49 #[.slice ao la ca, .slice bo lb cb, .int .u64 p] w fun e w' => e = .returned (.int .i64 0) ∧ Below w.heap.size w w' := by
  have H1 := mcheck_any p ao la ca f w h.1 h.2.1
  have H2 : Hid (∀ W, Below w.heap.size w W → Calls Tryd.prog 18 #[.slice bo lb cb, .int .u64 p] W fun e w' => e = .returned (.int .i64 0) ∧ Below W.heap.size W w') := fun W hb => mcheck_any p bo lb cb g W (h.1.later hb) (h.2.2.later hb)
  clear h
  go_enter Tryd.func49, Tryd.ntmps49
  go_wp2_with (first
    | (go_at_call 18; have _t := hb1; refine (H2.out _ hb1).mono ?_; rintro e w2 ⟨rfl, hb2⟩)
    | (go_at_call 18; refine H1.mono ?_; rintro e w1 ⟨rfl, hb1⟩))
  go_ret
  exact ⟨rfl, bnextM (B := 0) hb1 hb2⟩
set_option maxHeartbeats 400000 in
theorem mcheckDivisor_any (p : Int) (ao bo : Option Addr) (la ca lb cb : Nat) (f g : List Int) (w : World) (h : Good2 p w ao bo la ca lb cb f g) (hlb : 0 < lb) :
    Calls Tryd.prog 59 #[.slice ao la ca, .slice bo lb cb, .int .u64 p] w fun e w' => e = .returned (.int .i64 0) ∧ Below w.heap.size w w' := by
  have H1 := mcheckBoth_any p ao bo la ca lb cb f g w h
  have q1 : ((lb : Int) == 0) = false := by simp; omega
  clear h
  go_enter Tryd.func59, Tryd.ntmps59
  go_wp2_with (go_at_call 49; refine H1.mono ?_; rintro e w1 ⟨rfl, hb1⟩)
  go_ret
  exact ⟨rfl, hb1⟩
/-- what a face hands back: a row of the call's own, and no error -/
def FaceF (w w' : World) (e : Ending) (P : List Int → Prop) : Prop :=
  ∃ ao len cap zs, e = .returned (.tuple #[.slice ao len cap, .int .i64 0]) ∧ Own w.heap.size w' .u64 25 ao len cap zs ∧ P zs ∧ cap ≤ 4194304 ∧ Below w.heap.size w w'
theorem NewF.back {w1 w w' : World} {e : Ending} {P : List Int → Prop} (h : NewF w1 w' e P) (hb : Below w.heap.size w w1) : NewF w w' e P := by
  obtain ⟨ao, len, cap, zs, he, ho, hp, hc, h1⟩ := h
  exact ⟨ao, len, cap, zs, he, ho.mono hb.size, hp, hc, bnextM (B := 0) hb h1⟩
set_option maxHeartbeats 400000 in
theorem mAdd_any (p : Int) (ao bo : Option Addr) (la ca lb cb : Nat) (f g : List Int) (w : World) (h : Good2 p w ao bo la ca lb cb f g) :
    Calls Tryd.prog 19 #[.slice ao la ca, .slice bo lb cb, .int .u64 p] w fun e w' => FaceF w w' e fun zs => Pm p zs ∧ EqM p (fun x => ev zs x) (fun x => ev f x + ev g x) ∧ zs.length ≤ max la lb := by
  have H1 := mcheckBoth_any p ao bo la ca lb cb f g w h
  have H2 : Hid (∀ W, Below w.heap.size w W → Calls Tryd.prog 50 #[.slice ao la ca, .slice bo lb cb, .func (.func 46) #[.int .u64 p] #[]] W fun e w' => NewF W w' e fun zs => Pm p zs ∧ EqM p (fun x => ev zs x) (fun x => ev f x + ev g x) ∧ zs.length ≤ max la lb) := fun W hb =>
    merged_any p ao bo la ca lb cb f g W (by have := h.1.1.two; have := h.1.2.1; omega) (h.2.1.later hb).1 (h.2.2.later hb).1
  have hmf : ∀ (fn : Fn) (first cap : Array Value) (w : World), (Instr.makeFunc fn first cap).run Tryd.prog w = .ok (.func fn first cap) w := fun _ _ _ _ => rfl
  clear h
  go_enter Tryd.func19, Tryd.ntmps19
  go_wp2_with (first
    | (go_at_call 49; refine H1.mono ?_; rintro e w1 ⟨rfl, hb1⟩)
    | (go_at_call 50; refine (H2.out _ hb1).mono ?_; rintro e w2 hn; obtain ⟨zo, zl, zc, zs, rfl, hrest⟩ := hn.back hb1))
  go_ret2
  exact ⟨zo, zl, zc, zs, rfl, hrest⟩
set_option maxHeartbeats 400000 in
theorem mPow_any (p : Int) (n : Nat) (ao bo : Option Addr) (la ca lb cb : Nat) (f g : List Int) (w : World) (h : Good2 p w ao bo la ca lb cb f g) (hlb : 0 < lb) (hn : n < 18446744073709551616) :
    Calls Tryd.prog 33 #[.slice ao la ca, .int .u64 (n : Int), .slice bo lb cb, .int .u64 p] w fun e w' => FaceF w w' e fun r => Pm p r ∧ r.length < g.length ∧ Md p g (fun x => ev r x) (fun x => ev f x ^ n) := by
  have H1 := mcheckDivisor_any p ao bo la ca lb cb f g w h hlb
  have H2 : Hid (∀ W, Below w.heap.size w W → Calls Tryd.prog 61 #[.int .u64 p, .slice ao la ca, .int .u64 (n : Int), .slice bo lb cb] W fun e w' => NewF W w' e fun r => Pm p r ∧ r.length < g.length ∧ Md p g (fun x => ev r x) (fun x => ev f x ^ n)) := fun W hb =>
    power_any p n ao bo la ca lb cb f g W h.1.1 (by have := h.1.2.1; omega) (h.2.1.later hb).1 (h.2.2.later hb).1 hlb (by have := h.2.2.2.2; omega) h.2.2.2.1.can hn
  clear h
  go_enter Tryd.func33, Tryd.ntmps33
  go_wp2_with (first
    | (go_at_call 59; refine H1.mono ?_; rintro e w1 ⟨rfl, hb1⟩)
    | (go_at_call 61; refine (H2.out _ hb1).mono ?_; rintro e w2 hn; obtain ⟨zo, zl, zc, zs, rfl, hrest⟩ := hn.back hb1))
  go_ret2
  exact ⟨zo, zl, zc, zs, rfl, hrest⟩
end Go.Proofs.YtnniipekcbjloaaDoor
