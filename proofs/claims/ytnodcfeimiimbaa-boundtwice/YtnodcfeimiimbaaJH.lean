/-
  JG, JH.
-/
import Derived.Test.YtnodcfeimiimbaaJE

/- Walks: a polynomial mirrored, turned. -/
namespace Go.Proofs.Ytnodcfeimiimbaa
open Go.RowKit
set_option linter.unusedVariables false
set_option linter.unusedSimpArgs false

set_option maxRecDepth 100000 in
set_option maxHeartbeats 4000000 in
theorem mirrored_any (ao : Option Addr) (len cap : Nat) (p : List Int) (w : World) (hp : PolyAt w ao len cap p) (hl : len ≤ 1048576) (hlim : Lim 1000000000 p) :
    Calls Try.prog 31 #[.slice ao len cap] w fun e w' => NewPB w w' e (mir p.length p) := by
  have hcop := copied_any ao len cap p w hp hl (hlim.mono (by decide))
  have HR : Hid (Lim 1000000000 p ∧ len = p.length) := ⟨hlim, hp.hlen⟩
  have HSL : Hid ((mir p.length p).length = len) := by show _ = _; rw [mir_len, ← hp.hlen]
  clear hp hlim
  by_cases h0 : len = 0
  · subst h0
    have hpe : Hid ((mir p.length p).length = 0 ∧ p.length = 0) := ⟨HSL.out, HR.out.2.symm⟩
    go_enter Try.func31, Try.ntmps31
    go_wp2_with (first
      | (go_at_call 39; refine hcop.mono ?_; intro e w1 hN; rcases hN with ⟨_, rfl, hb1⟩ | ⟨hpos, _⟩; rotate_left 1; exact absurd hpos (by have := hpe.out.2; omega)))
    go_loopw [4] (fun i wr => i = .int .i64 1 ∧ wr = w1) (fun i _ => 0)
    case atStart => exact ⟨rfl, rfl⟩
    case round =>
      obtain ⟨rfl, rfl⟩ := hrel
      go_wp2
      go_ret
      exact Or.inl ⟨hpe.out.1, rfl, hb1⟩
  · have hcop2 : Calls Try.prog 39 #[.slice ao len cap] w fun e w' => ∃ g, e = .returned (.slice (some ⟨g, 0, none⟩) len len) ∧ PBlk w' g p ∧ w.heap.size ≤ g ∧ g < w'.heap.size ∧ Below w.heap.size w w' := by
      refine hcop.mono fun e w1 hN => ?_
      rcases hN with ⟨hz, _⟩ | ⟨_, g, he, hrest⟩
      · exact absurd hz (by have := HR.out.2; omega)
      · exact ⟨g, by rw [HR.out.2]; exact he, hrest⟩
    have HP : Hid (0 < len) := by show 0 < _; omega
    clear hcop h0
    go_enter Try.func31, Try.ntmps31
    go_wp2_with (first
      | (go_at_call 39; refine hcop2.mono ?_; rintro e w1 ⟨g, rfl, hPB, hg1, hg2, hb1⟩; have HG : Hid (PBlk w1 g p ∧ w.heap.size ≤ g ∧ g < w1.heap.size ∧ Below w.heap.size w w1) := ⟨hPB, hg1, hg2, hb1⟩; clear hPB hg1 hg2 hb1))
    go_loopw [4] (fun i wr => ∃ (k : Nat), k % 2 = 1 ∧ k ≤ len + 1 ∧ i = .int .i64 k ∧ Below w.heap.size w wr ∧ g < wr.heap.size ∧ PBlk wr g (mir k p)) (fun i _ => len + 1 - (intOf i).toNat)
    case atStart => exact ⟨1, rfl, by have := HP.out; omega, rfl, HG.out.2.2.2, HG.out.2.2.1, by rw [mir_zero]; exact HG.out.1⟩
    case round =>
      obtain ⟨k, hk2, hk, rfl, hbel, hgw, hPB⟩ := hrel
      have HS : Hid (PBlk wr g (mir k p) ∧ Below w.heap.size w wr ∧ k % 2 = 1) := ⟨hPB, hbel, hk2⟩
      clear hk2
      by_cases hlt : k < len
      · have hkp : k < (mir k p).length := by rw [mir_len, ← HR.out.2]; exact hlt
        obtain ⟨n1, ao1, l1, c1, ⟨e0, e1⟩, hi1⟩ := hPB.coef k hkp
        have hd : dig (mir k p) k = dig p k := by rw [mir_dig _ _ _ (by rw [← HR.out.2]; exact hlt), if_neg (by omega)]
        rw [hd] at hi1
        have hl1 : l1 ≤ 1000000000 := by rw [hi1.lim]; exact HR.out.1 _
        have HI : Hid (IntAt wr n1 ao1 l1 c1 (dig p k) ∧ k < (mir k p).length) := ⟨hi1, hkp⟩
        have hfz := hPB.soft
        clear hPB hi1 hd hkp hbel
        go_wp2_with (go_at_call 47; refine (bneg_any n1 ao1 l1 c1 (dig p k) _ HI.out.1 (by omega)).mono ?_; rintro e w2 ⟨n2, ao2, l2, c2, rfl, hs2, ho2, hb2⟩; have HI2 : Hid (IntAt w2 n2 ao2 l2 c2 (-dig p k)) := ho2.int hs2; obtain ⟨r0, r1, r2⟩ : w2.cell? ⟨g, k * 2, none⟩ = some (.bool n1) ∧ w2.cell? ⟨g, k * 2 + 1, none⟩ = some (.slice ao1 l1 c1) ∧ (∀ m, w2.frozen? ⟨g, m, none⟩ = false) := ⟨(hb2.cell (p := ⟨g, k * 2, none⟩) hgw).trans e0, (hb2.cell (p := ⟨g, k * 2 + 1, none⟩) hgw).trans e1, fun m => (hb2.frozen (p := ⟨g, m, none⟩) hgw).trans (hfz m)⟩; clear hs2 ho2)
        go_roundw
        case rel => exact ⟨k + 2, by have := HS.out.2.2; omega, by omega, by go_num, ((bnext HS.out.2.1 hb2).setCell (p := ⟨g, k * 2, none⟩) HG.out.2.1 _).setCell (p := ⟨g, k * 2 + 1, none⟩) HG.out.2.1 _, by (have := hb2.size; simp; omega), by rw [← mir_step p k (by rw [← HR.out.2]; exact hlt) HS.out.2.2]; exact (HS.out.1.later hb2 hgw).put HI.out.2 HI2.out⟩
        case measure => simp [intOf]; omega
      · have HE : Hid (mir k p = mir p.length p) := mir_end p k (by rw [← HR.out.2]; omega)
        have hge : ¬ (k : Int) < (len : Int) := by omega
        go_wp2
        go_ret
        exact Or.inr ⟨by rw [HSL.out]; exact HP.out, g, by show _ = _; rw [HSL.out]; rfl, by rw [← HE.out]; exact HS.out.1, HG.out.2.1, hgw, HS.out.2.1⟩

theorem PBlk.drew {w : World} {g : Nat} {p : List Int} (h : PBlk w g p) : PBlk w.drew g p := ⟨h.soft, fun t ht => (h.coef t ht).later ((Below.refl _ _).drew)⟩
theorem PBlk.swap {w : World} {g i j : Nat} {p : List Int} (h : PBlk w g p) (hi : i < p.length) (hj : j < p.length) (hij : i ≠ j) {n1 n2 : Bool} {o1 o2 : Option Addr} {l1 c1 l2 c2 : Nat}
    (a0 : w.cell? ⟨g, i * 2, none⟩ = some (.bool n1)) (a1 : w.cell? ⟨g, i * 2 + 1, none⟩ = some (.slice o1 l1 c1)) (b0 : w.cell? ⟨g, j * 2, none⟩ = some (.bool n2)) (b1 : w.cell? ⟨g, j * 2 + 1, none⟩ = some (.slice o2 l2 c2)) :
    PBlk ((((w.setCell ⟨g, i * 2, none⟩ (.bool n2)).setCell ⟨g, i * 2 + 1, none⟩ (.slice o2 l2 c2)).setCell ⟨g, j * 2, none⟩ (.bool n1)).setCell ⟨g, j * 2 + 1, none⟩ (.slice o1 l1 c1)) g ((p.set i (dig p j)).set j (dig p i)) := by
  obtain ⟨m1, q1, k1, d1, ⟨x0, x1⟩, hI⟩ := h.coef i hi
  obtain ⟨m2, q2, k2, d2, ⟨y0, y1⟩, hJ⟩ := h.coef j hj
  rw [a0] at x0; rw [a1] at x1; rw [b0] at y0; rw [b1] at y1
  cases x0; cases x1; cases y0; cases y1
  have s1 := h.put hi hJ
  have hI' : IntAt ((w.setCell ⟨g, i * 2, none⟩ (.bool n2)).setCell ⟨g, i * 2 + 1, none⟩ (.slice o2 l2 c2)) n1 o1 l1 c1 (dig p i) := by
    have e1' : (w.setCell ⟨g, i * 2, none⟩ (.bool n2)).cell? ⟨g, i * 2 + 1, none⟩ = some (.slice o1 l1 c1) := by simp [go_sem, a0, a1]
    exact (hI.cellKept a0 (fun z e => by cases e) _).cellKept e1' (fun z e => by cases e) _
  exact s1.put (by simpa using hj) hI'

set_option maxRecDepth 100000 in
set_option maxHeartbeats 4000000 in
theorem reverse_any (g len B : Nat) (p : List Int) (w0 w : World) (hp : PBlk w g p) (hlen : len = p.length) (hl : len ≤ 1048576) (hg : g < w.heap.size) (hB : B ≤ g) :
    Calls Try.prog 50 #[.slice (some ⟨g, 0, none⟩) len len] w fun e w' => e = .returned (.tuple #[]) ∧ PBlk w' g p.reverse ∧ g < w'.heap.size ∧ Below B w w' := by
  have HR : Hid (PBlk w g p ∧ len = p.length) := ⟨hp, hlen⟩
  clear hp hlen
  go_enter Try.func50, Try.ntmps50
  go_wp2
  go_loopw [2, 3] (fun i j wr => ∃ (k : Nat) (l : List Int), k ≤ len ∧ i = .int .i64 k ∧ j = .int .i64 ((len : Int) - 1 - k) ∧ Below B w wr ∧ g < wr.heap.size ∧ PBlk wr g l ∧ RevSt p k l) (fun i j _ => len - (intOf i).toNat)
  case atStart => exact ⟨0, p, Nat.zero_le _, rfl, by go_num, Below.refl _ _, hg, HR.out.1, RevSt.start p⟩
  case round =>
    obtain ⟨k, l, hk, rfl, rfl, hbel, hgw, hPB, hst⟩ := hrel
    have HS : Hid (PBlk wr g l ∧ RevSt p k l ∧ Below B w wr) := ⟨hPB, hst, hbel⟩
    by_cases hlt : k + k + 1 < len
    · have hll : l.length = len := by rw [hst.1]; exact HR.out.2.symm
      obtain ⟨n1, ao1, l1, c1, ⟨e0, e1⟩, _⟩ := hPB.coef k (by omega)
      obtain ⟨n2, ao2, l2, c2, ⟨f0, f1⟩, _⟩ := hPB.coef (len - 1 - k) (by omega)
      obtain ⟨m, hm⟩ : ∃ m : Nat, m = len - 1 - k := ⟨_, rfl⟩
      have hmI : (len : Int) - 1 - (k : Int) = (m : Int) := by omega
      rw [← hm] at f0 f1
      have HK : Hid (PBlk ((((wr.setCell ⟨g, k * 2, none⟩ (.bool n2)).setCell ⟨g, k * 2 + 1, none⟩ (.slice ao2 l2 c2)).setCell ⟨g, m * 2, none⟩ (.bool n1)).setCell ⟨g, m * 2 + 1, none⟩ (.slice ao1 l1 c1)) g ((l.set k (dig l m)).set m (dig l k)) ∧ RevSt p (k + 1) ((l.set k (dig l m)).set m (dig l k))) := ⟨hPB.swap (by omega) (by omega) (by omega) e0 e1 f0 f1, by have := hst.step (by rw [← HR.out.2]; exact hlt); rw [← HR.out.2, ← hm] at this; exact this⟩
      have hfz := hPB.soft
      have z1 : (0 : Int) ≤ (k : Int) := by omega
      have z2 : (k : Int) < (len : Int) := by omega
      have z3 : (0 : Int) ≤ (m : Int) := by omega
      have z4 : (m : Int) < (len : Int) := by omega
      have z5 : (k : Int) < (m : Int) := by omega
      have z6 : k ≠ m := by omega
      have z7 : m ≠ k := by omega
      have z8 : k + k + 1 < len := hlt
      have HM : Hid (m = len - 1 - k) := hm
      rw [hmI]
      clear hPB hst hll hm hmI
      go_wp2
      go_region
      go_wp2
      go_roundw
      case rel => exact ⟨k + 1, _, by omega, by go_num, by (have hmm := HM.out; refine congrArg _ ?_; omega), (((((HS.out.2.2.setCell (p := ⟨g, k * 2, none⟩) hB _).setCell (p := ⟨g, k * 2 + 1, none⟩) hB _).setCell (p := ⟨g, m * 2, none⟩) hB _).setCell (p := ⟨g, m * 2 + 1, none⟩) hB _)).drew, by simpa using hgw, HK.out.1.drew, HK.out.2⟩
      case measure => simp [intOf]; omega
    · have HE : Hid (l = p.reverse) := hst.done (by rw [← HR.out.2]; omega)
      have hge : ¬ (k : Int) < (len : Int) - 1 - (k : Int) := by omega
      clear hPB hst
      go_wp2
      go_end0
      exact ⟨rfl, by rw [← HE.out]; exact HS.out.1, hgw, HS.out.2.2⟩

theorem PolyAt.drop {w : World} {ao : Option Addr} {len cap : Nat} {p : List Int} (h : PolyAt w ao len cap p) {b off : Nat} (ha : ao = some ⟨b, off, none⟩) {n : Nat} (hn : n ≤ len) : PolyAt w (some ⟨b, off + n * 2, none⟩) (len - n) (cap - n) (p.drop n) := by
  refine ⟨by have := h.hlen; simp; omega, by have := h.hcap; omega, fun e => (by cases e), ?_⟩
  rcases h.hat with h0 | ⟨b', off', h1, h2⟩
  · exact Or.inl (by omega)
  · rw [ha] at h1; cases h1
    refine Or.inr ⟨b, off + n * 2, rfl, fun t ht => ?_⟩
    rw [dig_drop]
    have := h2 (n + t) (by omega)
    rw [show off + (n + t) * 2 = off + n * 2 + t * 2 by omega] at this
    exact this

set_option maxRecDepth 100000 in
set_option maxHeartbeats 1000000 in
theorem reverse_nil (w : World) :
    Calls Try.prog 50 #[.slice none 0 0] w fun e w' => e = .returned (.tuple #[]) ∧ w' = w := by
  go_enter Try.func50, Try.ntmps50
  go_wp2
  go_loopw [2, 3] (fun i j wr => i = .int .i64 0 ∧ j = .int .i64 (-1) ∧ wr = w) (fun i j _ => 0)
  case atStart => exact ⟨rfl, rfl, rfl⟩
  case round =>
    obtain ⟨rfl, rfl, rfl⟩ := hrel
    go_wp2
    go_end0
    exact ⟨rfl, rfl⟩
end Go.Proofs.Ytnodcfeimiimbaa

/- Walks: a polynomial turned. -/
namespace Go.Proofs.Ytnodcfeimiimbaa
open Go.RowKit
set_option linter.unusedVariables false
set_option linter.unusedSimpArgs false

set_option maxRecDepth 100000 in
set_option maxHeartbeats 400000 in
theorem turned_any (ao : Option Addr) (len cap : Nat) (p : List Int) (w : World) (hp : PolyAt w ao len cap p) (hl : len ≤ 1048576) (hcap : cap ≤ 9223372036854775807) (hlim : Lim 1000000000 p) (hL : Lead p) :
    Calls Try.prog 35 #[.slice ao len cap] w fun e w' => ∃ q, TurnOf p q ∧ NewPB w w' e q := by
  have HR : Hid (PolyAt w ao len cap p ∧ Lim 1000000000 p ∧ len = p.length ∧ Lead p) := ⟨hp, hlim, hp.hlen, hL⟩
  by_cases h0 : len = 0
  · subst h0
    have HT : Hid (TurnOf p [] ∧ p.length = 0) := by
      obtain rfl : p = [] := List.eq_nil_of_length_eq_zero hp.hlen.symm
      exact ⟨⟨0, Nat.zero_le _, fun t ht => absurd ht (by omega), fun h => absurd h (by simp), rfl⟩, rfl⟩
    have hcop : ∀ (o : Option Addr) (c : Nat), (o = none → c = 0) → Calls Try.prog 39 #[.slice o 0 c] w fun e w' => e = .returned (.slice none 0 0) ∧ Below w.heap.size w w' := fun o c hoc =>
      (copied_any o 0 c [] w ⟨rfl, Nat.zero_le _, hoc, Or.inl rfl⟩ (by decide) (fun t => by simp [dig, lim_zero])).mono fun e w' h => by
        rcases h with ⟨_, he, hb⟩ | ⟨h, _⟩
        · exact ⟨he, hb⟩
        · simp at h
    have hnil := hp.hnil
    clear hp hlim hL
    cases ao with
    | none =>
      obtain rfl : cap = 0 := hnil rfl
      have hcon := hcop none 0 (fun _ => rfl)
      clear hnil hcop
      go_enter Try.func35, Try.ntmps35
      go_wp2
      go_loopw [3] (fun i wr => i = .int .i64 0 ∧ wr = w) (fun i _ => 0)
      case atStart => exact ⟨rfl, rfl⟩
      case round =>
        obtain ⟨rfl, rfl⟩ := hrel
        go_wp2_with (first
          | (go_at_call 39; refine hcon.mono ?_; rintro e w1 ⟨rfl, hb1⟩)
          | (go_at_call 50; refine (reverse_nil _).mono ?_; rintro e w2 ⟨rfl, hw2⟩; replace hw2 := hw2.symm; subst hw2))
        go_ret
        exact ⟨[], HT.out.1, Or.inl ⟨rfl, rfl, hb1⟩⟩
    | some a =>
      obtain ⟨b, off, sp⟩ := a
      have hcon1 := hcop (some ⟨b, off, sp⟩) cap (fun e => by cases e)
      have hcI : (0 : Int) ≤ (cap : Int) := by omega
      clear hnil hcop
      go_enter Try.func35, Try.ntmps35
      go_wp2
      go_loopw [3] (fun i wr => i = .int .i64 0 ∧ wr = w) (fun i _ => 0)
      case atStart => exact ⟨rfl, rfl⟩
      case round =>
        obtain ⟨rfl, rfl⟩ := hrel
        go_wp2_with (first
          | (go_at_call 39; refine hcon1.mono ?_; rintro e w1 ⟨rfl, hb1⟩)
          | (go_at_call 50; refine (reverse_nil _).mono ?_; rintro e w2 ⟨rfl, hw2⟩; replace hw2 := hw2.symm; subst hw2))
        go_ret
        exact ⟨[], HT.out.1, Or.inl ⟨rfl, rfl, hb1⟩⟩
  · obtain ⟨b, off, rfl, _⟩ := hp.get (by omega)
    have hcapl := hp.hcap
    have HP : Hid (0 < len ∧ len ≤ cap) := ⟨by omega, hcapl⟩
    clear hp hlim hL h0
    go_enter Try.func35, Try.ntmps35
    go_wp2
    go_loopw [3] (fun i wr => ∃ k : Nat, k < len ∧ i = .int .i64 k ∧ Below w.heap.size w wr ∧ ∀ t, t < k → dig p t = 0) (fun i _ => len - (intOf i).toNat)
    case atStart => exact ⟨0, HP.out.1, rfl, Below.refl _ _, fun t ht => absurd ht (by omega)⟩
    case round =>
      obtain ⟨k, hk, rfl, hbel, hz⟩ := hrel
      have HZ : Hid (∀ t, t < k → dig p t = 0) := hz
      obtain ⟨b', off', he, hat⟩ := (HR.out.1.later hbel).get HP.out.1
      cases he
      obtain ⟨n1, ao1, l1, c1, ⟨e0, e1⟩, hi1⟩ := hat k hk
      have hl1 : l1 ≤ 1000000000 := by rw [hi1.lim]; exact HR.out.2.1 _
      have HI : Hid (IntAt wr n1 ao1 l1 c1 (dig p k)) := hi1
      clear hz hat hi1
      by_cases hd : dig p k = 0
      · have HD : Hid (dig p k = 0 ∧ k + 1 < len) := by
          refine ⟨hd, ?_⟩
          rcases Nat.lt_or_ge (k + 1) len with h | h
          · exact h
          · exfalso
            have h2 := HR.out.2.2.2 (by rw [← HR.out.2.2.1]; exact HP.out.1)
            rw [← HR.out.2.2.1, show len - 1 = k by omega] at h2
            exact h2 hd
        clear hd
        have hcs : Hid (cmpI (dig p k) 0 = 0) := cmpI_eq HD.out.1
        go_wp2_with (go_at_call 40; refine (bsign_any n1 ao1 l1 c1 (dig p k) _ HI.out (by omega) 0 hcs.out).mono ?_; rintro e w1 ⟨rfl, hb1⟩)
        go_roundw
        case rel => exact ⟨k + 1, HD.out.2, by go_num, bnext hbel hb1, fun t ht => by
          by_cases e : t = k
          · subst e; exact HD.out.1
          · exact HZ.out t (by omega)⟩
        case measure => simp [intOf]; omega
      · obtain ⟨cs, hcs⟩ : ∃ cs, cmpI (dig p k) 0 = cs := ⟨_, rfl⟩
        have hcs1 : (cs == 0) = false := by
          rw [← hcs]
          rcases Int.lt_trichotomy (dig p k) 0 with h | h | h
          · rw [cmpI_lt h]; rfl
          · exact absurd h hd
          · rw [cmpI_gt h]; rfl
        have HCS : Hid (cmpI (dig p k) 0 = cs ∧ dig p k ≠ 0) := ⟨hcs, hd⟩
        have y1 : (0 : Int) ≤ (k : Int) := by omega
        have y2 : (k : Int) ≤ (len : Int) := by omega
        have y3 : (len : Int) ≤ (cap : Int) := by omega
        have y4 : (k : Int) ≤ (cap : Int) := by omega
        have y5 : cap ≠ k := by omega
        have y6 : k ≠ cap := by omega
        obtain ⟨q, hq⟩ : ∃ q, q = p.drop k := ⟨_, rfl⟩
        have HQ : Hid (0 < q.length ∧ q.length = len - k ∧ q = p.drop k) := by
          have := HR.out.2.2.1
          exact ⟨by rw [hq]; simp; omega, by rw [hq]; simp; omega, hq⟩
        clear hq
        clear hcs hd
        go_wp2_with (first
          | (go_at_call 40; refine (bsign_any n1 ao1 l1 c1 (dig p k) _ HI.out (by omega) cs HCS.out.1).mono ?_; rintro e w1 ⟨rfl, hb1⟩)
          | (go_at_call 39; refine (copied_any (some ⟨b, off + k * 2, none⟩) (len - k) (cap - k) q _ (by rw [HQ.out.2.2]; exact (HR.out.1.later (bnext hbel hb1)).drop rfl (Nat.le_of_lt hk)) (by omega) (by rw [HQ.out.2.2]; exact drop_lim (HR.out.2.1.mono (by decide)))).mono ?_; intro e w2 hN; rcases hN with ⟨hz, _⟩ | ⟨_, g, rfl, hPB, hg1, hg2, hb2⟩; exact absurd hz (by have := HQ.out.1; omega); have HG : Hid (PBlk w2 g q ∧ w1.heap.size ≤ g ∧ g < w2.heap.size ∧ Below w1.heap.size w1 w2) := ⟨hPB, hg1, hg2, hb2⟩; clear hPB hg1 hg2 hb2)
          | (go_at_call 50; refine (reverse_any g q.length w1.heap.size q w2 w2 HG.out.1 rfl (by have := HQ.out.2.1; omega) HG.out.2.2.1 HG.out.2.1).mono ?_; rintro e w3 ⟨rfl, hPB3, hg3, hb3⟩))
        go_ret
        exact ⟨q.reverse, ⟨k, by rw [← HR.out.2.2.1]; omega, HZ.out, fun _ => HCS.out.2, by rw [HQ.out.2.2]⟩, Or.inr ⟨by rw [List.length_reverse]; exact HQ.out.1, g, by rw [List.length_reverse]; rfl, hPB3, Nat.le_trans (bnext hbel hb1).size HG.out.2.1, hg3, bnext (bnext hbel hb1) (HG.out.2.2.2.trans hb3)⟩⟩
end Go.Proofs.Ytnodcfeimiimbaa
