/-
  A pack of walks and facts: OF.
-/
import Derived.Test.YthjkdnlbdhhmbaaGreatDoorPV27
set_option maxRecDepth 100000
set_option maxHeartbeats 40000000
set_option linter.unusedVariables false
set_option linter.unusedSimpArgs false
namespace Go.Proofs.YthjkdnlbdhhmbaaGreatDoor
open Go.RowKit
structure Mem (w z : World) (L : List (Nat × List Value)) (I : List (Bool × Option Addr × Nat × Nat × Int)) : Prop where
 vars : Vars w z L
 int : ∀ (k : Nat) (n : Bool) (o : Option Addr) (l c : Nat) (v : Int), I[k]? = some (n, o, l, c, v) → IntAt z n o l c v
theorem Mem.later {w z z' : World} {L : List (Nat × List Value)} {I : List (Bool × Option Addr × Nat × Nat × Int)} (h : Mem w z L I) (hb : Below z.heap.size z z') : Mem w z' L I := ⟨h.vars.later hb, fun k n o l c v e => (h.int k n o l c v e).later hb⟩
theorem Mem.alloc {w z : World} {L : List (Nat × List Value)} {I : List (Bool × Option Addr × Nat × Nat × Int)} (h : Mem w z L I) {r : Nat} (hr : r = z.heap.size) (A : List Value) (t : TypeId) : Mem w (z.alloc (.cells A.toArray t)) ((r, A) :: L) I := ⟨h.vars.alloc hr A t, fun k n o l c v e => (h.int k n o l c v e).later ((Below.refl _ _).alloc (Nat.le_refl _) _)⟩
theorem Mem.push {w z : World} {L : List (Nat × List Value)} {I : List (Bool × Option Addr × Nat × Nat × Int)} (h : Mem w z L I) {n : Bool} {o : Option Addr} {l c : Nat} {v : Int} (hi : IntAt z n o l c v) : Mem w z L ((n, o, l, c, v) :: I) := ⟨h.vars, fun k m p a b u e => by
 cases k with
 | zero => cases e; exact hi
 | succ k => exact h.int k m p a b u (by simpa using e)⟩
theorem Mem.put {w z : World} {L : List (Nat × List Value)} {I : List (Bool × Option Addr × Nat × Nat × Int)} (h : Mem w z L I) (k : Nat) {r : Nat} {m : Bool} {a : Option Addr} {b c : Nat} (hk : L[k]? = some (r, [.bool m, .slice a b c])) (u v : Value) : Mem w ((z.setCell ⟨r, 0, none⟩ u).setCell ⟨r, 1, none⟩ v) (L.set k (r, [u, v])) I := ⟨h.vars.put k hk u v, fun j n o l c v e => IntAt.put h.vars k hk (fun z e => by cases e) (fun z e => by cases e) (h.int j n o l c v e)⟩
theorem Mem.only {w z : World} {L : List (Nat × List Value)} {I : List (Bool × Option Addr × Nat × Nat × Int)} (h : Mem w z L I) (ks : List Nat) : Mem w z L (ks.filterMap fun k => I[k]?) := ⟨h.vars, fun k n o l c v e => by
 have hm := List.mem_of_getElem? e
 obtain ⟨j, _, hj⟩ := List.mem_filterMap.1 hm
 exact h.int j n o l c v hj⟩
theorem Mem.less {w z : World} {p : Nat × List Value} {L : List (Nat × List Value)} {I : List (Bool × Option Addr × Nat × Nat × Int)} (h : Mem w z (p :: L) I) : Mem w z L I := ⟨⟨h.vars.below, fun k r vs e => h.vars.box (k + 1) r vs (by simpa using e), fun k j r s vs us ek ej hne => h.vars.apart (k + 1) (j + 1) r s vs us (by simpa using ek) (by simpa using ej) (by omega)⟩, h.int⟩
theorem RatAt.setOne {z : World} {n : Bool} {o p : Option Addr} {l c m k r i : Nat} {q : Rat} {x : Value} (h : RatAt z n o l c p m k q) (hc : z.cell? ⟨r, i, none⟩ = some x) (hx : ∀ u, x ≠ .int .u64 u) (v : Value) : RatAt (z.setCell ⟨r, i, none⟩ v) n o l c p m k q := ⟨h.num.cellKept hc hx v, h.den.cellKept hc hx v⟩
theorem RatAt.setSix {z : World} {n : Bool} {o p : Option Addr} {l c m k r : Nat} {q : Rat} {x0 x1 x2 x3 x4 x5 : Value} (h : RatAt z n o l c p m k q) (hb : Bx z r [x0, x1, x2, x3, x4, x5]) (h0 : ∀ u, x0 ≠ .int .u64 u) (h1 : ∀ u, x1 ≠ .int .u64 u) (h2 : ∀ u, x2 ≠ .int .u64 u) (h3 : ∀ u, x3 ≠ .int .u64 u) (h4 : ∀ u, x4 ≠ .int .u64 u) (h5 : ∀ u, x5 ≠ .int .u64 u) (u0 u1 u2 u3 u4 u5 : Value) :
  RatAt ((((((z.setCell ⟨r, 0, none⟩ u0).setCell ⟨r, 1, none⟩ u1).setCell ⟨r, 2, none⟩ u2).setCell ⟨r, 3, none⟩ u3).setCell ⟨r, 4, none⟩ u4).setCell ⟨r, 5, none⟩ u5) n o l c p m k q := by
 have b0 := hb.set1 (j := 0) (v := u0) rfl
 have b1 := b0.set1 (j := 1) (v := u1) rfl
 have b2 := b1.set1 (j := 2) (v := u2) rfl
 have b3 := b2.set1 (j := 3) (v := u3) rfl
 have b4 := b3.set1 (j := 4) (v := u4) rfl
 exact (((((h.setOne (hb.1 0 _ rfl) h0 u0).setOne (b0.1 1 _ rfl) h1 u1).setOne (b1.1 2 _ rfl) h2 u2).setOne (b2.1 3 _ rfl) h3 u3).setOne (b3.1 4 _ rfl) h4 u4).setOne (b4.1 5 _ rfl) h5 u5
theorem Mem.num {w z : World} {L : List (Nat × List Value)} {I : List (Bool × Option Addr × Nat × Nat × Int)} (h : Mem w z L I) (k : Nat) {n : Bool} {o : Option Addr} {l c : Nat} {v : Int} (e : I[k]? = some (n, o, l, c, v)) : IntAt z n o l c v := h.int k n o l c v e
theorem values_any (ao : Option Addr) (len cap A g : Nat) (p : List Int) (n1 n2 : Bool) (o1 p1 o2 p2 : Option Addr) (l1 c1 m1 k1 l2 c2 m2 k2 : Nat) (a b : Rat) (lo hi d : Int) (w : World) (hp : PolyAt w ao len cap p) (hx : RatAt w n1 o1 l1 c1 p1 m1 k1 a) (hy : RatAt w n2 o2 l2 c2 p2 m2 k2 b) (ha : Sz a 2) (hb : Sz b 2) (hl : len ≤ 64) (hA : A ≤ 10000) (hlp : Lim A p) (hg : g = Nat.gcd a.den b.den) (hlo : a.num * ((b.den : Int) / (g : Int)) = lo) (hhi : b.num * ((a.den : Int) / (g : Int)) = hi) (hd : (a.den : Int) * ((b.den : Int) / (g : Int)) = d) (hT0 : TabAt 0 Lib.deBruijn64tab w) :
  Calls Tryz.prog 31 #[.slice ao len cap, .agg #[.bool n1, .slice o1 l1 c1, .slice p1 m1 k1, .bool n2, .slice o2 l2 c2, .slice p2 m2 k2]] w fun e w' => ∃ nX oX lX cX pX mX kX nY oY lY cY pY mY kY, e = .returned (.agg #[.bool nX, .slice oX lX cX, .slice pX mX kX, .bool nY, .slice oY lY cY, .slice pY mY kY]) ∧ RatAt w' nX oX lX cX pX mX kX (mkRat (spanI p lo hi d).1 (d.natAbs ^ (p.length - 1))) ∧ RatAt w' nY oY lY cY pY mY kY (mkRat (spanI p lo hi d).2 (d.natAbs ^ (p.length - 1))) ∧ Below w.heap.size w w' := by
 have HLD : Hid (lim lo ≤ 4 ∧ lim hi ≤ 4 ∧ lim d ≤ 4 ∧ 0 < d) := by
  have hg0 : 0 < g := by rw [hg]; exact Nat.gcd_pos_of_pos_left _ (Nat.pos_of_ne_zero a.den_nz)
  have e1 : lim ((a.den : Int) / (g : Int)) ≤ 2 := by
   show (mag (((a.den / g : Nat) : Int)).natAbs).length ≤ 2
   rw [Int.natAbs_natCast]
   exact Nat.le_trans (mag_len_mono (Nat.div_le_self a.den g)) ha.2
  have e2 : lim ((b.den : Int) / (g : Int)) ≤ 2 := by
   show (mag (((b.den / g : Nat) : Int)).natAbs).length ≤ 2
   rw [Int.natAbs_natCast]
   exact Nat.le_trans (mag_len_mono (Nat.div_le_self b.den g)) hb.2
  have e3 : lim a.num ≤ 2 := ha.1
  have e4 : lim b.num ≤ 2 := hb.1
  have e5 : lim (a.den : Int) ≤ 2 := ha.2
  have h1 := lim_mul a.num ((b.den : Int) / (g : Int))
  have h2 := lim_mul b.num ((a.den : Int) / (g : Int))
  have h3 := lim_mul (a.den : Int) ((b.den : Int) / (g : Int))
  rw [hlo] at h1
  rw [hhi] at h2
  rw [hd] at h3
  refine ⟨by omega, by omega, by omega, ?_⟩
  rw [← hd]
  have hq : 0 < b.den / g := Nat.div_pos (Nat.le_of_dvd (Nat.pos_of_ne_zero b.den_nz) (hg ▸ Nat.gcd_dvd_right _ _)) hg0
  have hq2 : (0 : Int) < (b.den : Int) / (g : Int) := by
   show (0 : Int) < ((b.den / g : Nat) : Int)
   omega
  have hq3 : (0 : Int) < (a.den : Int) := by have := Nat.pos_of_ne_zero a.den_nz; omega
  exact Int.mul_pos hq3 hq2
 have HR : Hid (PolyAt w ao len cap p ∧ RatAt w n1 o1 l1 c1 p1 m1 k1 a ∧ RatAt w n2 o2 l2 c2 p2 m2 k2 b ∧ TabAt 0 Lib.deBruijn64tab w ∧ len = p.length ∧ Lim A p ∧ A ≤ 10000 ∧ (Sz a 1000 ∧ Sz b 1000) ∧ g = Nat.gcd a.den b.den) := ⟨hp, hx, hy, hT0, hp.hlen, hlp, hA, ⟨ha.mono (by decide), hb.mono (by decide)⟩, hg⟩
 have HLL : Hid (∀ k, lim (spanI (p.drop k) lo hi d).1 ≤ 656960 ∧ lim (spanI (p.drop k) lo hi d).2 ≤ 656960 ∧ lim (d ^ (if k = 0 then p.length - 1 else p.length - k)) ≤ 257) := fun k => by
  have h4 := hp.hlen
  have h1 := spanI_lim A 64 lo hi d HLD.out.1 HLD.out.2.1 HLD.out.2.2.1 (p.drop k) (drop_lim hlp) (by rw [List.length_drop]; omega)
  have h2 : (p.drop k).length * (A + 4 * 64 + 9) ≤ 64 * 10265 := Nat.mul_le_mul (by rw [List.length_drop]; omega) (by omega)
  have h3 := lim_pow4 d (if k = 0 then p.length - 1 else p.length - k) HLD.out.2.2.1
  refine ⟨by omega, by omega, ?_⟩
  split at h3 <;> simp_all <;> omega
 have HEQ : Hid (a.num * ((b.den : Int) / (g : Int)) = lo ∧ b.num * ((a.den : Int) / (g : Int)) = hi ∧ (a.den : Int) * ((b.den : Int) / (g : Int)) = d) := ⟨hlo, hhi, hd⟩
 obtain ⟨W, hW⟩ : ∃ W, W = (w.alloc (.cells #[.bool n1, .slice o1 l1 c1, .slice p1 m1 k1, .bool n2, .slice o2 l2 c2, .slice p2 m2 k2] 32)).alloc (.cells #[.bool false, .slice none 0 0, .slice none 0 0, .bool false, .slice none 0 0, .slice none 0 0] 32) := ⟨_, rfl⟩
 have HWE : Hid (W = (w.alloc (.cells #[.bool n1, .slice o1 l1 c1, .slice p1 m1 k1, .bool n2, .slice o2 l2 c2, .slice p2 m2 k2] 32)).alloc (.cells #[.bool false, .slice none 0 0, .slice none 0 0, .bool false, .slice none 0 0, .slice none 0 0] 32)) := hW
 have HV0 : Hid (Vars w W [(w.heap.size + 1, [.bool false, .slice none 0 0, .slice none 0 0, .bool false, .slice none 0 0, .slice none 0 0]), (w.heap.size, [.bool n1, .slice o1 l1 c1, .slice p1 m1 k1, .bool n2, .slice o2 l2 c2, .slice p2 m2 k2])]) := by
  rw [hW]
  exact ((Vars.nil w).alloc rfl [.bool n1, .slice o1 l1 c1, .slice p1 m1 k1, .bool n2, .slice o2 l2 c2, .slice p2 m2 k2] _).alloc (by simp) [.bool false, .slice none 0 0, .slice none 0 0, .bool false, .slice none 0 0, .slice none 0 0] _
 clear hW hp hx hy ha hb hA hlp hT0 hg hlo hhi hd
 go_enter Tryz.func31, Tryz.ntmps31
 go_wp2_with (first
  | (go_at_call 59; rw [← HWE.out]; refine (overOne_any n1 n2 o1 p1 o2 p2 l1 c1 m1 k1 l2 c2 m2 k2 a b g W (HR.out.2.1.later HV0.out.below) (HR.out.2.2.1.later HV0.out.below) HR.out.2.2.2.2.2.2.2.1.1 HR.out.2.2.2.2.2.2.2.1.2 HR.out.2.2.2.2.2.2.2.2 (tab_later HR.out.2.2.2.1 HV0.out.below)).mono ?_; rw [HEQ.out.1, HEQ.out.2.1, HEQ.out.2.2]; rintro e w1 ⟨n5, o5, l5, c5, n6, o6, l6, c6, n7, o7, l7, c7, rfl, h5, h6, h7, hb1⟩; have H1 : Hid (Mem w w1 [(w.heap.size + 1, [.bool false, .slice none 0 0, .slice none 0 0, .bool false, .slice none 0 0, .slice none 0 0]), (w.heap.size, [.bool n1, .slice o1 l1 c1, .slice p1 m1 k1, .bool n2, .slice o2 l2 c2, .slice p2 m2 k2])] [(n5, o5, l5, c5, lo), (n6, o6, l6, c6, hi), (n7, o7, l7, c7, d)]) := ((⟨HV0.out.later hb1, fun k n o l c v e => by simp at e⟩ : Mem w w1 _ []).push h7).push h6 |>.push h5; clear h5 h6 h7 hb1)
  | (go_at_call 54; obtain ⟨U, hU⟩ : ∃ U, U = ((w1.alloc (.cells #[.bool n5, .slice o5 l5 c5] 28)).alloc (.cells #[.bool n6, .slice o6 l6 c6] 28)).alloc (.cells #[.bool n7, .slice o7 l7 c7] 28) := ⟨_, rfl⟩; obtain ⟨r5, hr5⟩ : ∃ r5, r5 = w1.heap.size := ⟨_, rfl⟩; obtain ⟨r6, hr6⟩ : ∃ r6, r6 = w1.heap.size + 1 := ⟨_, rfl⟩; obtain ⟨r7, hr7⟩ : ∃ r7, r7 = w1.heap.size + 1 + 1 := ⟨_, rfl⟩; have HU : Hid (Mem w U [(r7, [.bool n7, .slice o7 l7 c7]), (r6, [.bool n6, .slice o6 l6 c6]), (r5, [.bool n5, .slice o5 l5 c5]), (w.heap.size + 1, [.bool false, .slice none 0 0, .slice none 0 0, .bool false, .slice none 0 0, .slice none 0 0]), (w.heap.size, [.bool n1, .slice o1 l1 c1, .slice p1 m1 k1, .bool n2, .slice o2 l2 c2, .slice p2 m2 k2])] [(n5, o5, l5, c5, lo), (n6, o6, l6, c6, hi), (n7, o7, l7, c7, d)]) := (by rw [hU]; exact ((H1.out.alloc hr5 [.bool n5, .slice o5 l5 c5] _).alloc (by rw [hr6]; simp) [.bool n6, .slice o6 l6 c6] _).alloc (by rw [hr7]; simp) [.bool n7, .slice o7 l7 c7] _); rw [← hU]; (try simp only [← hr7]); (try simp only [← hr6]); (try simp only [← hr5]); refine (from_any 1 U (by decide) (by decide)).mono ?_; rintro e w2 ⟨nS, oS, lS, cS, rfl, hs, ho, hb⟩; have H2 : Hid (Mem w w2 [(r7, [.bool n7, .slice o7 l7 c7]), (r6, [.bool n6, .slice o6 l6 c6]), (r5, [.bool n5, .slice o5 l5 c5]), (w.heap.size + 1, [.bool false, .slice none 0 0, .slice none 0 0, .bool false, .slice none 0 0, .slice none 0 0]), (w.heap.size, [.bool n1, .slice o1 l1 c1, .slice p1 m1 k1, .bool n2, .slice o2 l2 c2, .slice p2 m2 k2])] [(nS, oS, lS, cS, 1), (n5, o5, l5, c5, lo), (n6, o6, l6, c6, hi), (n7, o7, l7, c7, d)]) := (HU.out.later hb).push (ho.int hs); clear hs ho hb hU hr5 hr6 hr7))
 obtain ⟨V, hV⟩ : ∃ V, V = ((w2.alloc (.cells #[.bool false, .slice none 0 0] 28)).alloc (.cells #[.bool false, .slice none 0 0] 28)).alloc (.cells #[.bool nS, .slice oS lS cS] 28) := ⟨_, rfl⟩
 obtain ⟨r8, hr8⟩ : ∃ r8, r8 = w2.heap.size := ⟨_, rfl⟩
 obtain ⟨r9, hr9⟩ : ∃ r9, r9 = w2.heap.size + 1 := ⟨_, rfl⟩
 obtain ⟨r10, hr10⟩ : ∃ r10, r10 = w2.heap.size + 1 + 1 := ⟨_, rfl⟩
 have HV : Hid (Mem w V [(r10, [.bool nS, .slice oS lS cS]), (r9, [.bool false, .slice none 0 0]), (r8, [.bool false, .slice none 0 0]), (r7, [.bool n7, .slice o7 l7 c7]), (r6, [.bool n6, .slice o6 l6 c6]), (r5, [.bool n5, .slice o5 l5 c5]), (w.heap.size + 1, [.bool false, .slice none 0 0, .slice none 0 0, .bool false, .slice none 0 0, .slice none 0 0]), (w.heap.size, [.bool n1, .slice o1 l1 c1, .slice p1 m1 k1, .bool n2, .slice o2 l2 c2, .slice p2 m2 k2])] [(nS, oS, lS, cS, 1), (n5, o5, l5, c5, lo), (n6, o6, l6, c6, hi), (n7, o7, l7, c7, d)]) := by
  rw [hV]
  exact ((H2.out.alloc hr8 [.bool false, .slice none 0 0] _).alloc (by rw [hr9]; simp) [.bool false, .slice none 0 0] _).alloc (by rw [hr10]; simp) [.bool nS, .slice oS lS cS] _
 rw [← hV]
 (try simp only [← hr10])
 (try simp only [← hr9])
 (try simp only [← hr8])
 clear hV hr8 hr9 hr10 H2 HWE HV0
 go_loopw [11] (fun i wr => ∃ k : Nat, k ≤ len ∧ i = .int .i64 ((k : Int) - 1) ∧ ∃ n8 o8 l8 c8 n9 o9 l9 c9 nS oS lS cS, Hid (Mem w wr [(r10, [.bool nS, .slice oS lS cS]), (r9, [.bool n9, .slice o9 l9 c9]), (r8, [.bool n8, .slice o8 l8 c8]), (r7, [.bool n7, .slice o7 l7 c7]), (r6, [.bool n6, .slice o6 l6 c6]), (r5, [.bool n5, .slice o5 l5 c5]), (w.heap.size + 1, [.bool false, .slice none 0 0, .slice none 0 0, .bool false, .slice none 0 0, .slice none 0 0]), (w.heap.size, [.bool n1, .slice o1 l1 c1, .slice p1 m1 k1, .bool n2, .slice o2 l2 c2, .slice p2 m2 k2])] [(n8, o8, l8, c8, (spanI (p.drop k) lo hi d).1), (n9, o9, l9, c9, (spanI (p.drop k) lo hi d).2), (nS, oS, lS, cS, (d ^ (if k = 0 then p.length - 1 else p.length - k))), (n5, o5, l5, c5, lo), (n6, o6, l6, c6, hi), (n7, o7, l7, c7, d)])) (fun i _ => (intOf i + 1).toNat)
 case atStart =>
  refine ⟨len, Nat.le_refl _, rfl, false, none, 0, 0, false, none, 0, 0, nS, oS, lS, cS, ?_⟩
  have e1 : p.drop len = [] := by rw [HR.out.2.2.2.2.1, List.drop_length]
  have e : (if len = 0 then p.length - 1 else p.length - len) = 0 := by have := HR.out.2.2.2.2.1; split <;> omega
  rw [e1, e, Int.pow_zero]
  exact (((HV.out.push (n := false) (o := none) (l := 0) (c := 0) (v := 0) ⟨rfl, RowAt.nilRow _ _⟩).push (n := false) (o := none) (l := 0) (c := 0) (v := 0) ⟨rfl, RowAt.nilRow _ _⟩))
 case round =>
  obtain ⟨k, hk, rfl, n8, o8, l8, c8, n9, o9, l9, c9, nS, oS, lS, cS, HS⟩ := hrel
  by_cases hk0 : k = 0
  ·
   subst hk0
   obtain ⟨D, hD⟩ : ∃ D : Nat, D = d.natAbs ^ (p.length - 1) := ⟨_, rfl⟩
   have hDI : (D : Int) = d ^ (p.length - 1) := by
    rw [hD, Int.natCast_pow, show ((d.natAbs : Nat) : Int) = d by have := HLD.out.2.2.2; omega]
   have hD0 : D ≠ 0 := by rw [hD]; exact Nat.ne_of_gt (Nat.pow_pos (by have := HLD.out.2.2.2; omega))
   have HDQ : Hid (D = d.natAbs ^ (p.length - 1)) := hD
   replace HS : Hid (Mem w wr [(r10, [.bool nS, .slice oS lS cS]), (r9, [.bool n9, .slice o9 l9 c9]), (r8, [.bool n8, .slice o8 l8 c8]), (r7, [.bool n7, .slice o7 l7 c7]), (r6, [.bool n6, .slice o6 l6 c6]), (r5, [.bool n5, .slice o5 l5 c5]), (w.heap.size + 1, [.bool false, .slice none 0 0, .slice none 0 0, .bool false, .slice none 0 0, .slice none 0 0]), (w.heap.size, [.bool n1, .slice o1 l1 c1, .slice p1 m1 k1, .bool n2, .slice o2 l2 c2, .slice p2 m2 k2])] [(n8, o8, l8, c8, (spanI p lo hi d).1), (n9, o9, l9, c9, (spanI p lo hi d).2), (nS, oS, lS, cS, (D : Int)), (n5, o5, l5, c5, lo), (n6, o6, l6, c6, hi), (n7, o7, l7, c7, d)]) := by
    have h := HS.out
    rw [if_pos rfl, ← hDI, List.drop_zero] at h
    exact h
   have HDD : Hid (RowAt wr .u64 oS lS cS (mag D) ∧ mayB false (mag D) = true ∧ D ≠ 0) := by
    have h := (HS.out.num 2 rfl).row
    rw [Int.natAbs_natCast] at h
    have h2 := mayB_int (D : Int)
    have e : sgB (D : Int) = false := by simp [sgB]
    rw [e, Int.natAbs_natCast] at h2
    exact ⟨h, h2, hD0⟩
   have HL0 := HLL.out 0
   rw [if_pos rfl, ← hDI, List.drop_zero] at HL0
   have hl8 : l8 ≤ 656960 := len_lim (HS.out.num 0 rfl) HL0.1
   have hl9 : l9 ≤ 656960 := len_lim (HS.out.num 1 rfl) HL0.2.1
   have hlS : lS ≤ 257 := len_lim (HS.out.num 2 rfl) HL0.2.2
   have t0 := HS.out.vars.cell 2 0 rfl rfl
   have t1 := HS.out.vars.cell 2 1 rfl rfl
   have s1 := HS.out.vars.cell 0 1 rfl rfl
   have T1 : TokO 1 := trivial
   clear hD hDI hD0 HL0
   go_wp2_with (first
    | (go_at_call 57; have _t := (T1 : TokO 1); refine (make_good n8 o8 oS l8 c8 lS cS (mag (spanI p lo hi d).1.natAbs) (mag D) (spanI p lo hi d).1 D wr (HS.out.num 0 rfl).row HDD.out.1 (by omega) (by omega) (by rw [(HS.out.num 0 rfl).sg]; exact mayB_int _) HDD.out.2.1 ⟨rfl, (HS.out.num 0 rfl).sg⟩ rfl HDD.out.2.2 (tab_later HR.out.2.2.2.1 HS.out.vars.below) (mkRat (spanI p lo hi d).1 D) (Rat.normalize_eq_mkRat HDD.out.2.2).symm).mono ?_; rintro e w9 ⟨nX, oX, lX, cX, pX, mX, kX, rfl, hs, ho, hp, _, hb⟩; have H9 : Hid (Mem w w9 [(r10, [.bool nS, .slice oS lS cS]), (r9, [.bool n9, .slice o9 l9 c9]), (r8, [.bool n8, .slice o8 l8 c8]), (r7, [.bool n7, .slice o7 l7 c7]), (r6, [.bool n6, .slice o6 l6 c6]), (r5, [.bool n5, .slice o5 l5 c5]), (w.heap.size + 1, [.bool false, .slice none 0 0, .slice none 0 0, .bool false, .slice none 0 0, .slice none 0 0]), (w.heap.size, [.bool n1, .slice o1 l1 c1, .slice p1 m1 k1, .bool n2, .slice o2 l2 c2, .slice p2 m2 k2])] [(n8, o8, l8, c8, (spanI p lo hi d).1), (n9, o9, l9, c9, (spanI p lo hi d).2), (nS, oS, lS, cS, (D : Int)), (n5, o5, l5, c5, lo), (n6, o6, l6, c6, hi), (n7, o7, l7, c7, d)] ∧ RatAt w9 nX oX lX cX pX mX kX (mkRat (spanI p lo hi d).1 D) ∧ RowAt w9 .u64 oS lS cS (mag D)) := ⟨HS.out.later hb, ⟨ho.int hs, hp.row⟩, HDD.out.1.later hb⟩; clear hs ho hp hb t0 t1 s1 T1 _t; have T2 : TokO 2 := trivial; have t0 := H9.out.1.vars.cell 1 0 rfl rfl; have t1 := H9.out.1.vars.cell 1 1 rfl rfl; have s1 := H9.out.1.vars.cell 0 1 rfl rfl; have plt := H9.out.1.vars.lt 1 rfl; have plt0 := H9.out.1.vars.lt 0 rfl)
    | (go_at_call 57; have _t := (T2 : TokO 2); obtain ⟨U, hU⟩ : ∃ U, U = w9.alloc (.cells #[.bool nX, .slice oX lX cX, .slice pX mX kX] 30) := ⟨_, rfl⟩; obtain ⟨r13, hr13⟩ : ∃ r, r = w9.heap.size := ⟨_, rfl⟩; have hbU : Below w9.heap.size w9 U := (by rw [hU]; exact (Below.refl _ _).alloc (Nat.le_refl _) _); have HU : Hid (Mem w U ((r13, [.bool nX, .slice oX lX cX, .slice pX mX kX]) :: [(r10, [.bool nS, .slice oS lS cS]), (r9, [.bool n9, .slice o9 l9 c9]), (r8, [.bool n8, .slice o8 l8 c8]), (r7, [.bool n7, .slice o7 l7 c7]), (r6, [.bool n6, .slice o6 l6 c6]), (r5, [.bool n5, .slice o5 l5 c5]), (w.heap.size + 1, [.bool false, .slice none 0 0, .slice none 0 0, .bool false, .slice none 0 0, .slice none 0 0]), (w.heap.size, [.bool n1, .slice o1 l1 c1, .slice p1 m1 k1, .bool n2, .slice o2 l2 c2, .slice p2 m2 k2])]) [(n8, o8, l8, c8, (spanI p lo hi d).1), (n9, o9, l9, c9, (spanI p lo hi d).2), (nS, oS, lS, cS, (D : Int)), (n5, o5, l5, c5, lo), (n6, o6, l6, c6, hi), (n7, o7, l7, c7, d)] ∧ RatAt U nX oX lX cX pX mX kX (mkRat (spanI p lo hi d).1 D) ∧ RowAt U .u64 oS lS cS (mag D)) := ⟨by rw [hU]; exact H9.out.1.alloc hr13 _ _, H9.out.2.1.later hbU, H9.out.2.2.later hbU⟩; rw [← hU]; (try simp only [← hr13]); refine (make_good n9 o9 oS l9 c9 lS cS (mag (spanI p lo hi d).2.natAbs) (mag D) (spanI p lo hi d).2 D U (HU.out.1.num 1 rfl).row HU.out.2.2 (by omega) (by omega) (by rw [(HU.out.1.num 1 rfl).sg]; exact mayB_int _) HDD.out.2.1 ⟨rfl, (HU.out.1.num 1 rfl).sg⟩ rfl HDD.out.2.2 (tab_later HR.out.2.2.2.1 HU.out.1.vars.below) (mkRat (spanI p lo hi d).2 D) (Rat.normalize_eq_mkRat HDD.out.2.2).symm).mono ?_; rintro e w10 ⟨nY, oY, lY, cY, pY, mY, kY, rfl, hs, ho, hp, _, hb⟩; have H10 : Hid (Mem w w10 ((r13, [.bool nX, .slice oX lX cX, .slice pX mX kX]) :: [(r10, [.bool nS, .slice oS lS cS]), (r9, [.bool n9, .slice o9 l9 c9]), (r8, [.bool n8, .slice o8 l8 c8]), (r7, [.bool n7, .slice o7 l7 c7]), (r6, [.bool n6, .slice o6 l6 c6]), (r5, [.bool n5, .slice o5 l5 c5]), (w.heap.size + 1, [.bool false, .slice none 0 0, .slice none 0 0, .bool false, .slice none 0 0, .slice none 0 0]), (w.heap.size, [.bool n1, .slice o1 l1 c1, .slice p1 m1 k1, .bool n2, .slice o2 l2 c2, .slice p2 m2 k2])]) [(n8, o8, l8, c8, (spanI p lo hi d).1), (n9, o9, l9, c9, (spanI p lo hi d).2), (nS, oS, lS, cS, (D : Int)), (n5, o5, l5, c5, lo), (n6, o6, l6, c6, hi), (n7, o7, l7, c7, d)] ∧ RatAt w10 nX oX lX cX pX mX kX (mkRat (spanI p lo hi d).1 D) ∧ RatAt w10 nY oY lY cY pY mY kY (mkRat (spanI p lo hi d).2 D)) := ⟨HU.out.1.later hb, HU.out.2.1.later hb, ⟨ho.int hs, hp.row⟩⟩; clear hs ho hp hb hU hr13 hbU t0 t1 s1 plt plt0 T2 _t; have x0 := H10.out.1.vars.cell 0 0 rfl rfl; have x1 := H10.out.1.vars.cell 0 1 rfl rfl; have x2 := H10.out.1.vars.cell 0 2 rfl rfl; have xlt := H10.out.1.vars.lt 0 rfl; have y0 := H10.out.1.vars.cell 7 0 rfl rfl; have y1 := H10.out.1.vars.cell 7 1 rfl rfl; have y2 := H10.out.1.vars.cell 7 2 rfl rfl; have y3 := H10.out.1.vars.cell 7 3 rfl rfl; have y4 := H10.out.1.vars.cell 7 4 rfl rfl; have y5 := H10.out.1.vars.cell 7 5 rfl rfl; have yf := H10.out.1.vars.soft 7 rfl; have ylt := H10.out.1.vars.lt 7 rfl))
   have hbx := (H10.out.1.vars.box 7 _ _ rfl).1
   have hge := H10.out.1.vars.ge 7 rfl
   have hno : ∀ b : Bool, ∀ u, Value.bool b ≠ .int .u64 u := fun b u e => by cases e
   have hns : ∀ u, Value.slice none 0 0 ≠ .int .u64 u := fun u e => by cases e
   have hX := H10.out.2.1.setSix hbx (hno _) hns hns (hno _) hns hns (.bool nX) (.slice oX lX cX) (.slice pX mX kX) (.bool nY) (.slice oY lY cY) (.slice pY mY kY)
   have hY := H10.out.2.2.setSix hbx (hno _) hns hns (hno _) hns hns (.bool nX) (.slice oX lX cX) (.slice pX mX kX) (.bool nY) (.slice oY lY cY) (.slice pY mY kY)
   have hbl := below_set (v := .slice pY mY kY) (j := 5) (below_set (v := .slice oY lY cY) (j := 4) (below_set (v := .bool nY) (j := 3) (below_set (v := .slice pX mX kX) (j := 2) (below_set (v := .slice oX lX cX) (j := 1) (below_set (v := .bool nX) (j := 0) H10.out.1.vars.below hge) hge) hge) hge) hge) hge
   have hAl : ∀ (Z : World) A t, Below Z.heap.size Z (Z.alloc (.cells A t)) := fun Z A t => (Below.refl _ _).alloc (Nat.le_refl _) _
   rw [HDQ.out] at hX hY
   exact bodyPost_ret (v := .agg #[.bool nX, .slice oX lX cX, .slice pX mX kX, .bool nY, .slice oY lY cY, .slice pY mY kY]) (by simp [results, Tryz.results31, go_sem, y0, y1, y2, y3, y4, y5, yf, ylt]) rfl
    ⟨_, _, _, _, _, _, _, _, _, _, _, _, _, _, rfl, hX.later (hAl _ _ _), hY.later (hAl _ _ _), bnext hbl (hAl _ _ _)⟩
  ·
   obtain ⟨j, rfl⟩ : ∃ j, k = j + 1 := ⟨k - 1, by omega⟩
   have hki : ((j + 1 : Nat) : Int) - 1 = (j : Int) := by omega
   rw [hki]
   have hjp : j < p.length := by rw [← HR.out.2.2.2.2.1]; omega
   obtain ⟨bb, off, n3, o3, l3, c3, rfl, f0, f1, hi3⟩ := HR.out.1.at (show j < len by omega)
   have HP : Hid (∀ w', Below w.heap.size w w' → w'.cell? ⟨bb, off + j * 2, none⟩ = some (.bool n3) ∧ w'.cell? ⟨bb, off + j * 2 + 1, none⟩ = some (.slice o3 l3 c3) ∧ IntAt w' n3 o3 l3 c3 (dig p j)) := fun w' hb => ⟨(hb.cell (p := ⟨bb, off + j * 2, none⟩) (cell_lt f0)).trans f0, (hb.cell (p := ⟨bb, off + j * 2 + 1, none⟩) (cell_lt f1)).trans f1, hi3.later hb⟩
   have hl3 : l3 ≤ 10000 := by rw [hi3.lim]; have := HR.out.2.2.2.2.2.1 j; have := HR.out.2.2.2.2.2.2.1; omega
   replace HS : Hid (Mem w wr [(r10, [.bool nS, .slice oS lS cS]), (r9, [.bool n9, .slice o9 l9 c9]), (r8, [.bool n8, .slice o8 l8 c8]), (r7, [.bool n7, .slice o7 l7 c7]), (r6, [.bool n6, .slice o6 l6 c6]), (r5, [.bool n5, .slice o5 l5 c5]), (w.heap.size + 1, [.bool false, .slice none 0 0, .slice none 0 0, .bool false, .slice none 0 0, .slice none 0 0]), (w.heap.size, [.bool n1, .slice o1 l1 c1, .slice p1 m1 k1, .bool n2, .slice o2 l2 c2, .slice p2 m2 k2])] [(n8, o8, l8, c8, (spanI (p.drop (j + 1)) lo hi d).1), (n9, o9, l9, c9, (spanI (p.drop (j + 1)) lo hi d).2), (nS, oS, lS, cS, (d ^ (p.length - (j + 1)))), (n5, o5, l5, c5, lo), (n6, o6, l6, c6, hi), (n7, o7, l7, c7, d)]) := by
    have h := HS.out
    rw [if_neg (by omega)] at h
    exact h
   have HLL1 : Hid (lim ((spanI (p.drop (j + 1)) lo hi d).1) ≤ 656960 ∧ lim ((spanI (p.drop (j + 1)) lo hi d).2) ≤ 656960 ∧ lim (d ^ (p.length - (j + 1))) ≤ 257) := by
    have h := HLL.out (j + 1)
    rw [if_neg (by omega)] at h
    exact h
   have hl8 : l8 ≤ 656960 := len_lim (HS.out.num 0 rfl) HLL1.out.1
   have hl9 : l9 ≤ 656960 := len_lim (HS.out.num 1 rfl) HLL1.out.2.1
   have hlS : lS ≤ 257 := len_lim (HS.out.num 2 rfl) HLL1.out.2.2
   have hl5 : l5 ≤ 4 := len_lim (HS.out.num 3 rfl) HLD.out.1
   have hl6 : l6 ≤ 4 := len_lim (HS.out.num 4 rfl) HLD.out.2.1
   have hl7 : l7 ≤ 4 := len_lim (HS.out.num 5 rfl) HLD.out.2.2.1
   have HLP : Hid (lim ((spanI (p.drop (j + 1)) lo hi d).1 * lo) ≤ 1000000 ∧ lim ((spanI (p.drop (j + 1)) lo hi d).1 * hi) ≤ 1000000 ∧ lim ((spanI (p.drop (j + 1)) lo hi d).2 * lo) ≤ 1000000 ∧ lim ((spanI (p.drop (j + 1)) lo hi d).2 * hi) ≤ 1000000) := by
    have h1 := lim_mul ((spanI (p.drop (j + 1)) lo hi d).1) lo
    have h2 := lim_mul ((spanI (p.drop (j + 1)) lo hi d).1) hi
    have h3 := lim_mul ((spanI (p.drop (j + 1)) lo hi d).2) lo
    have h4 := lim_mul ((spanI (p.drop (j + 1)) lo hi d).2) hi
    have h5 := HLL1.out
    have h6 := HLD.out
    exact ⟨by omega, by omega, by omega, by omega⟩
   have HJ : Hid (j + 1 ≤ len ∧ j < p.length) := ⟨hk, hjp⟩
   have z1 : (0 : Int) ≤ (j : Int) := by omega
   have z2 : (j : Int) < (len : Int) := by omega
   clear hi3 f0 f1 hk0 hki hjp hk
   go_wp2
   refine wp_region_noPanic ?_
   refine HeldT.start (S := fun w' => (w'.cell? ⟨r8, 0, none⟩ = some (.bool n8) ∧ w'.cell? ⟨r8, 1, none⟩ = some (.slice o8 l8 c8) ∧ w'.cell? ⟨r9, 0, none⟩ = some (.bool n9) ∧ w'.cell? ⟨r9, 1, none⟩ = some (.slice o9 l9 c9) ∧ w'.cell? ⟨r6, 0, none⟩ = some (.bool n6) ∧ w'.cell? ⟨r6, 1, none⟩ = some (.slice o6 l6 c6) ∧ w'.cell? ⟨r5, 0, none⟩ = some (.bool n5) ∧ w'.cell? ⟨r5, 1, none⟩ = some (.slice o5 l5 c5))) [17, 18] (by kernel_rfl) (by (try dsimp only); exact (show _ from ⟨(HS.out.later (Below.refl _ _).drew).vars.cell 2 0 rfl rfl, (HS.out.later (Below.refl _ _).drew).vars.cell 2 1 rfl rfl, (HS.out.later (Below.refl _ _).drew).vars.cell 1 0 rfl rfl, (HS.out.later (Below.refl _ _).drew).vars.cell 1 1 rfl rfl, (HS.out.later (Below.refl _ _).drew).vars.cell 4 0 rfl rfl, (HS.out.later (Below.refl _ _).drew).vars.cell 4 1 rfl rfl, (HS.out.later (Below.refl _ _).drew).vars.cell 5 0 rfl rfl, (HS.out.later (Below.refl _ _).drew).vars.cell 5 1 rfl rfl⟩)) (fun hHeld => ?_)
   refine HeldT.take (i := 0) (oi := Oper.mk (some 34) _ _ _ _ _) (v := ?_) rfl (by decide +kernel) (by decide +kernel) (by decide +kernel) (by decide +kernel) (fun _ _ _ h => h) (Or.inl ⟨by rfl, ?_⟩) (by assumption) ?_
   rotate_left
   ·
    (intro w hSw; (try dsimp only at hSw); go_simp <;> (try with_reducible rfl))
   (try simp only [Act.put, List.setIfInBounds_toArray, List.set_cons_zero, List.set_cons_succ])
   refine HeldT.take (i := 1) (oi := Oper.mk (some 35) _ _ _ _ _) (v := ?_) rfl (by decide +kernel) (by decide +kernel) (by decide +kernel) (by decide +kernel) (fun _ _ _ h => h) (Or.inl ⟨by rfl, ?_⟩) (by assumption) ?_
   rotate_left
   ·
    (intro w hSw; (try dsimp only at hSw); go_simp <;> (try with_reducible rfl))
   (try simp only [Act.put, List.setIfInBounds_toArray, List.set_cons_zero, List.set_cons_succ])
   refine HeldT.take (i := 3) (oi := Oper.mk (some 37) _ _ _ _ _) (v := ?_) rfl (by decide +kernel) (by decide +kernel) (by decide +kernel) (by decide +kernel) (fun _ _ _ h => h) (Or.inl ⟨by rfl, ?_⟩) (by assumption) ?_
   rotate_left
   ·
    (intro w hSw; (try dsimp only at hSw); go_simp <;> (try with_reducible rfl))
   (try simp only [Act.put, List.setIfInBounds_toArray, List.set_cons_zero, List.set_cons_succ])
   refine HeldT.take (i := 4) (oi := Oper.mk (some 38) _ _ _ _ _) (v := ?_) rfl (by decide +kernel) (by decide +kernel) (by decide +kernel) (by decide +kernel) (fun _ _ _ h => h) (Or.inl ⟨by rfl, ?_⟩) (by assumption) ?_
   rotate_left
   ·
    (intro w hSw; (try dsimp only at hSw); go_simp <;> (try with_reducible rfl))
   (try simp only [Act.put, List.setIfInBounds_toArray, List.set_cons_zero, List.set_cons_succ])
   refine HeldT.take (i := 6) (oi := Oper.mk (some 40) _ _ _ _ _) (v := ?_) rfl (by decide +kernel) (by decide +kernel) (by decide +kernel) (by decide +kernel) (fun _ _ _ h => h) (Or.inl ⟨by rfl, ?_⟩) (by assumption) ?_
   rotate_left
   ·
    (intro w hSw; (try dsimp only at hSw); go_simp <;> (try with_reducible rfl))
   (try simp only [Act.put, List.setIfInBounds_toArray, List.set_cons_zero, List.set_cons_succ])
   refine HeldT.take (i := 7) (oi := Oper.mk (some 41) _ _ _ _ _) (v := ?_) rfl (by decide +kernel) (by decide +kernel) (by decide +kernel) (by decide +kernel) (fun _ _ _ h => h) (Or.inl ⟨by rfl, ?_⟩) (by assumption) ?_
   rotate_left
   ·
    (intro w hSw; (try dsimp only at hSw); go_simp <;> (try with_reducible rfl))
   (try simp only [Act.put, List.setIfInBounds_toArray, List.set_cons_zero, List.set_cons_succ])
   refine HeldT.take (i := 9) (oi := Oper.mk (some 43) _ _ _ _ _) (v := ?_) rfl (by decide +kernel) (by decide +kernel) (by decide +kernel) (by decide +kernel) (fun _ _ _ h => h) (Or.inl ⟨by rfl, ?_⟩) (by assumption) ?_
   rotate_left
   ·
    (intro w hSw; (try dsimp only at hSw); go_simp <;> (try with_reducible rfl))
   (try simp only [Act.put, List.setIfInBounds_toArray, List.set_cons_zero, List.set_cons_succ])
   refine HeldT.take (i := 10) (oi := Oper.mk (some 44) _ _ _ _ _) (v := ?_) rfl (by decide +kernel) (by decide +kernel) (by decide +kernel) (by decide +kernel) (fun _ _ _ h => h) (Or.inl ⟨by rfl, ?_⟩) (by assumption) ?_
   rotate_left
   ·
    (intro w hSw; (try dsimp only at hSw); go_simp <;> (try with_reducible rfl))
   (try simp only [Act.put, List.setIfInBounds_toArray, List.set_cons_zero, List.set_cons_succ])
   refine HeldT.ready (rs := [2]) (by decide +kernel) (by simp) ?_
   refine AllT.cons (o := Oper.mk (some 36) _ _ _ _ _) rfl (fun K hK => ?_) AllT.nil
   go_simp
   (go_at_call 56; refine (pltimes_any n8 n5 o8 o5 l8 c8 l5 c5 ((spanI (p.drop (j + 1)) lo hi d).1) lo _ ((HS.out.later (Below.refl _ _).drew).num 0 rfl) ((HS.out.later (Below.refl _ _).drew).num 3 rfl) (by omega) (by omega)).mono ?_; rintro e y0 ⟨nA, oA, lA, cA, rfl, hs, ho, hb⟩; have HA : Hid (Mem w y0 [(r10, [.bool nS, .slice oS lS cS]), (r9, [.bool n9, .slice o9 l9 c9]), (r8, [.bool n8, .slice o8 l8 c8]), (r7, [.bool n7, .slice o7 l7 c7]), (r6, [.bool n6, .slice o6 l6 c6]), (r5, [.bool n5, .slice o5 l5 c5]), (w.heap.size + 1, [.bool false, .slice none 0 0, .slice none 0 0, .bool false, .slice none 0 0, .slice none 0 0]), (w.heap.size, [.bool n1, .slice o1 l1 c1, .slice p1 m1 k1, .bool n2, .slice o2 l2 c2, .slice p2 m2 k2])] [(nA, oA, lA, cA, (spanI (p.drop (j + 1)) lo hi d).1 * lo), (n8, o8, l8, c8, (spanI (p.drop (j + 1)) lo hi d).1), (n9, o9, l9, c9, (spanI (p.drop (j + 1)) lo hi d).2), (nS, oS, lS, cS, (d ^ (p.length - (j + 1)))), (n5, o5, l5, c5, lo), (n6, o6, l6, c6, hi), (n7, o7, l7, c7, d)]) := ((HS.out.later (Below.refl _ _).drew).later hb).push (ho.int hs); clear hs ho hb; have hlA : lA ≤ 1000000 := len_lim (HA.out.num 0 rfl) (HLP.out.1))
   (try go_wp2_with fail)
   clear hHeld
   refine hK.out _ _ (by (try dsimp only); exact ⟨HA.out.vars.cell 2 0 rfl rfl, HA.out.vars.cell 2 1 rfl rfl, HA.out.vars.cell 1 0 rfl rfl, HA.out.vars.cell 1 1 rfl rfl, HA.out.vars.cell 4 0 rfl rfl, HA.out.vars.cell 4 1 rfl rfl, HA.out.vars.cell 5 0 rfl rfl, HA.out.vars.cell 5 1 rfl rfl⟩) (fun hHeld => ?_)
   clear hK K
   (try simp only [Act.put, List.setIfInBounds_toArray, List.set_cons_zero, List.set_cons_succ])
   refine HeldT.ready (rs := [5]) (by decide +kernel) (by simp) ?_
   refine AllT.cons (o := Oper.mk (some 39) _ _ _ _ _) rfl (fun K hK => ?_) AllT.nil
   go_simp
   (go_at_call 56; refine (pltimes_any n8 n6 o8 o6 l8 c8 l6 c6 ((spanI (p.drop (j + 1)) lo hi d).1) hi _ (HA.out.num 1 rfl) (HA.out.num 5 rfl) (by omega) (by omega)).mono ?_; rintro e y1 ⟨nB, oB, lB, cB, rfl, hs, ho, hb⟩; have HB : Hid (Mem w y1 [(r10, [.bool nS, .slice oS lS cS]), (r9, [.bool n9, .slice o9 l9 c9]), (r8, [.bool n8, .slice o8 l8 c8]), (r7, [.bool n7, .slice o7 l7 c7]), (r6, [.bool n6, .slice o6 l6 c6]), (r5, [.bool n5, .slice o5 l5 c5]), (w.heap.size + 1, [.bool false, .slice none 0 0, .slice none 0 0, .bool false, .slice none 0 0, .slice none 0 0]), (w.heap.size, [.bool n1, .slice o1 l1 c1, .slice p1 m1 k1, .bool n2, .slice o2 l2 c2, .slice p2 m2 k2])] [(nB, oB, lB, cB, (spanI (p.drop (j + 1)) lo hi d).1 * hi), (nA, oA, lA, cA, (spanI (p.drop (j + 1)) lo hi d).1 * lo), (n8, o8, l8, c8, (spanI (p.drop (j + 1)) lo hi d).1), (n9, o9, l9, c9, (spanI (p.drop (j + 1)) lo hi d).2), (nS, oS, lS, cS, (d ^ (p.length - (j + 1)))), (n5, o5, l5, c5, lo), (n6, o6, l6, c6, hi), (n7, o7, l7, c7, d)]) := (HA.out.later hb).push (ho.int hs); clear hs ho hb; have hlB : lB ≤ 1000000 := len_lim (HB.out.num 0 rfl) (HLP.out.2.1))
   (try go_wp2_with fail)
   clear hHeld
   refine hK.out _ _ (by (try dsimp only); exact ⟨HB.out.vars.cell 2 0 rfl rfl, HB.out.vars.cell 2 1 rfl rfl, HB.out.vars.cell 1 0 rfl rfl, HB.out.vars.cell 1 1 rfl rfl, HB.out.vars.cell 4 0 rfl rfl, HB.out.vars.cell 4 1 rfl rfl, HB.out.vars.cell 5 0 rfl rfl, HB.out.vars.cell 5 1 rfl rfl⟩) (fun hHeld => ?_)
   clear hK K
   (try simp only [Act.put, List.setIfInBounds_toArray, List.set_cons_zero, List.set_cons_succ])
   refine HeldT.ready (rs := [8]) (by decide +kernel) (by simp) ?_
   refine AllT.cons (o := Oper.mk (some 42) _ _ _ _ _) rfl (fun K hK => ?_) AllT.nil
   go_simp
   (go_at_call 56; refine (pltimes_any n9 n5 o9 o5 l9 c9 l5 c5 ((spanI (p.drop (j + 1)) lo hi d).2) lo _ (HB.out.num 3 rfl) (HB.out.num 5 rfl) (by omega) (by omega)).mono ?_; rintro e y2 ⟨nC, oC, lC, cC, rfl, hs, ho, hb⟩; have HC : Hid (Mem w y2 [(r10, [.bool nS, .slice oS lS cS]), (r9, [.bool n9, .slice o9 l9 c9]), (r8, [.bool n8, .slice o8 l8 c8]), (r7, [.bool n7, .slice o7 l7 c7]), (r6, [.bool n6, .slice o6 l6 c6]), (r5, [.bool n5, .slice o5 l5 c5]), (w.heap.size + 1, [.bool false, .slice none 0 0, .slice none 0 0, .bool false, .slice none 0 0, .slice none 0 0]), (w.heap.size, [.bool n1, .slice o1 l1 c1, .slice p1 m1 k1, .bool n2, .slice o2 l2 c2, .slice p2 m2 k2])] [(nC, oC, lC, cC, (spanI (p.drop (j + 1)) lo hi d).2 * lo), (nB, oB, lB, cB, (spanI (p.drop (j + 1)) lo hi d).1 * hi), (nA, oA, lA, cA, (spanI (p.drop (j + 1)) lo hi d).1 * lo), (n8, o8, l8, c8, (spanI (p.drop (j + 1)) lo hi d).1), (n9, o9, l9, c9, (spanI (p.drop (j + 1)) lo hi d).2), (nS, oS, lS, cS, (d ^ (p.length - (j + 1)))), (n5, o5, l5, c5, lo), (n6, o6, l6, c6, hi), (n7, o7, l7, c7, d)]) := (HB.out.later hb).push (ho.int hs); clear hs ho hb; have hlC : lC ≤ 1000000 := len_lim (HC.out.num 0 rfl) (HLP.out.2.2.1))
   (try go_wp2_with fail)
   clear hHeld
   refine hK.out _ _ (by (try dsimp only); exact ⟨HC.out.vars.cell 2 0 rfl rfl, HC.out.vars.cell 2 1 rfl rfl, HC.out.vars.cell 1 0 rfl rfl, HC.out.vars.cell 1 1 rfl rfl, HC.out.vars.cell 4 0 rfl rfl, HC.out.vars.cell 4 1 rfl rfl, HC.out.vars.cell 5 0 rfl rfl, HC.out.vars.cell 5 1 rfl rfl⟩) (fun hHeld => ?_)
   clear hK K
   (try simp only [Act.put, List.setIfInBounds_toArray, List.set_cons_zero, List.set_cons_succ])
   refine HeldT.ready (rs := [11]) (by decide +kernel) (by simp) ?_
   refine AllT.cons (o := Oper.mk (some 45) _ _ _ _ _) rfl (fun K hK => ?_) AllT.nil
   go_simp
   (go_at_call 56; refine (pltimes_any n9 n6 o9 o6 l9 c9 l6 c6 ((spanI (p.drop (j + 1)) lo hi d).2) hi _ (HC.out.num 4 rfl) (HC.out.num 7 rfl) (by omega) (by omega)).mono ?_; rintro e y3 ⟨nD, oD, lD, cD, rfl, hs, ho, hb⟩; have HD : Hid (Mem w y3 [(r10, [.bool nS, .slice oS lS cS]), (r9, [.bool n9, .slice o9 l9 c9]), (r8, [.bool n8, .slice o8 l8 c8]), (r7, [.bool n7, .slice o7 l7 c7]), (r6, [.bool n6, .slice o6 l6 c6]), (r5, [.bool n5, .slice o5 l5 c5]), (w.heap.size + 1, [.bool false, .slice none 0 0, .slice none 0 0, .bool false, .slice none 0 0, .slice none 0 0]), (w.heap.size, [.bool n1, .slice o1 l1 c1, .slice p1 m1 k1, .bool n2, .slice o2 l2 c2, .slice p2 m2 k2])] [(nD, oD, lD, cD, (spanI (p.drop (j + 1)) lo hi d).2 * hi), (nC, oC, lC, cC, (spanI (p.drop (j + 1)) lo hi d).2 * lo), (nB, oB, lB, cB, (spanI (p.drop (j + 1)) lo hi d).1 * hi), (nA, oA, lA, cA, (spanI (p.drop (j + 1)) lo hi d).1 * lo), (n8, o8, l8, c8, (spanI (p.drop (j + 1)) lo hi d).1), (n9, o9, l9, c9, (spanI (p.drop (j + 1)) lo hi d).2), (nS, oS, lS, cS, (d ^ (p.length - (j + 1)))), (n5, o5, l5, c5, lo), (n6, o6, l6, c6, hi), (n7, o7, l7, c7, d)]) := (HC.out.later hb).push (ho.int hs); clear hs ho hb; have hlD : lD ≤ 1000000 := len_lim (HD.out.num 0 rfl) (HLP.out.2.2.2))
   (try go_wp2_with fail)
   clear hHeld
   refine hK.out _ _ (by (try dsimp only); exact ⟨HD.out.vars.cell 2 0 rfl rfl, HD.out.vars.cell 2 1 rfl rfl, HD.out.vars.cell 1 0 rfl rfl, HD.out.vars.cell 1 1 rfl rfl, HD.out.vars.cell 4 0 rfl rfl, HD.out.vars.cell 4 1 rfl rfl, HD.out.vars.cell 5 0 rfl rfl, HD.out.vars.cell 5 1 rfl rfl⟩) (fun hHeld => ?_)
   clear hK K
   (try simp only [Act.put, List.setIfInBounds_toArray, List.set_cons_zero, List.set_cons_succ])
   refine HeldT.take (i := 12) (oi := Oper.mk (some 46) _ _ _ _ _) (v := ?_) rfl (by decide +kernel) (by decide +kernel) (by decide +kernel) (by decide +kernel) (fun _ _ _ h => h) (Or.inl ⟨by rfl, ?_⟩) (by assumption) ?_
   rotate_left
   ·
    (intro w hSw; (try dsimp only at hSw); go_simp <;> (try with_reducible rfl))
   (try simp only [Act.put, List.setIfInBounds_toArray, List.set_cons_zero, List.set_cons_succ])
   refine HeldT.ready (rs := [13]) (by decide +kernel) (by simp) ?_
   refine AllT.cons (o := Oper.mk (some 47) _ _ _ _ _) rfl (fun K hK => ?_) AllT.nil
   go_simp
   (go_at_call 60; refine (extremes_any nA nB nC nD oA oB oC oD lA cA lB cB lC cC lD cD ((spanI (p.drop (j + 1)) lo hi d).1 * lo) ((spanI (p.drop (j + 1)) lo hi d).1 * hi) ((spanI (p.drop (j + 1)) lo hi d).2 * lo) ((spanI (p.drop (j + 1)) lo hi d).2 * hi) _ (HD.out.num 3 rfl) hlA (HD.out.num 2 rfl) hlB (HD.out.num 1 rfl) hlC (HD.out.num 0 rfl) hlD).mono ?_; rintro e y5 ⟨nE, oE, lE, cE, nF, oF, lF, cF, rfl, hE, hF, hb⟩; have HE : Hid (Mem w y5 [(r10, [.bool nS, .slice oS lS cS]), (r9, [.bool n9, .slice o9 l9 c9]), (r8, [.bool n8, .slice o8 l8 c8]), (r7, [.bool n7, .slice o7 l7 c7]), (r6, [.bool n6, .slice o6 l6 c6]), (r5, [.bool n5, .slice o5 l5 c5]), (w.heap.size + 1, [.bool false, .slice none 0 0, .slice none 0 0, .bool false, .slice none 0 0, .slice none 0 0]), (w.heap.size, [.bool n1, .slice o1 l1 c1, .slice p1 m1 k1, .bool n2, .slice o2 l2 c2, .slice p2 m2 k2])] [(nE, oE, lE, cE, loI (exts ((spanI (p.drop (j + 1)) lo hi d).1) ((spanI (p.drop (j + 1)) lo hi d).2) lo hi) 4), (nF, oF, lF, cF, hiI (exts ((spanI (p.drop (j + 1)) lo hi d).1) ((spanI (p.drop (j + 1)) lo hi d).2) lo hi) 4), (nS, oS, lS, cS, (d ^ (p.length - (j + 1)))), (n5, o5, l5, c5, lo), (n6, o6, l6, c6, hi), (n7, o7, l7, c7, d)]) := (((HD.out.later hb).push hF).push hE).only [0, 1, 8, 9, 10, 11]; clear hE hF hb)
   (try go_wp2_with fail)
   clear hHeld
   refine hK.out _ _ (by (try dsimp only); exact ⟨HE.out.vars.cell 2 0 rfl rfl, HE.out.vars.cell 2 1 rfl rfl, HE.out.vars.cell 1 0 rfl rfl, HE.out.vars.cell 1 1 rfl rfl, HE.out.vars.cell 4 0 rfl rfl, HE.out.vars.cell 4 1 rfl rfl, HE.out.vars.cell 5 0 rfl rfl, HE.out.vars.cell 5 1 rfl rfl⟩) (fun hHeld => ?_)
   clear hK K
   (try simp only [Act.put, List.setIfInBounds_toArray, List.set_cons_zero, List.set_cons_succ])
   refine HeldT.take (i := 14) (oi := Oper.mk (some 33) _ _ _ _ _) (v := ?_) rfl (by decide +kernel) (by decide +kernel) (by decide +kernel) (by decide +kernel) (fun _ _ _ h => h) (Or.inl ⟨by rfl, ?_⟩) (by assumption) ?_
   rotate_left
   ·
    (intro w hSw; (try dsimp only at hSw); go_simp <;> (try with_reducible rfl))
   (try simp only [Act.put, List.setIfInBounds_toArray, List.set_cons_zero, List.set_cons_succ])
   refine HeldT.take (i := 15) (oi := Oper.mk (some 48) _ _ _ _ _) (v := ?_) rfl (by decide +kernel) (by decide +kernel) (by decide +kernel) (by decide +kernel) (fun _ _ _ h => h) (Or.inl ⟨by rfl, ?_⟩) (by assumption) ?_
   rotate_left
   ·
    (intro w hSw; (try dsimp only at hSw); go_simp <;> (try with_reducible rfl))
   (try simp only [Act.put, List.setIfInBounds_toArray, List.set_cons_zero, List.set_cons_succ])
   refine HeldT.takeV (i := 16) (oi := Oper.mk (some 49) _ _ _ _ _) (v := ?_) rfl (by decide +kernel) (by decide +kernel) (by decide +kernel) (by decide +kernel) (fun _ _ _ h => h) (Or.inl ⟨by rfl, ?_⟩) (by assumption) ?_
   rotate_left
   ·
    (intro w hSw; go_simp <;> (try with_reducible rfl))
   (try simp only [Act.put, List.setIfInBounds_toArray, List.set_cons_zero, List.set_cons_succ])
   have u0 := HE.out.vars.cell 2 0 rfl rfl
   have u1 := HE.out.vars.cell 2 1 rfl rfl
   have uf := HE.out.vars.soft 2 rfl
   have t0 := HE.out.vars.cell 1 0 rfl rfl
   have t1 := HE.out.vars.cell 1 1 rfl rfl
   have tf := HE.out.vars.soft 1 rfl
   have une := HE.out.vars.ne 2 1 rfl rfl (by decide)
   clear hHeld
   refine HeldT.ready (rs := [17]) (by decide +kernel) (by simp) ?_
   refine AllT.store (o := Oper.mk none _ _ _ _ _) rfl (by decide +kernel) (fun K hK => ?_) AllT.nil
   go_simp
   refine hK.out _ _ ?_
   clear hK K
   (try simp only [Act.put, List.setIfInBounds_toArray, List.set_cons_zero, List.set_cons_succ])
   refine HeldT.ready (rs := [18]) (by decide +kernel) (by simp) ?_
   refine AllT.store (o := Oper.mk none _ _ _ _ _) rfl (by decide +kernel) (fun K hK => ?_) AllT.nil
   go_simp
   refine hK.out _ _ ?_
   clear hK K
   (try simp only [Act.put, List.setIfInBounds_toArray, List.set_cons_zero, List.set_cons_succ])
   refine HeldT.done (by decide +kernel) ?_ _
   refine NoPanic.normal ?_
   have HLX : Hid (lim (loI (exts ((spanI (p.drop (j + 1)) lo hi d).1) ((spanI (p.drop (j + 1)) lo hi d).2) lo hi) 4) ≤ 1000000 ∧ lim (hiI (exts ((spanI (p.drop (j + 1)) lo hi d).1) ((spanI (p.drop (j + 1)) lo hi d).2) lo hi) 4) ≤ 1000000) := by
    have he := exts_lim (K := 656960) HLL1.out.1 HLL1.out.2.1 HLD.out.1 HLD.out.2.1
    obtain ⟨i, hi1, e1⟩ := loI_mem (x := exts ((spanI (p.drop (j + 1)) lo hi d).1) ((spanI (p.drop (j + 1)) lo hi d).2) lo hi) 4 (by omega)
    obtain ⟨m, hj1, e2⟩ := hiI_mem (x := exts ((spanI (p.drop (j + 1)) lo hi d).1) ((spanI (p.drop (j + 1)) lo hi d).2) lo hi) 4 (by omega)
    have h8 := he i hi1
    have h9 := he m hj1
    rw [← e1] at h8
    rw [← e2] at h9
    exact ⟨by omega, by omega⟩
   have HLX2 : Hid (lim (dig p j * (d ^ (p.length - (j + 1)))) ≤ 1000000) := by
    have h := lim_mul (dig p j) (d ^ (p.length - (j + 1)))
    have h2 := HR.out.2.2.2.2.2.1 j
    have h3 := HR.out.2.2.2.2.2.2.1
    have h4 := HLL1.out.2.2
    show _ ≤ _
    omega
   obtain ⟨Y, hY⟩ : ∃ Y, Y = ((((y5.setCell ⟨r8, 0, none⟩ (.bool nE)).setCell ⟨r8, 1, none⟩ (.slice oE lE cE)).setCell ⟨r9, 0, none⟩ (.bool nF)).setCell ⟨r9, 1, none⟩ (.slice oF lF cF)) := ⟨_, rfl⟩
   have HY : Hid (Mem w Y [(r10, [.bool nS, .slice oS lS cS]), (r9, [.bool nF, .slice oF lF cF]), (r8, [.bool nE, .slice oE lE cE]), (r7, [.bool n7, .slice o7 l7 c7]), (r6, [.bool n6, .slice o6 l6 c6]), (r5, [.bool n5, .slice o5 l5 c5]), (w.heap.size + 1, [.bool false, .slice none 0 0, .slice none 0 0, .bool false, .slice none 0 0, .slice none 0 0]), (w.heap.size, [.bool n1, .slice o1 l1 c1, .slice p1 m1 k1, .bool n2, .slice o2 l2 c2, .slice p2 m2 k2])] [(nE, oE, lE, cE, loI (exts ((spanI (p.drop (j + 1)) lo hi d).1) ((spanI (p.drop (j + 1)) lo hi d).2) lo hi) 4), (nF, oF, lF, cF, hiI (exts ((spanI (p.drop (j + 1)) lo hi d).1) ((spanI (p.drop (j + 1)) lo hi d).2) lo hi) 4), (nS, oS, lS, cS, (d ^ (p.length - (j + 1)))), (n5, o5, l5, c5, lo), (n6, o6, l6, c6, hi), (n7, o7, l7, c7, d)]) := by
    rw [hY]
    exact (HE.out.put 2 rfl (.bool nE) (.slice oE lE cE)).put 1 rfl (.bool nF) (.slice oF lF cF)
   rw [← hY]
   clear hY u0 u1 uf t0 t1 tf une HE HA HB HC HD hlA hlB hlC hlD HS
   have hlE : lE ≤ 1000000 := len_lim (HY.out.num 0 rfl) HLX.out.1
   have hlF : lF ≤ 1000000 := len_lim (HY.out.num 1 rfl) HLX.out.2
   have hlS2 : lS ≤ 257 := hlS
   go_wp2
   go_cut [12] (fun s12 wx => ∃ r12 nG oG lG cG, s12 = .pointer (some ⟨r12, 0, none⟩) ∧ Hid (Mem w wx [(r12, [.bool nG, .slice oG lG cG]), (r10, [.bool nS, .slice oS lS cS]), (r9, [.bool nF, .slice oF lF cF]), (r8, [.bool nE, .slice oE lE cE]), (r7, [.bool n7, .slice o7 l7 c7]), (r6, [.bool n6, .slice o6 l6 c6]), (r5, [.bool n5, .slice o5 l5 c5]), (w.heap.size + 1, [.bool false, .slice none 0 0, .slice none 0 0, .bool false, .slice none 0 0, .slice none 0 0]), (w.heap.size, [.bool n1, .slice o1 l1 c1, .slice p1 m1 k1, .bool n2, .slice o2 l2 c2, .slice p2 m2 k2])] [(nG, oG, lG, cG, (dig p j * (d ^ (p.length - (j + 1))))), (nE, oE, lE, cE, loI (exts ((spanI (p.drop (j + 1)) lo hi d).1) ((spanI (p.drop (j + 1)) lo hi d).2) lo hi) 4), (nF, oF, lF, cF, hiI (exts ((spanI (p.drop (j + 1)) lo hi d).1) ((spanI (p.drop (j + 1)) lo hi d).2) lo hi) 4), (nS, oS, lS, cS, (d ^ (p.length - (j + 1)))), (n5, o5, l5, c5, lo), (n6, o6, l6, c6, hi), (n7, o7, l7, c7, d)]))
   case first =>
    refine wp_region_noPanic ?_
    refine HeldT.start (S := fun w' => (w'.cell? ⟨bb, off + j * 2, none⟩ = some (.bool n3) ∧ w'.cell? ⟨bb, off + j * 2 + 1, none⟩ = some (.slice o3 l3 c3) ∧ w'.cell? ⟨r10, 0, none⟩ = some (.bool nS) ∧ w'.cell? ⟨r10, 1, none⟩ = some (.slice oS lS cS))) [7] (by kernel_rfl) (by (try dsimp only); exact (show _ from ⟨(HP.out _ ((HY.out.later (Below.refl _ _).drew)).vars.below).1, (HP.out _ ((HY.out.later (Below.refl _ _).drew)).vars.below).2.1, ((HY.out.later (Below.refl _ _).drew)).vars.cell 0 0 rfl rfl, ((HY.out.later (Below.refl _ _).drew)).vars.cell 0 1 rfl rfl⟩)) (fun hHeld => ?_)
    refine HeldT.take (i := 0) (oi := Oper.mk (some 50) _ _ _ _ _) (v := ?_) rfl (by decide +kernel) (by decide +kernel) (by decide +kernel) (by decide +kernel) (fun _ _ _ h => h) (Or.inl ⟨by rfl, ?_⟩) (by assumption) ?_
    rotate_left
    ·
     (intro w hSw; (try dsimp only at hSw); go_simp <;> (try with_reducible rfl))
    (try simp only [Act.put, List.setIfInBounds_toArray, List.set_cons_zero, List.set_cons_succ])
    refine HeldT.take (i := 1) (oi := Oper.mk (some 51) _ _ _ _ _) (v := ?_) rfl (by decide +kernel) (by decide +kernel) (by decide +kernel) (by decide +kernel) (fun _ _ _ h => h) (Or.inl ⟨by rfl, ?_⟩) (by assumption) ?_
    rotate_left
    ·
     (intro w hSw; (try dsimp only at hSw); go_simp <;> (try with_reducible rfl))
    (try simp only [Act.put, List.setIfInBounds_toArray, List.set_cons_zero, List.set_cons_succ])
    refine HeldT.take (i := 2) (oi := Oper.mk (some 52) _ _ _ _ _) (v := ?_) rfl (by decide +kernel) (by decide +kernel) (by decide +kernel) (by decide +kernel) (fun _ _ _ h => h) (Or.inl ⟨by rfl, ?_⟩) (by assumption) ?_
    rotate_left
    ·
     (intro w hSw; (try dsimp only at hSw); go_simp <;> (try with_reducible rfl))
    (try simp only [Act.put, List.setIfInBounds_toArray, List.set_cons_zero, List.set_cons_succ])
    refine HeldT.take (i := 3) (oi := Oper.mk (some 53) _ _ _ _ _) (v := ?_) rfl (by decide +kernel) (by decide +kernel) (by decide +kernel) (by decide +kernel) (fun _ _ _ h => h) (Or.inl ⟨by rfl, ?_⟩) (by assumption) ?_
    rotate_left
    ·
     (intro w hSw; (try dsimp only at hSw); go_simp <;> (try with_reducible rfl))
    (try simp only [Act.put, List.setIfInBounds_toArray, List.set_cons_zero, List.set_cons_succ])
    refine HeldT.take (i := 4) (oi := Oper.mk (some 54) _ _ _ _ _) (v := ?_) rfl (by decide +kernel) (by decide +kernel) (by decide +kernel) (by decide +kernel) (fun _ _ _ h => h) (Or.inl ⟨by rfl, ?_⟩) (by assumption) ?_
    rotate_left
    ·
     (intro w hSw; (try dsimp only at hSw); go_simp <;> (try with_reducible rfl))
    (try simp only [Act.put, List.setIfInBounds_toArray, List.set_cons_zero, List.set_cons_succ])
    refine HeldT.ready (rs := [5, 6]) (by decide +kernel) (by simp) ?_
    refine AllT.cons (o := Oper.mk (some 55) _ _ _ _ _) rfl (fun K hK => ?_) (AllT.cons (o := Oper.mk (some 12) _ _ _ _ _) rfl (fun K hK => ?_) AllT.nil)
    ·
     go_simp
     (go_at_call 56; refine (pltimes_any n3 nS o3 oS l3 c3 lS cS (dig p j) (d ^ (p.length - (j + 1))) _ (HP.out _ ((HY.out.later (Below.refl _ _).drew)).vars.below).2.2 (((HY.out.later (Below.refl _ _).drew)).num 2 rfl) (by omega) (by omega)).mono ?_; rintro e y6 ⟨nG, oG, lG, cG, rfl, hs, ho, hb⟩; have HG : Hid (Mem w y6 [(r10, [.bool nS, .slice oS lS cS]), (r9, [.bool nF, .slice oF lF cF]), (r8, [.bool nE, .slice oE lE cE]), (r7, [.bool n7, .slice o7 l7 c7]), (r6, [.bool n6, .slice o6 l6 c6]), (r5, [.bool n5, .slice o5 l5 c5]), (w.heap.size + 1, [.bool false, .slice none 0 0, .slice none 0 0, .bool false, .slice none 0 0, .slice none 0 0]), (w.heap.size, [.bool n1, .slice o1 l1 c1, .slice p1 m1 k1, .bool n2, .slice o2 l2 c2, .slice p2 m2 k2])] [(nG, oG, lG, cG, (dig p j * (d ^ (p.length - (j + 1))))), (nE, oE, lE, cE, loI (exts ((spanI (p.drop (j + 1)) lo hi d).1) ((spanI (p.drop (j + 1)) lo hi d).2) lo hi) 4), (nF, oF, lF, cF, hiI (exts ((spanI (p.drop (j + 1)) lo hi d).1) ((spanI (p.drop (j + 1)) lo hi d).2) lo hi) 4), (nS, oS, lS, cS, (d ^ (p.length - (j + 1)))), (n5, o5, l5, c5, lo), (n6, o6, l6, c6, hi), (n7, o7, l7, c7, d)]) := (((HY.out.later (Below.refl _ _).drew)).later hb).push (ho.int hs); clear hs ho hb)
     (try go_wp2_with fail)
     clear hHeld
     refine hK.out _ _ (by (try dsimp only); exact ⟨(HP.out _ (HG.out).vars.below).1, (HP.out _ (HG.out).vars.below).2.1, (HG.out).vars.cell 0 0 rfl rfl, (HG.out).vars.cell 0 1 rfl rfl⟩) (fun hHeld => ?_)
     clear hK K
     (try simp only [Act.put, List.setIfInBounds_toArray, List.set_cons_zero, List.set_cons_succ])
     refine HeldT.ready (rs := [6]) (by decide +kernel) (by simp) ?_
     refine AllT.cons (o := Oper.mk (some 12) _ _ _ _ _) rfl (fun K hK => ?_) AllT.nil
     go_simp
     clear hHeld
     refine hK.out _ _ (by (try dsimp only); exact ⟨(HP.out _ (HG.out.alloc rfl [.bool false, .slice none 0 0] 28).vars.below).1, (HP.out _ (HG.out.alloc rfl [.bool false, .slice none 0 0] 28).vars.below).2.1, (HG.out.alloc rfl [.bool false, .slice none 0 0] 28).vars.cell 1 0 rfl rfl, (HG.out.alloc rfl [.bool false, .slice none 0 0] 28).vars.cell 1 1 rfl rfl⟩) (fun hHeld => ?_)
     clear hK K
     (try simp only [Act.put, List.setIfInBounds_toArray, List.set_cons_zero, List.set_cons_succ])
     clear hHeld
     refine HeldT.ready (rs := [7]) (by decide +kernel) (by simp) ?_
     refine AllT.store (o := Oper.mk none _ _ _ _ _) rfl (by decide +kernel) (fun K hK => ?_) AllT.nil
     go_simp
     refine hK.out _ _ ?_
     clear hK K
     (try simp only [Act.put, List.setIfInBounds_toArray, List.set_cons_zero, List.set_cons_succ])
     refine HeldT.done (by decide +kernel) ?_ _
     refine NoPanic.normal ?_
     show Exit.then _ _ Exit.normal _ _
     go_wp2
     go_meet
     exact ⟨_, nG, oG, lG, cG, rfl, HG.out.alloc rfl [.bool nG, .slice oG lG cG] _⟩
    ·
     go_simp
     clear hHeld
     refine hK.out _ _ (by (try dsimp only); exact ⟨(HP.out _ (((HY.out.later (Below.refl _ _).drew).alloc rfl [.bool false, .slice none 0 0] 28)).vars.below).1, (HP.out _ (((HY.out.later (Below.refl _ _).drew).alloc rfl [.bool false, .slice none 0 0] 28)).vars.below).2.1, (((HY.out.later (Below.refl _ _).drew).alloc rfl [.bool false, .slice none 0 0] 28)).vars.cell 1 0 rfl rfl, (((HY.out.later (Below.refl _ _).drew).alloc rfl [.bool false, .slice none 0 0] 28)).vars.cell 1 1 rfl rfl⟩) (fun hHeld => ?_)
     clear hK K
     (try simp only [Act.put, List.setIfInBounds_toArray, List.set_cons_zero, List.set_cons_succ])
     refine HeldT.ready (rs := [5]) (by decide +kernel) (by simp) ?_
     refine AllT.cons (o := Oper.mk (some 55) _ _ _ _ _) rfl (fun K hK => ?_) AllT.nil
     go_simp
     (have HM : Hid (Mem w (Y.drew.alloc (.cells #[.bool false, .slice none 0 0] 28)) [(Y.heap.size, [.bool false, .slice none 0 0]), (r10, [.bool nS, .slice oS lS cS]), (r9, [.bool nF, .slice oF lF cF]), (r8, [.bool nE, .slice oE lE cE]), (r7, [.bool n7, .slice o7 l7 c7]), (r6, [.bool n6, .slice o6 l6 c6]), (r5, [.bool n5, .slice o5 l5 c5]), (w.heap.size + 1, [.bool false, .slice none 0 0, .slice none 0 0, .bool false, .slice none 0 0, .slice none 0 0]), (w.heap.size, [.bool n1, .slice o1 l1 c1, .slice p1 m1 k1, .bool n2, .slice o2 l2 c2, .slice p2 m2 k2])] [(nE, oE, lE, cE, loI (exts ((spanI (p.drop (j + 1)) lo hi d).1) ((spanI (p.drop (j + 1)) lo hi d).2) lo hi) 4), (nF, oF, lF, cF, hiI (exts ((spanI (p.drop (j + 1)) lo hi d).1) ((spanI (p.drop (j + 1)) lo hi d).2) lo hi) 4), (nS, oS, lS, cS, (d ^ (p.length - (j + 1)))), (n5, o5, l5, c5, lo), (n6, o6, l6, c6, hi), (n7, o7, l7, c7, d)]) := (HY.out.later (Below.refl _ _).drew).alloc rfl [.bool false, .slice none 0 0] _; go_at_call 56; refine (pltimes_any n3 nS o3 oS l3 c3 lS cS (dig p j) (d ^ (p.length - (j + 1))) _ (HP.out _ (HM.out).vars.below).2.2 ((HM.out).num 2 rfl) (by omega) (by omega)).mono ?_; rintro e y6 ⟨nG, oG, lG, cG, rfl, hs, ho, hb⟩; have HG : Hid (Mem w y6 [(Y.heap.size, [.bool false, .slice none 0 0]), (r10, [.bool nS, .slice oS lS cS]), (r9, [.bool nF, .slice oF lF cF]), (r8, [.bool nE, .slice oE lE cE]), (r7, [.bool n7, .slice o7 l7 c7]), (r6, [.bool n6, .slice o6 l6 c6]), (r5, [.bool n5, .slice o5 l5 c5]), (w.heap.size + 1, [.bool false, .slice none 0 0, .slice none 0 0, .bool false, .slice none 0 0, .slice none 0 0]), (w.heap.size, [.bool n1, .slice o1 l1 c1, .slice p1 m1 k1, .bool n2, .slice o2 l2 c2, .slice p2 m2 k2])] [(nG, oG, lG, cG, (dig p j * (d ^ (p.length - (j + 1))))), (nE, oE, lE, cE, loI (exts ((spanI (p.drop (j + 1)) lo hi d).1) ((spanI (p.drop (j + 1)) lo hi d).2) lo hi) 4), (nF, oF, lF, cF, hiI (exts ((spanI (p.drop (j + 1)) lo hi d).1) ((spanI (p.drop (j + 1)) lo hi d).2) lo hi) 4), (nS, oS, lS, cS, (d ^ (p.length - (j + 1)))), (n5, o5, l5, c5, lo), (n6, o6, l6, c6, hi), (n7, o7, l7, c7, d)]) := ((HM.out).later hb).push (ho.int hs); clear hs ho hb; have x0 := HG.out.vars.cell 0 0 rfl rfl; have x1 := HG.out.vars.cell 0 1 rfl rfl; have xf := HG.out.vars.soft 0 rfl)
     (try go_wp2_with fail)
     clear hHeld
     refine hK.out _ _ (by (try dsimp only); exact ⟨(HP.out _ (HG.out).vars.below).1, (HP.out _ (HG.out).vars.below).2.1, (HG.out).vars.cell 1 0 rfl rfl, (HG.out).vars.cell 1 1 rfl rfl⟩) (fun hHeld => ?_)
     clear hK K
     (try simp only [Act.put, List.setIfInBounds_toArray, List.set_cons_zero, List.set_cons_succ])
     clear hHeld
     refine HeldT.ready (rs := [7]) (by decide +kernel) (by simp) ?_
     refine AllT.store (o := Oper.mk none _ _ _ _ _) rfl (by decide +kernel) (fun K hK => ?_) AllT.nil
     go_simp
     refine hK.out _ _ ?_
     clear hK K
     (try simp only [Act.put, List.setIfInBounds_toArray, List.set_cons_zero, List.set_cons_succ])
     refine HeldT.done (by decide +kernel) ?_ _
     refine NoPanic.normal ?_
     show Exit.then _ _ Exit.normal _ _
     go_wp2
     go_meet
     exact ⟨_, nG, oG, lG, cG, rfl, HG.out.put 0 rfl (.bool nG) (.slice oG lG cG)⟩
   case rest =>
    obtain ⟨r12, nG, oG, lG, cG, rfl, HC⟩ := hcut
    have hlG : lG ≤ 1000000 := len_lim (HC.out.num 0 rfl) HLX2.out
    have HSD : Hid (loI (exts ((spanI (p.drop (j + 1)) lo hi d).1) ((spanI (p.drop (j + 1)) lo hi d).2) lo hi) 4 + (dig p j * (d ^ (p.length - (j + 1)))) = (spanI (p.drop j) lo hi d).1 ∧ hiI (exts ((spanI (p.drop (j + 1)) lo hi d).1) ((spanI (p.drop (j + 1)) lo hi d).2) lo hi) 4 + (dig p j * (d ^ (p.length - (j + 1)))) = (spanI (p.drop j) lo hi d).2) := by
     have h := spanI_drop p lo hi d j HJ.out.2
     exact ⟨by rw [h], by rw [h]⟩
    clear HY
    go_wp2
    refine wp_region_noPanic ?_
    refine HeldT.start (S := fun w' => (w'.cell? ⟨r8, 0, none⟩ = some (.bool nE) ∧ w'.cell? ⟨r8, 1, none⟩ = some (.slice oE lE cE) ∧ w'.cell? ⟨r9, 0, none⟩ = some (.bool nF) ∧ w'.cell? ⟨r9, 1, none⟩ = some (.slice oF lF cF) ∧ w'.cell? ⟨r12, 0, none⟩ = some (.bool nG) ∧ w'.cell? ⟨r12, 1, none⟩ = some (.slice oG lG cG))) [6, 7] (by kernel_rfl) (by (try dsimp only); exact (show _ from ⟨(HC.out.later (Below.refl _ _).drew).vars.cell 3 0 rfl rfl, (HC.out.later (Below.refl _ _).drew).vars.cell 3 1 rfl rfl, (HC.out.later (Below.refl _ _).drew).vars.cell 2 0 rfl rfl, (HC.out.later (Below.refl _ _).drew).vars.cell 2 1 rfl rfl, (HC.out.later (Below.refl _ _).drew).vars.cell 0 0 rfl rfl, (HC.out.later (Below.refl _ _).drew).vars.cell 0 1 rfl rfl⟩)) (fun hHeld => ?_)
    refine HeldT.take (i := 0) (oi := Oper.mk (some 56) _ _ _ _ _) (v := ?_) rfl (by decide +kernel) (by decide +kernel) (by decide +kernel) (by decide +kernel) (fun _ _ _ h => h) (Or.inl ⟨by rfl, ?_⟩) (by assumption) ?_
    rotate_left
    ·
     (intro w hSw; (try dsimp only at hSw); go_simp <;> (try with_reducible rfl))
    (try simp only [Act.put, List.setIfInBounds_toArray, List.set_cons_zero, List.set_cons_succ])
    refine HeldT.take (i := 1) (oi := Oper.mk (some 57) _ _ _ _ _) (v := ?_) rfl (by decide +kernel) (by decide +kernel) (by decide +kernel) (by decide +kernel) (fun _ _ _ h => h) (Or.inl ⟨by rfl, ?_⟩) (by assumption) ?_
    rotate_left
    ·
     (intro w hSw; (try dsimp only at hSw); go_simp <;> (try with_reducible rfl))
    (try simp only [Act.put, List.setIfInBounds_toArray, List.set_cons_zero, List.set_cons_succ])
    refine HeldT.take (i := 3) (oi := Oper.mk (some 59) _ _ _ _ _) (v := ?_) rfl (by decide +kernel) (by decide +kernel) (by decide +kernel) (by decide +kernel) (fun _ _ _ h => h) (Or.inl ⟨by rfl, ?_⟩) (by assumption) ?_
    rotate_left
    ·
     (intro w hSw; (try dsimp only at hSw); go_simp <;> (try with_reducible rfl))
    (try simp only [Act.put, List.setIfInBounds_toArray, List.set_cons_zero, List.set_cons_succ])
    refine HeldT.take (i := 4) (oi := Oper.mk (some 60) _ _ _ _ _) (v := ?_) rfl (by decide +kernel) (by decide +kernel) (by decide +kernel) (by decide +kernel) (fun _ _ _ h => h) (Or.inl ⟨by rfl, ?_⟩) (by assumption) ?_
    rotate_left
    ·
     (intro w hSw; (try dsimp only at hSw); go_simp <;> (try with_reducible rfl))
    (try simp only [Act.put, List.setIfInBounds_toArray, List.set_cons_zero, List.set_cons_succ])
    refine HeldT.ready (rs := [2]) (by decide +kernel) (by simp) ?_
    refine AllT.cons (o := Oper.mk (some 58) _ _ _ _ _) rfl (fun K hK => ?_) AllT.nil
    go_simp
    (go_at_call 55; refine (plplus_any nE nG oE oG lE cE lG cG (loI (exts ((spanI (p.drop (j + 1)) lo hi d).1) ((spanI (p.drop (j + 1)) lo hi d).2) lo hi) 4) (dig p j * (d ^ (p.length - (j + 1)))) _ ((HC.out.later (Below.refl _ _).drew).num 1 rfl) ((HC.out.later (Below.refl _ _).drew).num 0 rfl) (by omega) (by omega)).mono ?_; rw [HSD.out.1]; rintro e y7 ⟨nH, oH, lH, cH, rfl, hs, ho, hb⟩; have H1 : Hid (Mem w y7 [(r12, [.bool nG, .slice oG lG cG]), (r10, [.bool nS, .slice oS lS cS]), (r9, [.bool nF, .slice oF lF cF]), (r8, [.bool nE, .slice oE lE cE]), (r7, [.bool n7, .slice o7 l7 c7]), (r6, [.bool n6, .slice o6 l6 c6]), (r5, [.bool n5, .slice o5 l5 c5]), (w.heap.size + 1, [.bool false, .slice none 0 0, .slice none 0 0, .bool false, .slice none 0 0, .slice none 0 0]), (w.heap.size, [.bool n1, .slice o1 l1 c1, .slice p1 m1 k1, .bool n2, .slice o2 l2 c2, .slice p2 m2 k2])] [(nH, oH, lH, cH, (spanI (p.drop j) lo hi d).1), (nG, oG, lG, cG, (dig p j * (d ^ (p.length - (j + 1))))), (nE, oE, lE, cE, loI (exts ((spanI (p.drop (j + 1)) lo hi d).1) ((spanI (p.drop (j + 1)) lo hi d).2) lo hi) 4), (nF, oF, lF, cF, hiI (exts ((spanI (p.drop (j + 1)) lo hi d).1) ((spanI (p.drop (j + 1)) lo hi d).2) lo hi) 4), (nS, oS, lS, cS, (d ^ (p.length - (j + 1)))), (n5, o5, l5, c5, lo), (n6, o6, l6, c6, hi), (n7, o7, l7, c7, d)]) := ((HC.out.later (Below.refl _ _).drew).later hb).push (ho.int hs); clear hs ho hb)
    (try go_wp2_with fail)
    clear hHeld
    refine hK.out _ _ (by (try dsimp only); exact ⟨H1.out.vars.cell 3 0 rfl rfl, H1.out.vars.cell 3 1 rfl rfl, H1.out.vars.cell 2 0 rfl rfl, H1.out.vars.cell 2 1 rfl rfl, H1.out.vars.cell 0 0 rfl rfl, H1.out.vars.cell 0 1 rfl rfl⟩) (fun hHeld => ?_)
    clear hK K
    (try simp only [Act.put, List.setIfInBounds_toArray, List.set_cons_zero, List.set_cons_succ])
    refine HeldT.ready (rs := [5]) (by decide +kernel) (by simp) ?_
    refine AllT.cons (o := Oper.mk (some 61) _ _ _ _ _) rfl (fun K hK => ?_) AllT.nil
    go_simp
    (go_at_call 55; refine (plplus_any nF nG oF oG lF cF lG cG (hiI (exts ((spanI (p.drop (j + 1)) lo hi d).1) ((spanI (p.drop (j + 1)) lo hi d).2) lo hi) 4) (dig p j * (d ^ (p.length - (j + 1)))) _ (H1.out.num 3 rfl) (H1.out.num 1 rfl) (by omega) (by omega)).mono ?_; rw [HSD.out.2]; rintro e y8 ⟨nK, oK, lK, cK, rfl, hs, ho, hb⟩; have H2 : Hid (Mem w y8 [(r12, [.bool nG, .slice oG lG cG]), (r10, [.bool nS, .slice oS lS cS]), (r9, [.bool nF, .slice oF lF cF]), (r8, [.bool nE, .slice oE lE cE]), (r7, [.bool n7, .slice o7 l7 c7]), (r6, [.bool n6, .slice o6 l6 c6]), (r5, [.bool n5, .slice o5 l5 c5]), (w.heap.size + 1, [.bool false, .slice none 0 0, .slice none 0 0, .bool false, .slice none 0 0, .slice none 0 0]), (w.heap.size, [.bool n1, .slice o1 l1 c1, .slice p1 m1 k1, .bool n2, .slice o2 l2 c2, .slice p2 m2 k2])] [(nH, oH, lH, cH, (spanI (p.drop j) lo hi d).1), (nK, oK, lK, cK, (spanI (p.drop j) lo hi d).2), (nS, oS, lS, cS, (d ^ (p.length - (j + 1)))), (n5, o5, l5, c5, lo), (n6, o6, l6, c6, hi), (n7, o7, l7, c7, d)]) := ((H1.out.later hb).push (ho.int hs)).only [1, 0, 5, 6, 7, 8]; clear hs ho hb)
    (try go_wp2_with fail)
    clear hHeld
    refine hK.out _ _ (by (try dsimp only); exact ⟨H2.out.vars.cell 3 0 rfl rfl, H2.out.vars.cell 3 1 rfl rfl, H2.out.vars.cell 2 0 rfl rfl, H2.out.vars.cell 2 1 rfl rfl, H2.out.vars.cell 0 0 rfl rfl, H2.out.vars.cell 0 1 rfl rfl⟩) (fun hHeld => ?_)
    clear hK K
    (try simp only [Act.put, List.setIfInBounds_toArray, List.set_cons_zero, List.set_cons_succ])
    have u0 := H2.out.vars.cell 3 0 rfl rfl
    have u1 := H2.out.vars.cell 3 1 rfl rfl
    have uf := H2.out.vars.soft 3 rfl
    have t0 := H2.out.vars.cell 2 0 rfl rfl
    have t1 := H2.out.vars.cell 2 1 rfl rfl
    have tf := H2.out.vars.soft 2 rfl
    have une := H2.out.vars.ne 3 2 rfl rfl (by decide)
    clear hHeld
    refine HeldT.ready (rs := [6]) (by decide +kernel) (by simp) ?_
    refine AllT.store (o := Oper.mk none _ _ _ _ _) rfl (by decide +kernel) (fun K hK => ?_) AllT.nil
    go_simp
    refine hK.out _ _ ?_
    clear hK K
    (try simp only [Act.put, List.setIfInBounds_toArray, List.set_cons_zero, List.set_cons_succ])
    refine HeldT.ready (rs := [7]) (by decide +kernel) (by simp) ?_
    refine AllT.store (o := Oper.mk none _ _ _ _ _) rfl (by decide +kernel) (fun K hK => ?_) AllT.nil
    go_simp
    refine hK.out _ _ ?_
    clear hK K
    (try simp only [Act.put, List.setIfInBounds_toArray, List.set_cons_zero, List.set_cons_succ])
    refine HeldT.done (by decide +kernel) ?_ _
    refine NoPanic.normal ?_
    obtain ⟨V8, hV8⟩ : ∃ V8, V8 = ((((y8.setCell ⟨r8, 0, none⟩ (.bool nH)).setCell ⟨r8, 1, none⟩ (.slice oH lH cH)).setCell ⟨r9, 0, none⟩ (.bool nK)).setCell ⟨r9, 1, none⟩ (.slice oK lK cK)) := ⟨_, rfl⟩
    have HV8 : Hid (Mem w V8 [(r10, [.bool nS, .slice oS lS cS]), (r9, [.bool nK, .slice oK lK cK]), (r8, [.bool nH, .slice oH lH cH]), (r7, [.bool n7, .slice o7 l7 c7]), (r6, [.bool n6, .slice o6 l6 c6]), (r5, [.bool n5, .slice o5 l5 c5]), (w.heap.size + 1, [.bool false, .slice none 0 0, .slice none 0 0, .bool false, .slice none 0 0, .slice none 0 0]), (w.heap.size, [.bool n1, .slice o1 l1 c1, .slice p1 m1 k1, .bool n2, .slice o2 l2 c2, .slice p2 m2 k2])] [(nH, oH, lH, cH, (spanI (p.drop j) lo hi d).1), (nK, oK, lK, cK, (spanI (p.drop j) lo hi d).2), (nS, oS, lS, cS, (d ^ (p.length - (j + 1)))), (n5, o5, l5, c5, lo), (n6, o6, l6, c6, hi), (n7, o7, l7, c7, d)]) := by
     rw [hV8]
     exact ((H2.out.put 3 rfl (.bool nH) (.slice oH lH cH)).put 2 rfl (.bool nK) (.slice oK lK cK)).less
    rw [← hV8]
    clear hV8 u0 u1 uf t0 t1 tf une H2 H1 HC
    by_cases hj : 0 < j
    ·
     have hjI : (0 : Int) < (j : Int) := by omega
     have t0 := HV8.out.vars.cell 0 0 rfl rfl
     have t1 := HV8.out.vars.cell 0 1 rfl rfl
     have t2 := HV8.out.vars.cell 3 0 rfl rfl
     have t3 := HV8.out.vars.cell 3 1 rfl rfl
     go_wp2_with (go_at_call 56; refine (pltimes_any nS n7 oS o7 lS cS l7 c7 (d ^ (p.length - (j + 1))) d V8 (HV8.out.num 2 rfl) (HV8.out.num 5 rfl) (by omega) (by omega)).mono ?_; rintro e w9 ⟨nT, oT, lT, cT, rfl, hs, ho, hb⟩; have H9 : Hid (Mem w w9 [(r10, [.bool nS, .slice oS lS cS]), (r9, [.bool nK, .slice oK lK cK]), (r8, [.bool nH, .slice oH lH cH]), (r7, [.bool n7, .slice o7 l7 c7]), (r6, [.bool n6, .slice o6 l6 c6]), (r5, [.bool n5, .slice o5 l5 c5]), (w.heap.size + 1, [.bool false, .slice none 0 0, .slice none 0 0, .bool false, .slice none 0 0, .slice none 0 0]), (w.heap.size, [.bool n1, .slice o1 l1 c1, .slice p1 m1 k1, .bool n2, .slice o2 l2 c2, .slice p2 m2 k2])] [(nH, oH, lH, cH, (spanI (p.drop j) lo hi d).1), (nK, oK, lK, cK, (spanI (p.drop j) lo hi d).2), (nT, oT, lT, cT, (d ^ (p.length - j))), (n5, o5, l5, c5, lo), (n6, o6, l6, c6, hi), (n7, o7, l7, c7, d)]) := (by have e : (d ^ (p.length - (j + 1))) * d = d ^ (p.length - j) := (by rw [← Int.pow_succ]; congr 1; have := HJ.out.2; omega); exact ((HV8.out.later hb).push (show IntAt w9 nT oT lT cT (d ^ (p.length - j)) by rw [← e]; exact ho.int hs)).only [1, 2, 0, 4, 5, 6]); clear hs ho hb t0 t1 t2 t3; have t0 := H9.out.vars.cell 0 0 rfl rfl; have t1 := H9.out.vars.cell 0 1 rfl rfl; have tf := H9.out.vars.soft 0 rfl)
     go_roundw
     case rel => exact ⟨j, by have := HJ.out.1; omega, by go_num, nH, oH, lH, cH, nK, oK, lK, cK, nT, oT, lT, cT, by rw [if_neg (by omega)]; exact H9.out.put 0 rfl (.bool nT) (.slice oT lT cT)⟩
     case measure => simp [intOf]
    ·
     have hjI : ¬ (0 : Int) < (j : Int) := by omega
     go_wp2
     go_roundw
     case rel => exact ⟨j, by have := HJ.out.1; omega, by go_num, nH, oH, lH, cH, nK, oK, lK, cK, nS, oS, lS, cS, by
      have e : p.length - 1 = p.length - (j + 1) := by omega
      rw [if_pos (by omega), e]
      exact HV8.out⟩
     case measure => simp [intOf]
end Go.Proofs.YthjkdnlbdhhmbaaGreatDoor
