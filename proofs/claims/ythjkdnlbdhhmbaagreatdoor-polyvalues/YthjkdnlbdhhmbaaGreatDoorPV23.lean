/-
  A pack of walks and facts: OD, OC, UH.
-/
import Derived.Test.YthjkdnlbdhhmbaaGreatDoorPV22
import Derived.Deep.DeepCutAuto
set_option maxRecDepth 100000
set_option maxHeartbeats 40000000
set_option linter.unusedVariables false
set_option linter.unusedSimpArgs false
namespace Go.Proofs.YthjkdnlbdhhmbaaGreatDoor
open Go.RowKit
structure Vars (w W : World) (L : List (Nat × List Value)) : Prop where
 below : Below w.heap.size w W
 box : ∀ (k r : Nat) (vs : List Value), L[k]? = some (r, vs) → Bx W r vs ∧ w.heap.size ≤ r ∧ r < W.heap.size
 apart : ∀ (k j r s : Nat) (vs us : List Value), L[k]? = some (r, vs) → L[j]? = some (s, us) → k ≠ j → r ≠ s
theorem Vars.nil (w : World) : Vars w w [] := ⟨Below.refl _ _, fun k r vs h => by simp at h, fun k j r s vs us h => by simp at h⟩
theorem Vars.later {w W W' : World} {L : List (Nat × List Value)} (h : Vars w W L) (hb : Below W.heap.size W W') : Vars w W' L :=
 ⟨bnext h.below hb, fun k r vs e => ⟨(h.box k r vs e).1.later hb (h.box k r vs e).2.2, (h.box k r vs e).2.1, Nat.lt_of_lt_of_le (h.box k r vs e).2.2 hb.size⟩, h.apart⟩
theorem Vars.alloc {w W : World} {L : List (Nat × List Value)} (h : Vars w W L) {r : Nat} (hr : r = W.heap.size) (A : List Value) (t : TypeId) : Vars w (W.alloc (.cells A.toArray t)) ((r, A) :: L) := by
 have hb : Below W.heap.size W (W.alloc (.cells A.toArray t)) := (Below.refl _ _).alloc (Nat.le_refl _) _
 refine ⟨bnext h.below hb, fun k s vs e => ?_, ?_⟩
 ·
  cases k with
  | zero =>
   cases e
   exact ⟨by rw [hr]; exact Bx.new _ _ _, by rw [hr]; exact h.below.size, by rw [hr]; simp⟩
  | succ k => exact (h.later hb).box k s vs (by simpa using e)
 ·
  intro k j a b vs us ek ej hne
  cases k with
  | zero =>
   cases j with
   | zero => exact absurd rfl hne
   | succ j =>
    cases ek
    have h2 := (h.box j b us (by simpa using ej)).2.2
    omega
  | succ k =>
   cases j with
   | zero =>
    cases ej
    have h2 := (h.box k a vs (by simpa using ek)).2.2
    omega
   | succ j => exact h.apart k j a b vs us (by simpa using ek) (by simpa using ej) (by omega)
theorem Vars.set {w W : World} {L : List (Nat × List Value)} (h : Vars w W L) (k i : Nat) {r : Nat} {vs : List Value} {x : Value} (hk : L[k]? = some (r, vs)) (hi : vs[i]? = some x) (v : Value) : Vars w (W.setCell ⟨r, i, none⟩ v) (L.set k (r, vs.set i v)) := by
 have h0 := h.box k r vs hk
 have hlk : k < L.length := (List.getElem?_eq_some_iff.1 hk).1
 refine ⟨below_set h.below h0.2.1, fun j s us e => ?_, ?_⟩
 ·
  by_cases ej : k = j
  ·
   subst ej
   rw [List.getElem?_set_self hlk] at e
   cases e
   exact ⟨h0.1.set1 hi, h0.2.1, by simpa using h0.2.2⟩
  ·
   rw [List.getElem?_set_ne ej] at e
   have h1 := h.box j s us e
   have hne : s ≠ r := h.apart j k s r us vs e hk (Ne.symm ej)
   exact ⟨h1.1.off (ws := [v]) hne i, h1.2.1, by simpa using h1.2.2⟩
 ·
  intro a b p q us ws ea eb hne
  have key : ∀ (m t : Nat) (ts : List Value), (L.set k (r, vs.set i v))[m]? = some (t, ts) → ∃ ts', L[m]? = some (t, ts') := fun m t ts em => by
   by_cases ej : k = m
   ·
    subst ej
    rw [List.getElem?_set_self hlk] at em
    cases em
    exact ⟨_, hk⟩
   ·
    rw [List.getElem?_set_ne ej] at em
    exact ⟨_, em⟩
  obtain ⟨u1, f1⟩ := key a p us ea
  obtain ⟨u2, f2⟩ := key b q ws eb
  exact h.apart a b p q u1 u2 f1 f2 hne
theorem Vars.cell {w W : World} {L : List (Nat × List Value)} (h : Vars w W L) (k i : Nat) {r : Nat} {vs : List Value} {x : Value} (hk : L[k]? = some (r, vs)) (hi : vs[i]? = some x) : W.cell? ⟨r, i, none⟩ = some x := (h.box k r vs hk).1.1 i x hi
theorem Vars.soft {w W : World} {L : List (Nat × List Value)} (h : Vars w W L) (k : Nat) {r : Nat} {vs : List Value} (hk : L[k]? = some (r, vs)) : ∀ j, W.frozen? ⟨r, j, none⟩ = false := (h.box k r vs hk).1.2
theorem Vars.lt {w W : World} {L : List (Nat × List Value)} (h : Vars w W L) (k : Nat) {r : Nat} {vs : List Value} (hk : L[k]? = some (r, vs)) : r < W.heap.size := (h.box k r vs hk).2.2
theorem Vars.ge {w W : World} {L : List (Nat × List Value)} (h : Vars w W L) (k : Nat) {r : Nat} {vs : List Value} (hk : L[k]? = some (r, vs)) : w.heap.size ≤ r := (h.box k r vs hk).2.1
theorem Vars.ne {w W : World} {L : List (Nat × List Value)} (h : Vars w W L) (k j : Nat) {r s : Nat} {vs us : List Value} (hk : L[k]? = some (r, vs)) (hj : L[j]? = some (s, us)) (e : k ≠ j) : r ≠ s := h.apart k j r s vs us hk hj e
theorem Vars.put {w W : World} {L : List (Nat × List Value)} (h : Vars w W L) (k : Nat) {r : Nat} {x y : Value} (hk : L[k]? = some (r, [x, y])) (u v : Value) : Vars w ((W.setCell ⟨r, 0, none⟩ u).setCell ⟨r, 1, none⟩ v) (L.set k (r, [u, v])) := by
 have hlk : k < L.length := (List.getElem?_eq_some_iff.1 hk).1
 have h1 := h.set k 0 hk rfl u
 have h2 := h1.set k 1 (r := r) (vs := [u, y]) (x := y) (by rw [List.getElem?_set_self hlk]; rfl) rfl v
 rw [List.set_set] at h2
 exact h2
theorem IntAt.put {w W : World} {L : List (Nat × List Value)} (h : Vars w W L) (k : Nat) {r : Nat} {x y : Value} (hk : L[k]? = some (r, [x, y])) (hx : ∀ z, x ≠ .int .u64 z) (hy : ∀ z, y ≠ .int .u64 z) {u v : Value} {n : Bool} {o : Option Addr} {l c : Nat} {z : Int} (hi : IntAt W n o l c z) : IntAt ((W.setCell ⟨r, 0, none⟩ u).setCell ⟨r, 1, none⟩ v) n o l c z :=
 (hi.cellKept (h.cell k 0 hk rfl) hx u).cellKept (u := y) (by rw [setCell_ne (fun q => by cases q.2)]; exact h.cell k 1 hk rfl) hy v
theorem Vars.swap {w W : World} {L : List (Nat × List Value)} {p q : Nat × List Value} (h : Vars w W (p :: q :: L)) : Vars w W (q :: p :: L) := by
 have key : ∀ (k r : Nat) (vs : List Value), (q :: p :: L)[k]? = some (r, vs) → (p :: q :: L)[if k = 0 then 1 else if k = 1 then 0 else k]? = some (r, vs) := fun k r vs e => by
  match k with
  | 0 => simpa using e
  | 1 => simpa using e
  | k + 2 => simpa using e
 exact ⟨h.below, fun k r vs e => h.box _ r vs (key k r vs e), fun k j r s vs us ek ej hne => h.apart _ _ r s vs us (key k r vs ek) (key j s us ej) (by
  match k, j, hne with
  | 0, 0, hne => exact absurd rfl hne
  | 0, 1, _ => simp
  | 0, j + 2, _ => simp
  | 1, 0, _ => simp
  | 1, 1, hne => exact absurd rfl hne
  | 1, j + 2, _ => simp
  | k + 2, 0, _ => simp
  | k + 2, 1, _ => simp
  | k + 2, j + 2, hne => simpa using hne)⟩
theorem len_lim {w : World} {n : Bool} {o : Option Addr} {l c K : Nat} {v : Int} (h : IntAt w n o l c v) (hv : lim v ≤ K) : l ≤ K := by rw [h.lim]; exact hv
def TokO (n : Nat) : Prop := True
theorem overOne_any (n1 n2 : Bool) (o1 p1 o2 p2 : Option Addr) (l1 c1 m1 k1 l2 c2 m2 k2 : Nat) (a b : Rat) (g : Nat) (w : World) (hx : RatAt w n1 o1 l1 c1 p1 m1 k1 a) (hy : RatAt w n2 o2 l2 c2 p2 m2 k2 b) (ha : Sz a 1000) (hb : Sz b 1000) (hg : g = Nat.gcd a.den b.den) (hT0 : TabAt 0 Lib.deBruijn64tab w) :
  Calls Tryz.prog 59 #[.agg #[.bool n1, .slice o1 l1 c1, .slice p1 m1 k1, .bool n2, .slice o2 l2 c2, .slice p2 m2 k2]] w fun e w' => ∃ nA oA lA cA nB oB lB cB nC oC lC cC, e = .returned (.tuple #[.agg #[.bool nA, .slice oA lA cA], .agg #[.bool nB, .slice oB lB cB], .agg #[.bool nC, .slice oC lC cC]]) ∧ IntAt w' nA oA lA cA (a.num * ((b.den : Int) / (g : Int))) ∧ IntAt w' nB oB lB cB (b.num * ((a.den : Int) / (g : Int))) ∧ IntAt w' nC oC lC cC ((a.den : Int) * ((b.den : Int) / (g : Int))) ∧ Below w.heap.size w w' := by
 obtain ⟨W, hW⟩ : ∃ W, W = (((w.alloc (.cells #[.bool n1, .slice o1 l1 c1, .slice p1 m1 k1, .bool n2, .slice o2 l2 c2, .slice p2 m2 k2] 32)).alloc (.cells #[.bool false, .slice none 0 0] 28)).alloc (.cells #[.bool false, .slice none 0 0] 28)).alloc (.cells #[.bool false, .slice none 0 0] 28) := ⟨_, rfl⟩
 have HWE : Hid (W = (((w.alloc (.cells #[.bool n1, .slice o1 l1 c1, .slice p1 m1 k1, .bool n2, .slice o2 l2 c2, .slice p2 m2 k2] 32)).alloc (.cells #[.bool false, .slice none 0 0] 28)).alloc (.cells #[.bool false, .slice none 0 0] 28)).alloc (.cells #[.bool false, .slice none 0 0] 28)) := hW
 have HV0 : Hid (Vars w W [(w.heap.size + 1 + 1 + 1, [.bool false, .slice none 0 0]), (w.heap.size + 1 + 1, [.bool false, .slice none 0 0]), (w.heap.size + 1, [.bool false, .slice none 0 0]), (w.heap.size, [.bool n1, .slice o1 l1 c1, .slice p1 m1 k1, .bool n2, .slice o2 l2 c2, .slice p2 m2 k2])]) := by
  rw [hW]
  exact ((((Vars.nil w).alloc rfl [.bool n1, .slice o1 l1 c1, .slice p1 m1 k1, .bool n2, .slice o2 l2 c2, .slice p2 m2 k2] _).alloc (by simp) [.bool false, .slice none 0 0] _).alloc (by simp) [.bool false, .slice none 0 0] _).alloc (by simp) [.bool false, .slice none 0 0] _
 have HI : Hid (RatAt w n1 o1 l1 c1 p1 m1 k1 a ∧ RatAt w n2 o2 l2 c2 p2 m2 k2 b ∧ TabAt 0 Lib.deBruijn64tab w) := ⟨hx, hy, hT0⟩
 have HLN : Hid (l1 ≤ 1000 ∧ m1 ≤ 1000 ∧ l2 ≤ 1000 ∧ m2 ≤ 1000) := ⟨(hx.len ha).1, (hx.len ha).2, (hy.len hb).1, (hy.len hb).2⟩
 have hg0 : 0 < g := by rw [hg]; exact Nat.gcd_pos_of_pos_left _ (Nat.pos_of_ne_zero a.den_nz)
 have HG : Hid (g = Nat.gcd a.den b.den ∧ 0 < g ∧ (mag g).length ≤ 1000 ∧ lim ((a.den : Int) / (g : Int)) ≤ 1000 ∧ lim ((b.den : Int) / (g : Int)) ≤ 1000) := by
  refine ⟨hg, hg0, Nat.le_trans (mag_len_mono ?_) ha.2, ?_, ?_⟩
  ·
   rw [hg]; exact Nat.gcd_le_left _ (Nat.pos_of_ne_zero a.den_nz)
  ·
   show (mag (((a.den / g : Nat) : Int)).natAbs).length ≤ 1000
   rw [Int.natAbs_natCast]
   exact Nat.le_trans (mag_len_mono (Nat.div_le_self a.den g)) ha.2
  ·
   show (mag (((b.den / g : Nat) : Int)).natAbs).length ≤ 1000
   rw [Int.natAbs_natCast]
   exact Nat.le_trans (mag_len_mono (Nat.div_le_self b.den g)) hb.2
 have a0 := HV0.out.cell 3 0 rfl rfl
 have a1 := HV0.out.cell 3 1 rfl rfl
 have a2 := HV0.out.cell 3 2 rfl rfl
 have a3 := HV0.out.cell 3 3 rfl rfl
 have a4 := HV0.out.cell 3 4 rfl rfl
 have a5 := HV0.out.cell 3 5 rfl rfl
 have alt := HV0.out.lt 3 rfl
 clear hW hx hy hT0 ha hb hg hg0
 go_enter Tryz.func59, Tryz.ntmps59
 go_wp2
 rw [← HWE.out]
 go_cut [5, 6] (fun s5 s6 wx => ∃ r5 r6, s5 = .pointer (some ⟨r5, 0, none⟩) ∧ s6 = .pointer (some ⟨r6, 0, none⟩) ∧ Hid (Vars w wx [(r6, [.bool false, .slice p2 m2 k2]), (r5, [.bool false, .slice p1 m1 k1]), (w.heap.size + 1 + 1 + 1, [.bool false, .slice none 0 0]), (w.heap.size + 1 + 1, [.bool false, .slice none 0 0]), (w.heap.size + 1, [.bool false, .slice none 0 0]), (w.heap.size, [.bool n1, .slice o1 l1 c1, .slice p1 m1 k1, .bool n2, .slice o2 l2 c2, .slice p2 m2 k2])]))
 case first =>
  go_region
  ·
   show Exit.then _ _ Exit.normal _ _
   go_wp2
   go_meet
   exact ⟨_, _, rfl, rfl, ((HV0.out.alloc rfl [.bool false, .slice p1 m1 k1] _).alloc (by simp) [.bool false, .slice p2 m2 k2] _).later (Below.refl _ _).drew⟩
  ·
   show Exit.then _ _ Exit.normal _ _
   go_wp2
   go_meet
   exact ⟨_, _, rfl, rfl, (((HV0.out.alloc rfl [.bool false, .slice p2 m2 k2] _).alloc (by simp) [.bool false, .slice p1 m1 k1] _).swap).later (Below.refl _ _).drew⟩
 case rest =>
  obtain ⟨r5, r6, rfl, rfl, HV⟩ := hcut
  clear a0 a1 a2 a3 a4 a5 alt HV0 HWE
  have f50 := HV.out.cell 1 0 rfl rfl
  have f51 := HV.out.cell 1 1 rfl rfl
  have f60 := HV.out.cell 0 0 rfl rfl
  have f61 := HV.out.cell 0 1 rfl rfl
  have T1 : TokO 1 := trivial
  go_wp2_with (first
   | (go_at_call 91; refine (bgcd_any false false p1 p2 m1 k1 m2 k2 (a.den : Int) (b.den : Int) _ (row_int (HI.out.1.den.later HV.out.below)) (row_int (HI.out.2.1.den.later HV.out.below)) (by have := HLN.out; omega) (by have := HLN.out; omega) (tab_later HI.out.2.2 HV.out.below)).mono ?_; rintro e w7 ⟨n7, o7, l7, c7, rfl, hs7, ho7, hb7⟩; have H7 : Hid (IntAt w7 n7 o7 l7 c7 (g : Int) ∧ Vars w w7 [(r6, [.bool false, .slice p2 m2 k2]), (r5, [.bool false, .slice p1 m1 k1]), (w.heap.size + 1 + 1 + 1, [.bool false, .slice none 0 0]), (w.heap.size + 1 + 1, [.bool false, .slice none 0 0]), (w.heap.size + 1, [.bool false, .slice none 0 0]), (w.heap.size, [.bool n1, .slice o1 l1 c1, .slice p1 m1 k1, .bool n2, .slice o2 l2 c2, .slice p2 m2 k2])]) := ⟨by rw [HG.out.1]; exact ho7.int hs7, HV.out.later hb7⟩; clear hs7 ho7 hb7 f50 f51 f60 f61; have f50 := H7.out.2.cell 1 0 rfl rfl; have f51 := H7.out.2.cell 1 1 rfl rfl; have plt := H7.out.2.lt 1 rfl)
   | (go_at_call 92; have _t := (T2 : TokO 2); obtain ⟨U2, hU2⟩ : ∃ U, U = (w9.alloc (.cells #[.bool n9, .slice o9 l9 c9] 28)).alloc (.cells #[.bool n10, .slice o10 l10 c10] 28) := ⟨_, rfl⟩; obtain ⟨r9, hr9⟩ : ∃ r9, r9 = w9.heap.size := ⟨_, rfl⟩; obtain ⟨r10, hr10⟩ : ∃ r10, r10 = w9.heap.size + 1 := ⟨_, rfl⟩; have hbU : Below w9.heap.size w9 U2 := (by rw [hU2]; exact bnext ((Below.refl _ _).alloc (Nat.le_refl _) _) ((Below.refl _ _).alloc (Nat.le_refl _) _)); have HU2 : Hid (Vars w U2 ((r10, [.bool n10, .slice o10 l10 c10]) :: (r9, [.bool n9, .slice o9 l9 c9]) :: (r7, [.bool n7, .slice o7 l7 c7]) :: [(r6, [.bool false, .slice p2 m2 k2]), (r5, [.bool false, .slice p1 m1 k1]), (w.heap.size + 1 + 1 + 1, [.bool false, .slice none 0 0]), (w.heap.size + 1 + 1, [.bool false, .slice none 0 0]), (w.heap.size + 1, [.bool false, .slice none 0 0]), (w.heap.size, [.bool n1, .slice o1 l1 c1, .slice p1 m1 k1, .bool n2, .slice o2 l2 c2, .slice p2 m2 k2])]) ∧ IntAt U2 n7 o7 l7 c7 (g : Int) ∧ IntAt U2 n9 o9 l9 c9 ((a.den : Int) / (g : Int))) := ⟨by rw [hU2]; exact (H9.out.2.2.alloc hr9 _ _).alloc (by rw [hr10]; simp) _ _, H9.out.2.1.later hbU, H9.out.1.later hbU⟩; rw [← hU2]; (try simp only [← hr10]); (try simp only [← hr9]); refine (bdivide_any false n7 p2 o7 m2 k2 l7 c7 (b.den : Int) (g : Int) U2 (row_int (HI.out.2.1.den.later HU2.out.1.below)) HU2.out.2.1 (by have := HLN.out; omega) (by have := len_lim HU2.out.2.1 (show lim (g : Int) ≤ 1000 from HG.out.2.2.1); omega) (by have := HG.out.2.1; omega)).mono ?_; rintro e w12 ⟨q, rr, hfl, n12, o12, l12, c12, n13, o13, l13, c13, rfl, hs12, ho12, hs13, ho13, hb12⟩; have H12 : Hid (IntAt w12 n12 o12 l12 c12 ((b.den : Int) / (g : Int)) ∧ IntAt w12 n9 o9 l9 c9 ((a.den : Int) / (g : Int)) ∧ Vars w w12 ((r10, [.bool n10, .slice o10 l10 c10]) :: (r9, [.bool n9, .slice o9 l9 c9]) :: (r7, [.bool n7, .slice o7 l7 c7]) :: [(r6, [.bool false, .slice p2 m2 k2]), (r5, [.bool false, .slice p1 m1 k1]), (w.heap.size + 1 + 1 + 1, [.bool false, .slice none 0 0]), (w.heap.size + 1 + 1, [.bool false, .slice none 0 0]), (w.heap.size + 1, [.bool false, .slice none 0 0]), (w.heap.size, [.bool n1, .slice o1 l1 c1, .slice p1 m1 k1, .bool n2, .slice o2 l2 c2, .slice p2 m2 k2])])) := ⟨by rw [← (hfl.pos (by have := HG.out.2.1; omega)).1]; exact ho12.int hs12, HU2.out.2.2.later hb12, HU2.out.1.later hb12⟩; clear hfl hs12 ho12 hs13 ho13 hb12 hU2 hr9 hr10 hbU f60 f61 f70 f71 plt plt7 T2 _t)
   | (go_at_call 92; have _t := (T1 : TokO 1); obtain ⟨U, hU⟩ : ∃ U, U = w7.alloc (.cells #[.bool n7, .slice o7 l7 c7] 28) := ⟨_, rfl⟩; obtain ⟨r7, hr7⟩ : ∃ r7, r7 = w7.heap.size := ⟨_, rfl⟩; have hbU : Below w7.heap.size w7 U := (by rw [hU]; exact (Below.refl _ _).alloc (Nat.le_refl _) _); have HU : Hid (Vars w U ((r7, [.bool n7, .slice o7 l7 c7]) :: [(r6, [.bool false, .slice p2 m2 k2]), (r5, [.bool false, .slice p1 m1 k1]), (w.heap.size + 1 + 1 + 1, [.bool false, .slice none 0 0]), (w.heap.size + 1 + 1, [.bool false, .slice none 0 0]), (w.heap.size + 1, [.bool false, .slice none 0 0]), (w.heap.size, [.bool n1, .slice o1 l1 c1, .slice p1 m1 k1, .bool n2, .slice o2 l2 c2, .slice p2 m2 k2])]) ∧ IntAt U n7 o7 l7 c7 (g : Int)) := ⟨by rw [hU]; exact H7.out.2.alloc hr7 _ _, H7.out.1.later hbU⟩; rw [← hU]; (try simp only [← hr7]); refine (bdivide_any false n7 p1 o7 m1 k1 l7 c7 (a.den : Int) (g : Int) U (row_int (HI.out.1.den.later HU.out.1.below)) HU.out.2 (by have := HLN.out; omega) (by have := len_lim HU.out.2 (show lim (g : Int) ≤ 1000 from HG.out.2.2.1); omega) (by have := HG.out.2.1; omega)).mono ?_; rintro e w9 ⟨q, rr, hfl, n9, o9, l9, c9, n10, o10, l10, c10, rfl, hs9, ho9, hs10, ho10, hb9⟩; have H9 : Hid (IntAt w9 n9 o9 l9 c9 ((a.den : Int) / (g : Int)) ∧ IntAt w9 n7 o7 l7 c7 (g : Int) ∧ Vars w w9 ((r7, [.bool n7, .slice o7 l7 c7]) :: [(r6, [.bool false, .slice p2 m2 k2]), (r5, [.bool false, .slice p1 m1 k1]), (w.heap.size + 1 + 1 + 1, [.bool false, .slice none 0 0]), (w.heap.size + 1 + 1, [.bool false, .slice none 0 0]), (w.heap.size + 1, [.bool false, .slice none 0 0]), (w.heap.size, [.bool n1, .slice o1 l1 c1, .slice p1 m1 k1, .bool n2, .slice o2 l2 c2, .slice p2 m2 k2])])) := ⟨by rw [← (hfl.pos (by have := HG.out.2.1; omega)).1]; exact ho9.int hs9, HU.out.2.later hb9, HU.out.1.later hb9⟩; clear hfl hs9 ho9 hs10 ho10 hb9 hU hr7 hbU f50 f51 plt T1 _t; have T2 : TokO 2 := trivial; have f60 := H9.out.2.2.cell 1 0 rfl rfl; have f61 := H9.out.2.2.cell 1 1 rfl rfl; have f70 := H9.out.2.2.cell 0 0 rfl rfl; have f71 := H9.out.2.2.cell 0 1 rfl rfl; have plt := H9.out.2.2.lt 1 rfl; have plt7 := H9.out.2.2.lt 0 rfl))
  obtain ⟨V, hV⟩ : ∃ V, V = (w12.alloc (.cells #[.bool n12, .slice o12 l12 c12] 28)).alloc (.cells #[.bool n13, .slice o13 l13 c13] 28) := ⟨_, rfl⟩
  obtain ⟨r12, hr12⟩ : ∃ r12, r12 = w12.heap.size := ⟨_, rfl⟩
  obtain ⟨r13, hr13⟩ : ∃ r13, r13 = w12.heap.size + 1 := ⟨_, rfl⟩
  have hbV : Below w12.heap.size w12 V := by rw [hV]; exact bnext ((Below.refl _ _).alloc (Nat.le_refl _) _) ((Below.refl _ _).alloc (Nat.le_refl _) _)
  have HZ : Hid (Vars w V [(r13, [.bool n13, .slice o13 l13 c13]), (r12, [.bool n12, .slice o12 l12 c12]), (r10, [.bool n10, .slice o10 l10 c10]), (r9, [.bool n9, .slice o9 l9 c9]), (r7, [.bool n7, .slice o7 l7 c7]), (r6, [.bool false, .slice p2 m2 k2]), (r5, [.bool false, .slice p1 m1 k1]), (w.heap.size + 1 + 1 + 1, [.bool false, .slice none 0 0]), (w.heap.size + 1 + 1, [.bool false, .slice none 0 0]), (w.heap.size + 1, [.bool false, .slice none 0 0]), (w.heap.size, [.bool n1, .slice o1 l1 c1, .slice p1 m1 k1, .bool n2, .slice o2 l2 c2, .slice p2 m2 k2])] ∧ IntAt V n12 o12 l12 c12 ((b.den : Int) / (g : Int)) ∧ IntAt V n9 o9 l9 c9 ((a.den : Int) / (g : Int))) := ⟨by rw [hV]; exact (H12.out.2.2.alloc hr12 _ _).alloc (by rw [hr13]; simp) _ _, H12.out.1.later hbV, H12.out.2.1.later hbV⟩
  rw [← hV]
  (try simp only [← hr13])
  (try simp only [← hr12])
  have hl12 : l12 ≤ 1000 := len_lim HZ.out.2.1 HG.out.2.2.2.2
  have hl9 : l9 ≤ 1000 := len_lim HZ.out.2.2 HG.out.2.2.2.1
  have hl1 : l1 ≤ 1000 := HLN.out.1
  have hl2 : l2 ≤ 1000 := HLN.out.2.2.1
  have hm1 : m1 ≤ 1000 := HLN.out.2.1
  clear hV hr12 hr13 hbV H12 H9 H7 HV
  refine wp_region_noPanic ?_
  refine wp_region_held_drew (S := fun w' => (w'.cell? ⟨w.heap.size, 0, none⟩ = some (.bool n1) ∧ w'.cell? ⟨w.heap.size, 1, none⟩ = some (.slice o1 l1 c1) ∧ w'.cell? ⟨w.heap.size, 3, none⟩ = some (.bool n2) ∧ w'.cell? ⟨w.heap.size, 4, none⟩ = some (.slice o2 l2 c2) ∧ w'.cell? ⟨r12, 0, none⟩ = some (.bool n12) ∧ w'.cell? ⟨r12, 1, none⟩ = some (.slice o12 l12 c12) ∧ w'.cell? ⟨r9, 0, none⟩ = some (.bool n9) ∧ w'.cell? ⟨r9, 1, none⟩ = some (.slice o9 l9 c9) ∧ w'.cell? ⟨r5, 0, none⟩ = some (.bool false) ∧ w'.cell? ⟨r5, 1, none⟩ = some (.slice p1 m1 k1))) (by kernel_rfl) (by (try dsimp only); exact (show _ from ⟨(HZ.out.1.later (Below.refl _ _).drew).cell 10 0 rfl rfl, (HZ.out.1.later (Below.refl _ _).drew).cell 10 1 rfl rfl, (HZ.out.1.later (Below.refl _ _).drew).cell 10 3 rfl rfl, (HZ.out.1.later (Below.refl _ _).drew).cell 10 4 rfl rfl, (HZ.out.1.later (Below.refl _ _).drew).cell 1 0 rfl rfl, (HZ.out.1.later (Below.refl _ _).drew).cell 1 1 rfl rfl, (HZ.out.1.later (Below.refl _ _).drew).cell 3 0 rfl rfl, (HZ.out.1.later (Below.refl _ _).drew).cell 3 1 rfl rfl, (HZ.out.1.later (Below.refl _ _).drew).cell 6 0 rfl rfl, (HZ.out.1.later (Below.refl _ _).drew).cell 6 1 rfl rfl⟩)) (fun hHeld => ?_)
  refine wpAnyH_take (i := 0) (oi := Oper.mk (some 43) _ _ _ _ _) (v := ?_) rfl (by decide +kernel) (by decide +kernel) (by decide +kernel) (fun _ _ _ h => h) (Or.inl ⟨by rfl, ?_⟩) (by assumption) ?_
  rotate_left
  ·
   (intro w hSw; (try dsimp only at hSw); go_simp <;> (try with_reducible rfl))
  (try simp only [Act.put, List.setIfInBounds_toArray, List.set_cons_zero, List.set_cons_succ])
  refine wpAnyH_take (i := 1) (oi := Oper.mk (some 44) _ _ _ _ _) (v := ?_) rfl (by decide +kernel) (by decide +kernel) (by decide +kernel) (fun _ _ _ h => h) (Or.inl ⟨by rfl, ?_⟩) (by assumption) ?_
  rotate_left
  ·
   (intro w hSw; (try dsimp only at hSw); go_simp <;> (try with_reducible rfl))
  (try simp only [Act.put, List.setIfInBounds_toArray, List.set_cons_zero, List.set_cons_succ])
  refine wpAnyH_take (i := 2) (oi := Oper.mk (some 45) _ _ _ _ _) (v := ?_) rfl (by decide +kernel) (by decide +kernel) (by decide +kernel) (fun _ _ _ h => h) (Or.inl ⟨by rfl, ?_⟩) (by assumption) ?_
  rotate_left
  ·
   (intro w hSw; (try dsimp only at hSw); go_simp <;> (try with_reducible rfl))
  (try simp only [Act.put, List.setIfInBounds_toArray, List.set_cons_zero, List.set_cons_succ])
  refine wpAnyH_take (i := 3) (oi := Oper.mk (some 46) _ _ _ _ _) (v := ?_) rfl (by decide +kernel) (by decide +kernel) (by decide +kernel) (fun _ _ _ h => h) (Or.inl ⟨by rfl, ?_⟩) (by assumption) ?_
  rotate_left
  ·
   (intro w hSw; (try dsimp only at hSw); go_simp <;> (try with_reducible rfl))
  (try simp only [Act.put, List.setIfInBounds_toArray, List.set_cons_zero, List.set_cons_succ])
  refine wpAnyH_take (i := 5) (oi := Oper.mk (some 48) _ _ _ _ _) (v := ?_) rfl (by decide +kernel) (by decide +kernel) (by decide +kernel) (fun _ _ _ h => h) (Or.inl ⟨by rfl, ?_⟩) (by assumption) ?_
  rotate_left
  ·
   (intro w hSw; (try dsimp only at hSw); go_simp <;> (try with_reducible rfl))
  (try simp only [Act.put, List.setIfInBounds_toArray, List.set_cons_zero, List.set_cons_succ])
  refine wpAnyH_take (i := 6) (oi := Oper.mk (some 49) _ _ _ _ _) (v := ?_) rfl (by decide +kernel) (by decide +kernel) (by decide +kernel) (fun _ _ _ h => h) (Or.inl ⟨by rfl, ?_⟩) (by assumption) ?_
  rotate_left
  ·
   (intro w hSw; (try dsimp only at hSw); go_simp <;> (try with_reducible rfl))
  (try simp only [Act.put, List.setIfInBounds_toArray, List.set_cons_zero, List.set_cons_succ])
  refine wpAnyH_take (i := 7) (oi := Oper.mk (some 50) _ _ _ _ _) (v := ?_) rfl (by decide +kernel) (by decide +kernel) (by decide +kernel) (fun _ _ _ h => h) (Or.inl ⟨by rfl, ?_⟩) (by assumption) ?_
  rotate_left
  ·
   (intro w hSw; (try dsimp only at hSw); go_simp <;> (try with_reducible rfl))
  (try simp only [Act.put, List.setIfInBounds_toArray, List.set_cons_zero, List.set_cons_succ])
  refine wpAnyH_take (i := 8) (oi := Oper.mk (some 51) _ _ _ _ _) (v := ?_) rfl (by decide +kernel) (by decide +kernel) (by decide +kernel) (fun _ _ _ h => h) (Or.inl ⟨by rfl, ?_⟩) (by assumption) ?_
  rotate_left
  ·
   (intro w hSw; (try dsimp only at hSw); go_simp <;> (try with_reducible rfl))
  (try simp only [Act.put, List.setIfInBounds_toArray, List.set_cons_zero, List.set_cons_succ])
  refine wpAnyH_take (i := 10) (oi := Oper.mk (some 53) _ _ _ _ _) (v := ?_) rfl (by decide +kernel) (by decide +kernel) (by decide +kernel) (fun _ _ _ h => h) (Or.inl ⟨by rfl, ?_⟩) (by assumption) ?_
  rotate_left
  ·
   (intro w hSw; (try dsimp only at hSw); go_simp <;> (try with_reducible rfl))
  (try simp only [Act.put, List.setIfInBounds_toArray, List.set_cons_zero, List.set_cons_succ])
  refine wpAnyH_take (i := 11) (oi := Oper.mk (some 54) _ _ _ _ _) (v := ?_) rfl (by decide +kernel) (by decide +kernel) (by decide +kernel) (fun _ _ _ h => h) (Or.inl ⟨by rfl, ?_⟩) (by assumption) ?_
  rotate_left
  ·
   (intro w hSw; (try dsimp only at hSw); go_simp <;> (try with_reducible rfl))
  (try simp only [Act.put, List.setIfInBounds_toArray, List.set_cons_zero, List.set_cons_succ])
  refine wpAnyH_ready (rs := [4]) (by decide +kernel) (by simp) ?_
  refine AllReadyH.cons (o := Oper.mk (some 47) _ _ _ _ _) rfl (fun K hK => ?_) AllReadyH.nil
  go_simp
  (go_at_call 56; refine (pltimes_any n1 n12 o1 o12 l1 c1 l12 c12 a.num ((b.den : Int) / (g : Int)) _ ((HI.out.1.num.later HZ.out.1.below).later (Below.refl _ _).drew) (HZ.out.2.1.later (Below.refl _ _).drew) (by omega) (by omega)).mono ?_; rintro e z1 ⟨nA, oA, lA, cA, rfl, hs, ho, hb'⟩; have hb : Below V.heap.size V z1 := bnext (Below.refl _ _).drew hb'; have HZ1 : Hid (Vars w z1 [(r13, [.bool n13, .slice o13 l13 c13]), (r12, [.bool n12, .slice o12 l12 c12]), (r10, [.bool n10, .slice o10 l10 c10]), (r9, [.bool n9, .slice o9 l9 c9]), (r7, [.bool n7, .slice o7 l7 c7]), (r6, [.bool false, .slice p2 m2 k2]), (r5, [.bool false, .slice p1 m1 k1]), (w.heap.size + 1 + 1 + 1, [.bool false, .slice none 0 0]), (w.heap.size + 1 + 1, [.bool false, .slice none 0 0]), (w.heap.size + 1, [.bool false, .slice none 0 0]), (w.heap.size, [.bool n1, .slice o1 l1 c1, .slice p1 m1 k1, .bool n2, .slice o2 l2 c2, .slice p2 m2 k2])] ∧ IntAt z1 n12 o12 l12 c12 ((b.den : Int) / (g : Int)) ∧ IntAt z1 n9 o9 l9 c9 ((a.den : Int) / (g : Int)) ∧ IntAt z1 nA oA lA cA (a.num * ((b.den : Int) / (g : Int)))) := ⟨HZ.out.1.later hb, HZ.out.2.1.later hb, HZ.out.2.2.later hb, ho.int hs⟩; clear hs ho hb hb')
  (try go_wp2_with fail)
  clear hHeld
  refine hK.out _ _ (by (try dsimp only); exact ⟨HZ1.out.1.cell 10 0 rfl rfl, HZ1.out.1.cell 10 1 rfl rfl, HZ1.out.1.cell 10 3 rfl rfl, HZ1.out.1.cell 10 4 rfl rfl, HZ1.out.1.cell 1 0 rfl rfl, HZ1.out.1.cell 1 1 rfl rfl, HZ1.out.1.cell 3 0 rfl rfl, HZ1.out.1.cell 3 1 rfl rfl, HZ1.out.1.cell 6 0 rfl rfl, HZ1.out.1.cell 6 1 rfl rfl⟩) (fun hHeld => ?_)
  clear hK K
  (try simp only [Act.put, List.setIfInBounds_toArray, List.set_cons_zero, List.set_cons_succ])
  refine wpAnyH_ready (rs := [9]) (by decide +kernel) (by simp) ?_
  refine AllReadyH.cons (o := Oper.mk (some 52) _ _ _ _ _) rfl (fun K hK => ?_) AllReadyH.nil
  go_simp
  (go_at_call 56; refine (pltimes_any n2 n9 o2 o9 l2 c2 l9 c9 b.num ((a.den : Int) / (g : Int)) _ (HI.out.2.1.num.later HZ1.out.1.below) HZ1.out.2.2.1 (by omega) (by omega)).mono ?_; rintro e z2 ⟨nB, oB, lB, cB, rfl, hs, ho, hb'⟩; have hb : Below z1.heap.size z1 z2 := hb'; have HZ2 : Hid (Vars w z2 [(r13, [.bool n13, .slice o13 l13 c13]), (r12, [.bool n12, .slice o12 l12 c12]), (r10, [.bool n10, .slice o10 l10 c10]), (r9, [.bool n9, .slice o9 l9 c9]), (r7, [.bool n7, .slice o7 l7 c7]), (r6, [.bool false, .slice p2 m2 k2]), (r5, [.bool false, .slice p1 m1 k1]), (w.heap.size + 1 + 1 + 1, [.bool false, .slice none 0 0]), (w.heap.size + 1 + 1, [.bool false, .slice none 0 0]), (w.heap.size + 1, [.bool false, .slice none 0 0]), (w.heap.size, [.bool n1, .slice o1 l1 c1, .slice p1 m1 k1, .bool n2, .slice o2 l2 c2, .slice p2 m2 k2])] ∧ IntAt z2 n12 o12 l12 c12 ((b.den : Int) / (g : Int)) ∧ IntAt z2 n9 o9 l9 c9 ((a.den : Int) / (g : Int)) ∧ IntAt z2 nA oA lA cA (a.num * ((b.den : Int) / (g : Int))) ∧ IntAt z2 nB oB lB cB (b.num * ((a.den : Int) / (g : Int)))) := ⟨HZ1.out.1.later hb, HZ1.out.2.1.later hb, HZ1.out.2.2.1.later hb, HZ1.out.2.2.2.later hb, ho.int hs⟩; clear hs ho hb hb')
  (try go_wp2_with fail)
  clear hHeld
  refine hK.out _ _ (by (try dsimp only); exact ⟨HZ2.out.1.cell 10 0 rfl rfl, HZ2.out.1.cell 10 1 rfl rfl, HZ2.out.1.cell 10 3 rfl rfl, HZ2.out.1.cell 10 4 rfl rfl, HZ2.out.1.cell 1 0 rfl rfl, HZ2.out.1.cell 1 1 rfl rfl, HZ2.out.1.cell 3 0 rfl rfl, HZ2.out.1.cell 3 1 rfl rfl, HZ2.out.1.cell 6 0 rfl rfl, HZ2.out.1.cell 6 1 rfl rfl⟩) (fun hHeld => ?_)
  clear hK K
  (try simp only [Act.put, List.setIfInBounds_toArray, List.set_cons_zero, List.set_cons_succ])
  refine wpAnyH_ready (rs := [12]) (by decide +kernel) (by simp) ?_
  refine AllReadyH.cons (o := Oper.mk (some 55) _ _ _ _ _) rfl (fun K hK => ?_) AllReadyH.nil
  go_simp
  (go_at_call 56; refine (pltimes_any false n12 p1 o12 m1 k1 l12 c12 (a.den : Int) ((b.den : Int) / (g : Int)) _ ((row_int HI.out.1.den).later HZ2.out.1.below) HZ2.out.2.1 (by omega) (by omega)).mono ?_; rintro e z3 ⟨nC, oC, lC, cC, rfl, hs, ho, hb'⟩; have hb : Below z2.heap.size z2 z3 := hb'; have HZ3 : Hid (Vars w z3 [(r13, [.bool n13, .slice o13 l13 c13]), (r12, [.bool n12, .slice o12 l12 c12]), (r10, [.bool n10, .slice o10 l10 c10]), (r9, [.bool n9, .slice o9 l9 c9]), (r7, [.bool n7, .slice o7 l7 c7]), (r6, [.bool false, .slice p2 m2 k2]), (r5, [.bool false, .slice p1 m1 k1]), (w.heap.size + 1 + 1 + 1, [.bool false, .slice none 0 0]), (w.heap.size + 1 + 1, [.bool false, .slice none 0 0]), (w.heap.size + 1, [.bool false, .slice none 0 0]), (w.heap.size, [.bool n1, .slice o1 l1 c1, .slice p1 m1 k1, .bool n2, .slice o2 l2 c2, .slice p2 m2 k2])] ∧ IntAt z3 n12 o12 l12 c12 ((b.den : Int) / (g : Int)) ∧ IntAt z3 n9 o9 l9 c9 ((a.den : Int) / (g : Int)) ∧ IntAt z3 nA oA lA cA (a.num * ((b.den : Int) / (g : Int))) ∧ IntAt z3 nB oB lB cB (b.num * ((a.den : Int) / (g : Int))) ∧ IntAt z3 nC oC lC cC ((a.den : Int) * ((b.den : Int) / (g : Int)))) := ⟨HZ2.out.1.later hb, HZ2.out.2.1.later hb, HZ2.out.2.2.1.later hb, HZ2.out.2.2.2.1.later hb, HZ2.out.2.2.2.2.later hb, ho.int hs⟩; clear hs ho hb hb')
  (try go_wp2_with fail)
  clear hHeld
  refine hK.out _ _ (by (try dsimp only); exact ⟨HZ3.out.1.cell 10 0 rfl rfl, HZ3.out.1.cell 10 1 rfl rfl, HZ3.out.1.cell 10 3 rfl rfl, HZ3.out.1.cell 10 4 rfl rfl, HZ3.out.1.cell 1 0 rfl rfl, HZ3.out.1.cell 1 1 rfl rfl, HZ3.out.1.cell 3 0 rfl rfl, HZ3.out.1.cell 3 1 rfl rfl, HZ3.out.1.cell 6 0 rfl rfl, HZ3.out.1.cell 6 1 rfl rfl⟩) (fun hHeld => ?_)
  clear hK K
  (try simp only [Act.put, List.setIfInBounds_toArray, List.set_cons_zero, List.set_cons_succ])
  have y0 := HZ3.out.1.cell 9 0 rfl rfl
  have y1 := HZ3.out.1.cell 9 1 rfl rfl
  have yf := HZ3.out.1.soft 9 rfl
  have HZ4' : Hid (Vars w ((z3.setCell ⟨w.heap.size + 1, 0, none⟩ (.bool nA)).setCell ⟨w.heap.size + 1, 1, none⟩ (.slice oA lA cA)) [(r13, [.bool n13, .slice o13 l13 c13]), (r12, [.bool n12, .slice o12 l12 c12]), (r10, [.bool n10, .slice o10 l10 c10]), (r9, [.bool n9, .slice o9 l9 c9]), (r7, [.bool n7, .slice o7 l7 c7]), (r6, [.bool false, .slice p2 m2 k2]), (r5, [.bool false, .slice p1 m1 k1]), (w.heap.size + 1 + 1 + 1, [.bool false, .slice none 0 0]), (w.heap.size + 1 + 1, [.bool false, .slice none 0 0]), (w.heap.size + 1, [.bool nA, .slice oA lA cA]), (w.heap.size, [.bool n1, .slice o1 l1 c1, .slice p1 m1 k1, .bool n2, .slice o2 l2 c2, .slice p2 m2 k2])] ∧ IntAt ((z3.setCell ⟨w.heap.size + 1, 0, none⟩ (.bool nA)).setCell ⟨w.heap.size + 1, 1, none⟩ (.slice oA lA cA)) n12 o12 l12 c12 ((b.den : Int) / (g : Int)) ∧ IntAt ((z3.setCell ⟨w.heap.size + 1, 0, none⟩ (.bool nA)).setCell ⟨w.heap.size + 1, 1, none⟩ (.slice oA lA cA)) n9 o9 l9 c9 ((a.den : Int) / (g : Int)) ∧ IntAt ((z3.setCell ⟨w.heap.size + 1, 0, none⟩ (.bool nA)).setCell ⟨w.heap.size + 1, 1, none⟩ (.slice oA lA cA)) nA oA lA cA (a.num * ((b.den : Int) / (g : Int))) ∧ IntAt ((z3.setCell ⟨w.heap.size + 1, 0, none⟩ (.bool nA)).setCell ⟨w.heap.size + 1, 1, none⟩ (.slice oA lA cA)) nB oB lB cB (b.num * ((a.den : Int) / (g : Int))) ∧ IntAt ((z3.setCell ⟨w.heap.size + 1, 0, none⟩ (.bool nA)).setCell ⟨w.heap.size + 1, 1, none⟩ (.slice oA lA cA)) nC oC lC cC ((a.den : Int) * ((b.den : Int) / (g : Int)))) := ⟨HZ3.out.1.put 9 rfl _ _, IntAt.put HZ3.out.1 9 rfl (fun z e => by cases e) (fun z e => by cases e) HZ3.out.2.1, IntAt.put HZ3.out.1 9 rfl (fun z e => by cases e) (fun z e => by cases e) HZ3.out.2.2.1, IntAt.put HZ3.out.1 9 rfl (fun z e => by cases e) (fun z e => by cases e) HZ3.out.2.2.2.1, IntAt.put HZ3.out.1 9 rfl (fun z e => by cases e) (fun z e => by cases e) HZ3.out.2.2.2.2.1, IntAt.put HZ3.out.1 9 rfl (fun z e => by cases e) (fun z e => by cases e) HZ3.out.2.2.2.2.2⟩
  refine wpAnyH_ready (rs := [13]) (by decide +kernel) (by simp) ?_
  refine AllReadyH.cons (o := Oper.mk none _ _ _ _ _) rfl (fun K hK => ?_) AllReadyH.nil
  go_simp
  clear hHeld
  refine hK.out _ _ (by (try dsimp only); exact ⟨HZ4'.out.1.cell 10 0 rfl rfl, HZ4'.out.1.cell 10 1 rfl rfl, HZ4'.out.1.cell 10 3 rfl rfl, HZ4'.out.1.cell 10 4 rfl rfl, HZ4'.out.1.cell 1 0 rfl rfl, HZ4'.out.1.cell 1 1 rfl rfl, HZ4'.out.1.cell 3 0 rfl rfl, HZ4'.out.1.cell 3 1 rfl rfl, HZ4'.out.1.cell 6 0 rfl rfl, HZ4'.out.1.cell 6 1 rfl rfl⟩) (fun hHeld => ?_)
  clear hK K
  (try simp only [Act.put, List.setIfInBounds_toArray, List.set_cons_zero, List.set_cons_succ])
  clear y0 y1 yf
  obtain ⟨z4, hz4⟩ : ∃ zz, zz = (z3.setCell ⟨w.heap.size + 1, 0, none⟩ (.bool nA)).setCell ⟨w.heap.size + 1, 1, none⟩ (.slice oA lA cA) := ⟨_, rfl⟩
  rw [← hz4]
  rw [← hz4] at HZ4'
  have HZ4 : Hid (Vars w z4 [(r13, [.bool n13, .slice o13 l13 c13]), (r12, [.bool n12, .slice o12 l12 c12]), (r10, [.bool n10, .slice o10 l10 c10]), (r9, [.bool n9, .slice o9 l9 c9]), (r7, [.bool n7, .slice o7 l7 c7]), (r6, [.bool false, .slice p2 m2 k2]), (r5, [.bool false, .slice p1 m1 k1]), (w.heap.size + 1 + 1 + 1, [.bool false, .slice none 0 0]), (w.heap.size + 1 + 1, [.bool false, .slice none 0 0]), (w.heap.size + 1, [.bool nA, .slice oA lA cA]), (w.heap.size, [.bool n1, .slice o1 l1 c1, .slice p1 m1 k1, .bool n2, .slice o2 l2 c2, .slice p2 m2 k2])] ∧ IntAt z4 n12 o12 l12 c12 ((b.den : Int) / (g : Int)) ∧ IntAt z4 n9 o9 l9 c9 ((a.den : Int) / (g : Int)) ∧ IntAt z4 nA oA lA cA (a.num * ((b.den : Int) / (g : Int))) ∧ IntAt z4 nB oB lB cB (b.num * ((a.den : Int) / (g : Int))) ∧ IntAt z4 nC oC lC cC ((a.den : Int) * ((b.den : Int) / (g : Int)))) := HZ4'
  clear HZ4' hz4
  have y0 := HZ4.out.1.cell 8 0 rfl rfl
  have y1 := HZ4.out.1.cell 8 1 rfl rfl
  have yf := HZ4.out.1.soft 8 rfl
  have HZ5' : Hid (Vars w ((z4.setCell ⟨w.heap.size + 1 + 1, 0, none⟩ (.bool nB)).setCell ⟨w.heap.size + 1 + 1, 1, none⟩ (.slice oB lB cB)) [(r13, [.bool n13, .slice o13 l13 c13]), (r12, [.bool n12, .slice o12 l12 c12]), (r10, [.bool n10, .slice o10 l10 c10]), (r9, [.bool n9, .slice o9 l9 c9]), (r7, [.bool n7, .slice o7 l7 c7]), (r6, [.bool false, .slice p2 m2 k2]), (r5, [.bool false, .slice p1 m1 k1]), (w.heap.size + 1 + 1 + 1, [.bool false, .slice none 0 0]), (w.heap.size + 1 + 1, [.bool nB, .slice oB lB cB]), (w.heap.size + 1, [.bool nA, .slice oA lA cA]), (w.heap.size, [.bool n1, .slice o1 l1 c1, .slice p1 m1 k1, .bool n2, .slice o2 l2 c2, .slice p2 m2 k2])] ∧ IntAt ((z4.setCell ⟨w.heap.size + 1 + 1, 0, none⟩ (.bool nB)).setCell ⟨w.heap.size + 1 + 1, 1, none⟩ (.slice oB lB cB)) n12 o12 l12 c12 ((b.den : Int) / (g : Int)) ∧ IntAt ((z4.setCell ⟨w.heap.size + 1 + 1, 0, none⟩ (.bool nB)).setCell ⟨w.heap.size + 1 + 1, 1, none⟩ (.slice oB lB cB)) n9 o9 l9 c9 ((a.den : Int) / (g : Int)) ∧ IntAt ((z4.setCell ⟨w.heap.size + 1 + 1, 0, none⟩ (.bool nB)).setCell ⟨w.heap.size + 1 + 1, 1, none⟩ (.slice oB lB cB)) nA oA lA cA (a.num * ((b.den : Int) / (g : Int))) ∧ IntAt ((z4.setCell ⟨w.heap.size + 1 + 1, 0, none⟩ (.bool nB)).setCell ⟨w.heap.size + 1 + 1, 1, none⟩ (.slice oB lB cB)) nB oB lB cB (b.num * ((a.den : Int) / (g : Int))) ∧ IntAt ((z4.setCell ⟨w.heap.size + 1 + 1, 0, none⟩ (.bool nB)).setCell ⟨w.heap.size + 1 + 1, 1, none⟩ (.slice oB lB cB)) nC oC lC cC ((a.den : Int) * ((b.den : Int) / (g : Int)))) := ⟨HZ4.out.1.put 8 rfl _ _, IntAt.put HZ4.out.1 8 rfl (fun z e => by cases e) (fun z e => by cases e) HZ4.out.2.1, IntAt.put HZ4.out.1 8 rfl (fun z e => by cases e) (fun z e => by cases e) HZ4.out.2.2.1, IntAt.put HZ4.out.1 8 rfl (fun z e => by cases e) (fun z e => by cases e) HZ4.out.2.2.2.1, IntAt.put HZ4.out.1 8 rfl (fun z e => by cases e) (fun z e => by cases e) HZ4.out.2.2.2.2.1, IntAt.put HZ4.out.1 8 rfl (fun z e => by cases e) (fun z e => by cases e) HZ4.out.2.2.2.2.2⟩
  refine wpAnyH_ready (rs := [14]) (by decide +kernel) (by simp) ?_
  refine AllReadyH.cons (o := Oper.mk none _ _ _ _ _) rfl (fun K hK => ?_) AllReadyH.nil
  go_simp
  clear hHeld
  refine hK.out _ _ (by (try dsimp only); exact ⟨HZ5'.out.1.cell 10 0 rfl rfl, HZ5'.out.1.cell 10 1 rfl rfl, HZ5'.out.1.cell 10 3 rfl rfl, HZ5'.out.1.cell 10 4 rfl rfl, HZ5'.out.1.cell 1 0 rfl rfl, HZ5'.out.1.cell 1 1 rfl rfl, HZ5'.out.1.cell 3 0 rfl rfl, HZ5'.out.1.cell 3 1 rfl rfl, HZ5'.out.1.cell 6 0 rfl rfl, HZ5'.out.1.cell 6 1 rfl rfl⟩) (fun hHeld => ?_)
  clear hK K
  (try simp only [Act.put, List.setIfInBounds_toArray, List.set_cons_zero, List.set_cons_succ])
  clear y0 y1 yf
  obtain ⟨z5, hz5⟩ : ∃ zz, zz = (z4.setCell ⟨w.heap.size + 1 + 1, 0, none⟩ (.bool nB)).setCell ⟨w.heap.size + 1 + 1, 1, none⟩ (.slice oB lB cB) := ⟨_, rfl⟩
  rw [← hz5]
  rw [← hz5] at HZ5'
  have HZ5 : Hid (Vars w z5 [(r13, [.bool n13, .slice o13 l13 c13]), (r12, [.bool n12, .slice o12 l12 c12]), (r10, [.bool n10, .slice o10 l10 c10]), (r9, [.bool n9, .slice o9 l9 c9]), (r7, [.bool n7, .slice o7 l7 c7]), (r6, [.bool false, .slice p2 m2 k2]), (r5, [.bool false, .slice p1 m1 k1]), (w.heap.size + 1 + 1 + 1, [.bool false, .slice none 0 0]), (w.heap.size + 1 + 1, [.bool nB, .slice oB lB cB]), (w.heap.size + 1, [.bool nA, .slice oA lA cA]), (w.heap.size, [.bool n1, .slice o1 l1 c1, .slice p1 m1 k1, .bool n2, .slice o2 l2 c2, .slice p2 m2 k2])] ∧ IntAt z5 n12 o12 l12 c12 ((b.den : Int) / (g : Int)) ∧ IntAt z5 n9 o9 l9 c9 ((a.den : Int) / (g : Int)) ∧ IntAt z5 nA oA lA cA (a.num * ((b.den : Int) / (g : Int))) ∧ IntAt z5 nB oB lB cB (b.num * ((a.den : Int) / (g : Int))) ∧ IntAt z5 nC oC lC cC ((a.den : Int) * ((b.den : Int) / (g : Int)))) := HZ5'
  clear HZ5' hz5
  have y0 := HZ5.out.1.cell 7 0 rfl rfl
  have y1 := HZ5.out.1.cell 7 1 rfl rfl
  have yf := HZ5.out.1.soft 7 rfl
  have HZ6' : Hid (Vars w ((z5.setCell ⟨w.heap.size + 1 + 1 + 1, 0, none⟩ (.bool nC)).setCell ⟨w.heap.size + 1 + 1 + 1, 1, none⟩ (.slice oC lC cC)) [(r13, [.bool n13, .slice o13 l13 c13]), (r12, [.bool n12, .slice o12 l12 c12]), (r10, [.bool n10, .slice o10 l10 c10]), (r9, [.bool n9, .slice o9 l9 c9]), (r7, [.bool n7, .slice o7 l7 c7]), (r6, [.bool false, .slice p2 m2 k2]), (r5, [.bool false, .slice p1 m1 k1]), (w.heap.size + 1 + 1 + 1, [.bool nC, .slice oC lC cC]), (w.heap.size + 1 + 1, [.bool nB, .slice oB lB cB]), (w.heap.size + 1, [.bool nA, .slice oA lA cA]), (w.heap.size, [.bool n1, .slice o1 l1 c1, .slice p1 m1 k1, .bool n2, .slice o2 l2 c2, .slice p2 m2 k2])] ∧ IntAt ((z5.setCell ⟨w.heap.size + 1 + 1 + 1, 0, none⟩ (.bool nC)).setCell ⟨w.heap.size + 1 + 1 + 1, 1, none⟩ (.slice oC lC cC)) n12 o12 l12 c12 ((b.den : Int) / (g : Int)) ∧ IntAt ((z5.setCell ⟨w.heap.size + 1 + 1 + 1, 0, none⟩ (.bool nC)).setCell ⟨w.heap.size + 1 + 1 + 1, 1, none⟩ (.slice oC lC cC)) n9 o9 l9 c9 ((a.den : Int) / (g : Int)) ∧ IntAt ((z5.setCell ⟨w.heap.size + 1 + 1 + 1, 0, none⟩ (.bool nC)).setCell ⟨w.heap.size + 1 + 1 + 1, 1, none⟩ (.slice oC lC cC)) nA oA lA cA (a.num * ((b.den : Int) / (g : Int))) ∧ IntAt ((z5.setCell ⟨w.heap.size + 1 + 1 + 1, 0, none⟩ (.bool nC)).setCell ⟨w.heap.size + 1 + 1 + 1, 1, none⟩ (.slice oC lC cC)) nB oB lB cB (b.num * ((a.den : Int) / (g : Int))) ∧ IntAt ((z5.setCell ⟨w.heap.size + 1 + 1 + 1, 0, none⟩ (.bool nC)).setCell ⟨w.heap.size + 1 + 1 + 1, 1, none⟩ (.slice oC lC cC)) nC oC lC cC ((a.den : Int) * ((b.den : Int) / (g : Int)))) := ⟨HZ5.out.1.put 7 rfl _ _, IntAt.put HZ5.out.1 7 rfl (fun z e => by cases e) (fun z e => by cases e) HZ5.out.2.1, IntAt.put HZ5.out.1 7 rfl (fun z e => by cases e) (fun z e => by cases e) HZ5.out.2.2.1, IntAt.put HZ5.out.1 7 rfl (fun z e => by cases e) (fun z e => by cases e) HZ5.out.2.2.2.1, IntAt.put HZ5.out.1 7 rfl (fun z e => by cases e) (fun z e => by cases e) HZ5.out.2.2.2.2.1, IntAt.put HZ5.out.1 7 rfl (fun z e => by cases e) (fun z e => by cases e) HZ5.out.2.2.2.2.2⟩
  refine wpAnyH_ready (rs := [15]) (by decide +kernel) (by simp) ?_
  refine AllReadyH.cons (o := Oper.mk none _ _ _ _ _) rfl (fun K hK => ?_) AllReadyH.nil
  go_simp
  clear hHeld
  refine hK.out _ _ (by (try dsimp only); exact ⟨HZ6'.out.1.cell 10 0 rfl rfl, HZ6'.out.1.cell 10 1 rfl rfl, HZ6'.out.1.cell 10 3 rfl rfl, HZ6'.out.1.cell 10 4 rfl rfl, HZ6'.out.1.cell 1 0 rfl rfl, HZ6'.out.1.cell 1 1 rfl rfl, HZ6'.out.1.cell 3 0 rfl rfl, HZ6'.out.1.cell 3 1 rfl rfl, HZ6'.out.1.cell 6 0 rfl rfl, HZ6'.out.1.cell 6 1 rfl rfl⟩) (fun hHeld => ?_)
  clear hK K
  (try simp only [Act.put, List.setIfInBounds_toArray, List.set_cons_zero, List.set_cons_succ])
  clear y0 y1 yf
  obtain ⟨z6, hz6⟩ : ∃ zz, zz = (z5.setCell ⟨w.heap.size + 1 + 1 + 1, 0, none⟩ (.bool nC)).setCell ⟨w.heap.size + 1 + 1 + 1, 1, none⟩ (.slice oC lC cC) := ⟨_, rfl⟩
  rw [← hz6]
  rw [← hz6] at HZ6'
  have HZ6 : Hid (Vars w z6 [(r13, [.bool n13, .slice o13 l13 c13]), (r12, [.bool n12, .slice o12 l12 c12]), (r10, [.bool n10, .slice o10 l10 c10]), (r9, [.bool n9, .slice o9 l9 c9]), (r7, [.bool n7, .slice o7 l7 c7]), (r6, [.bool false, .slice p2 m2 k2]), (r5, [.bool false, .slice p1 m1 k1]), (w.heap.size + 1 + 1 + 1, [.bool nC, .slice oC lC cC]), (w.heap.size + 1 + 1, [.bool nB, .slice oB lB cB]), (w.heap.size + 1, [.bool nA, .slice oA lA cA]), (w.heap.size, [.bool n1, .slice o1 l1 c1, .slice p1 m1 k1, .bool n2, .slice o2 l2 c2, .slice p2 m2 k2])] ∧ IntAt z6 n12 o12 l12 c12 ((b.den : Int) / (g : Int)) ∧ IntAt z6 n9 o9 l9 c9 ((a.den : Int) / (g : Int)) ∧ IntAt z6 nA oA lA cA (a.num * ((b.den : Int) / (g : Int))) ∧ IntAt z6 nB oB lB cB (b.num * ((a.den : Int) / (g : Int))) ∧ IntAt z6 nC oC lC cC ((a.den : Int) * ((b.den : Int) / (g : Int)))) := HZ6'
  clear HZ6' hz6
  refine wpAnyH_done (by decide +kernel) ?_ _
  refine NoPanic.normal ?_
  clear hHeld
  go_wp2
  have p0 := HZ6.out.1.cell 9 0 rfl rfl
  have p1 := HZ6.out.1.cell 9 1 rfl rfl
  have q0 := HZ6.out.1.cell 8 0 rfl rfl
  have q1 := HZ6.out.1.cell 8 1 rfl rfl
  have s0 := HZ6.out.1.cell 7 0 rfl rfl
  have s1 := HZ6.out.1.cell 7 1 rfl rfl
  exact bodyPost_ret (v := .tuple #[.agg #[.bool nA, .slice oA lA cA], .agg #[.bool nB, .slice oB lB cB], .agg #[.bool nC, .slice oC lC cC]]) (by simp [results, Tryz.results59, go_sem, p0, p1, q0, q1, s0, s1]) rfl ⟨_, _, _, _, _, _, _, _, _, _, _, _, rfl, HZ6.out.2.2.2.1, HZ6.out.2.2.2.2.1, HZ6.out.2.2.2.2.2, HZ6.out.1.below⟩
def NewPO (w w' : World) (e : Ending) (p : List Int) : Prop := ∃ ao len, e = .returned (.slice ao len len) ∧ POwn w.heap.size w' ao len len p ∧ Below w.heap.size w w'
end Go.Proofs.YthjkdnlbdhhmbaaGreatDoor
