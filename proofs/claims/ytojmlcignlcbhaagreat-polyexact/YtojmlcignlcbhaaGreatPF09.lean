/-
  A pack of walks and facts: RFa, JE, HH, HI0, HF.
-/
import Derived.Test.YtojmlcignlcbhaaGreatPF01
import Derived.Test.YtojmlcignlcbhaaGreatPF07
import Derived.Test.YtojmlcignlcbhaaGreatPF08
import Derived.Lib.SliceRun
import Derived.ArgAppend
set_option maxRecDepth 100000
set_option maxHeartbeats 40000000
set_option linter.unusedVariables false
set_option linter.unusedSimpArgs false
namespace Go.Proofs.YtojmlcignlcbhaaGreat
open Go.RowKit
theorem clone_row (ao : Option Addr) (len cap : Nat) (zs : List Int) (w : World) (hr : RowAt w .u64 ao len cap zs) (hp : 0 < len) (hl : len ≤ 4294967296) :
  Calls Tryz.prog 73 #[.slice ao len cap] w fun e w' => NewRow w w' e zs := by
 obtain ⟨i0, hi, hz0, hz1, hz2⟩ := info_parts info64
 obtain ⟨b, off, rfl, hlt, hc⟩ := hr.get hp
 have HL : Hid (len = zs.length) := hr.hlen
 have HC : Hid (∀ t, t < len → w.cell? ⟨b, off + t, none⟩ = some (.int .u64 (dig zs t))) := hc
 have q22 : ∀ (w : World) (a : Option Addr) (n c n' c' : Nat), (binOp .eql 26 (.slice a n c) (.slice none n' c')).run Tryz.prog w = .ok (.bool a.isNone) w := fun w a n c n' c' => Lib.run_eql_slice_nil w _ _ a n c n' c' Tryz.underlying26
 have u22 : ∀ w, Sem.run Tryz.prog (underlying 26) w = .ok (TypeDesc.slice 74) w := run_underlying Tryz.underlying26
 clear hr hc
 go_enter Tryz.func73, Tryz.ntmps73
 go_wp2_with (at_builtin; refine wpList_append_own _ rfl _ _ 26 rfl w.heap.size 74 i0 (.int .u64 0) 1 8 Tryz.underlying26 hi hz0 hz1 hz2 rfl (by decide) _ _ _ rfl (World.ownsRow_made w #[] 0 (Nat.le_refl _) (Nat.zero_le _) rfl) ⟨b, off, none⟩ len cap (zs.map (Value.int .u64)) rfl ?qc1 ?qc2 ?qc3 ?qc4 ?qc5 ?qc6 ?_)
 case qc1 => have := HL.out; simp; omega
 case qc2 =>
  intro j u hj
  have hjl : j < zs.length := by
   have := (List.getElem?_eq_some_iff.1 hj).1
   simpa using this
  rw [Addr.add_lit]
  refine Lib.cell?_alloc_some _ ?_
  rw [HC.out j (by have := HL.out; omega)]
  rw [List.getElem?_map, List.getElem?_eq_getElem hjl] at hj
  simp only [Option.map_some, Option.some.injEq] at hj
  rw [← hj]; simp [dig, hjl]
 case qc3 => intro u hu; obtain ⟨x, _, rfl⟩ := List.mem_map.1 hu; rfl
 case qc4 => unfold maxLen; omega
 case qc5 => omega
 case qc6 => simp
 intro v' w1 hown hgrow hnil
 go_wp2
 go_ret
 have hbel : Below w.heap.size w w1 := ((Below.refl _ w).alloc (Nat.le_refl _) _).grown hgrow (by simp) (by intro k hk; simp [Value.ownBlock] at hk; omega)
 have hown' : w1.ownsRow w.heap.size 74 1 v' len (zs.map (Value.int .u64)) := by simpa using hown
 obtain ⟨ao2, c2, rfl, _⟩ := row_of_owns HL.out.symm hown'
 exact ⟨_, _, _, rfl, Own.ofRow HL.out.symm hown', hbel⟩
end Go.Proofs.YtojmlcignlcbhaaGreat
namespace Go.Proofs.YtojmlcignlcbhaaGreat
open Go.RowKit
def Twos (n N : Nat) : Prop := ∃ m, n = 2 ^ N * (2 * m + 1)
theorem Twos.one {n N M : Nat} (h : Twos n N) (k : Twos n M) : N = M := by
 obtain ⟨a, ha⟩ := h; obtain ⟨b, hb⟩ := k
 exact two_parts (ha.symm.trans hb)
end Go.Proofs.YtojmlcignlcbhaaGreat
namespace Go.Proofs.YtojmlcignlcbhaaGreat
open Go.RowKit
end Go.Proofs.YtojmlcignlcbhaaGreat
namespace Go.Proofs.YtojmlcignlcbhaaGreat
open Go.RowKit
end Go.Proofs.YtojmlcignlcbhaaGreat
namespace Go.Proofs.YtojmlcignlcbhaaGreat
open Go.RowKit
end Go.Proofs.YtojmlcignlcbhaaGreat
namespace Go.Proofs.YtojmlcignlcbhaaGreat
open Go.RowKit
theorem cell_off {w : World} {r j b o : Nat} {v : Value} (h : b ≠ r) : (w.setCell ⟨r, j, none⟩ v).cell? ⟨b, o, none⟩ = w.cell? ⟨b, o, none⟩ := setCell_ne (fun e => h e.1)
def Fresh3 (W : World) (r : Nat) : Prop := (∀ j, W.frozen? ⟨r, j, none⟩ = false) ∧ W.cell? ⟨r, 0, none⟩ = some (.bool false) ∧ W.cell? ⟨r, 1, none⟩ = some (.slice none 0 0) ∧ W.cell? ⟨r, 2, none⟩ = some (.slice none 0 0)
theorem Fresh3.later {W w2 : World} {B r : Nat} (k : Fresh3 W r) (h : Below B W w2) (hr : r < B) : Fresh3 w2 r :=
 ⟨fun j => (h.frozen (p := ⟨r, j, none⟩) hr).trans (k.1 j), (h.cell (p := ⟨r, 0, none⟩) hr).trans k.2.1, (h.cell (p := ⟨r, 1, none⟩) hr).trans k.2.2.1, (h.cell (p := ⟨r, 2, none⟩) hr).trans k.2.2.2⟩
def Boxed3 (W : World) (r : Nat) (neg : Bool) (ao : Option Addr) (l c : Nat) (bo : Option Addr) (lb cb : Nat) : Prop := W.cell? ⟨r, 0, none⟩ = some (.bool neg) ∧ W.cell? ⟨r, 1, none⟩ = some (.slice ao l c) ∧ W.cell? ⟨r, 2, none⟩ = some (.slice bo lb cb)
theorem Boxed3.later {W w2 : World} {B r : Nat} {neg : Bool} {ao bo : Option Addr} {l c lb cb : Nat} (k : Boxed3 W r neg ao l c bo lb cb) (h : Below B W w2) (hr : r < B) : Boxed3 w2 r neg ao l c bo lb cb :=
 ⟨(h.cell (p := ⟨r, 0, none⟩) hr).trans k.1, (h.cell (p := ⟨r, 1, none⟩) hr).trans k.2.1, (h.cell (p := ⟨r, 2, none⟩) hr).trans k.2.2⟩
structure RTwo3 (w W : World) (na nb : Bool) (ao po bo qo : Option Addr) (la ca lp cp lb cb lq cq : Nat) : Prop where
 eq : W = ((w.alloc (.cells #[.bool na, .slice ao la ca, .slice po lp cp] 30)).alloc (.cells #[.bool nb, .slice bo lb cb, .slice qo lq cq] 30)).alloc (.cells #[.bool false, .slice none 0 0, .slice none 0 0] 30)
 below : Below w.heap.size w W
 size : W.heap.size = w.heap.size + 3
 a : Boxed3 W w.heap.size na ao la ca po lp cp
 b : Boxed3 W (w.heap.size + 1) nb bo lb cb qo lq cq
 r : Fresh3 W (w.heap.size + 1 + 1)
theorem RTwo3.mk' (w : World) (na nb : Bool) (ao po bo qo : Option Addr) (la ca lp cp lb cb lq cq : Nat) : ∃ W, RTwo3 w W na nb ao po bo qo la ca lp cp lb cb lq cq :=
 ⟨_, rfl, (((Below.refl _ _).alloc (Nat.le_refl _) _).alloc (by simp) _).alloc (by simp; omega) _, by simp, ⟨by simp [go_sem], by simp [go_sem], by simp [go_sem]⟩, ⟨by simp [go_sem], by simp [go_sem], by simp [go_sem]⟩, ⟨fun j => by simp [go_sem], by simp [go_sem], by simp [go_sem], by simp [go_sem]⟩⟩
end Go.Proofs.YtojmlcignlcbhaaGreat
namespace Go.Proofs.YtojmlcignlcbhaaGreat
open Go.RowKit
def heavyB (D L len : Nat) (rs : List (Bool × List Int)) : Bool := decide (D + 1 < len) || rs.any fun r => decide (L < r.2.length)
theorem heavyB_false {D L len : Nat} {rs : List (Bool × List Int)} (h : heavyB D L len rs = false) : len ≤ D + 1 ∧ ∀ r ∈ rs, r.2.length ≤ L := by
 unfold heavyB at h
 rw [Bool.or_eq_false_iff, List.any_eq_false] at h
 refine ⟨by have := of_decide_eq_false h.1; omega, fun r hr => ?_⟩
 have := h.2 r hr
 simpa using this
theorem heavyPoly_any (D L : Nat) (ao : Option Addr) (len cap : Nat) (rs : List (Bool × List Int)) (w : World) (hr : RawsAt w ao len cap rs) (hl : len ≤ 9223372036854775807) (hD : D ≤ 4294967296) (c : Bool) (hc : heavyB D L len rs = c) :
  Calls Tryz.prog 33 #[.slice ao len cap, .int .i64 (D : Int), .int .i64 (L : Int)] w fun e w' => e = .returned (.bool c) ∧ Below w.heap.size w w' := by
 by_cases hd : D + 1 < len
 ·
  obtain rfl : c = true := by rw [← hc]; simp [heavyB, hd]
  have hd' : ((D : Int) + 1 < (len : Int)) := by omega
  clear hd hc
  go_enter Tryz.func33, Tryz.ntmps33
  go_wp2
  go_ret
  exact ⟨rfl, Below.refl _ _⟩
 ·
  have hd' : ¬ ((D : Int) + 1 < (len : Int)) := by omega
  have HC : Hid (heavyB D L len rs = c ∧ len = rs.length ∧ ¬ (D + 1 < len)) := ⟨hc, hr.hlen, hd⟩
  have HR : Hid (RawsAt w ao len cap rs) := hr
  clear hr hc hd
  go_enter Tryz.func33, Tryz.ntmps33
  go_wp2
  go_loopw [7] (fun i wr => ∃ k : Nat, k ≤ len ∧ i = .int .i64 k ∧ Below w.heap.size w wr ∧ ∀ t, (ht : t < rs.length) → t < k → (rs[t]).2.length ≤ L) (fun i _ => len - (intOf i).toNat)
  case atStart => exact ⟨0, Nat.zero_le _, rfl, Below.refl _ _, fun t _ ht => absurd ht (by omega)⟩
  case round =>
   obtain ⟨k, hk, rfl, hbel, hz⟩ := hrel
   have HZ : Hid (∀ t, (ht : t < rs.length) → t < k → (rs[t]).2.length ≤ L) := hz
   clear hz
   by_cases hlt : k < len
   ·
    obtain ⟨b, off, rfl, hat⟩ := (HR.out.later hbel).get (by omega)
    have hkr : k < rs.length := by rw [← HC.out.2.1]; exact hlt
    obtain ⟨ao1, l1, c1, ⟨h0, h1⟩, hrow, hw⟩ := hat k hkr
    have HL : Hid (l1 = (rs[k]).2.length) := hrow.hlen
    obtain ⟨n1, hn1⟩ : ∃ n1, (rs[k]).1 = n1 := ⟨_, rfl⟩
    rw [hn1] at h0
    clear hn1 hat hrow hw
    by_cases hL : L < l1
    ·
     obtain rfl : c = true := by
      rw [← HC.out.1]; unfold heavyB
      refine Bool.or_eq_true_iff.2 (Or.inr (List.any_eq_true.2 ⟨rs[k], List.getElem_mem hkr, ?_⟩))
      exact decide_eq_true (by have := HL.out; omega)
     have hcon : ∀ W', Calls Tryz.prog 34 #[.agg #[.bool n1, .slice ao1 l1 c1], .int .i64 (L : Int)] W' fun e w' => e = .returned (.bool true) ∧ Below W'.heap.size W' w' := fun W' => (long_any n1 ao1 l1 c1 L W').mono fun e w' h => by rw [decide_eq_true (by omega)] at h; exact h
     clear hL
     go_wp2_with (go_at_call 34; refine (hcon _).mono ?_; rintro e w1 ⟨rfl, hb1⟩)
     go_ret
     exact ⟨rfl, bnext hbel hb1⟩
    ·
     have hcon : ∀ W', Calls Tryz.prog 34 #[.agg #[.bool n1, .slice ao1 l1 c1], .int .i64 (L : Int)] W' fun e w' => e = .returned (.bool false) ∧ Below W'.heap.size W' w' := fun W' => (long_any n1 ao1 l1 c1 L W').mono fun e w' h => by rw [decide_eq_false (by omega)] at h; exact h
     have HLL : Hid (¬ L < l1) := hL
     clear hL
     go_wp2_with (go_at_call 34; refine (hcon _).mono ?_; rintro e w1 ⟨rfl, hb1⟩)
     go_roundw
     case rel => exact ⟨k + 1, by omega, by go_num, bnext hbel hb1, fun t ht htk => by
      by_cases e : t = k
      ·
       subst e; have := HL.out; have := HLL.out; omega
      ·
       exact HZ.out t ht (by omega)⟩
     case measure => simp [intOf]; omega
   ·
    obtain rfl : k = len := by omega
    obtain rfl : c = false := by
     rw [← HC.out.1]; unfold heavyB
     rw [Bool.or_eq_false_iff]
     refine ⟨decide_eq_false HC.out.2.2, ?_⟩
     rw [List.any_eq_false]
     intro r hr
     obtain ⟨t, ht, rfl⟩ := List.getElem_of_mem hr
     have := HZ.out t ht (by rw [HC.out.2.1]; exact ht)
     simp; omega
    go_wp2
    go_ret
    exact ⟨rfl, hbel⟩
def pmayB (len : Nat) (rs : List (Bool × List Int)) : Bool := decide (len ≤ 1025) && (rs.all (fun r => mayB r.1 r.2) && (decide (len = 0) || decide ((rs.getD (len - 1) (false, [])).2 ≠ [])))
theorem pmayB_true {len : Nat} {rs : List (Bool × List Int)} (h : pmayB len rs = true) : len ≤ 1025 ∧ (∀ r ∈ rs, mayB r.1 r.2 = true) ∧ (0 < len → (rs.getD (len - 1) (false, [])).2 ≠ []) := by
 simp only [pmayB, Bool.and_eq_true, Bool.or_eq_true, decide_eq_true_eq, List.all_eq_true] at h
 exact ⟨h.1, h.2.1, fun h0 => by rcases h.2.2 with e | e; omega; exact e⟩
theorem pmay_any (ao : Option Addr) (len cap : Nat) (rs : List (Bool × List Int)) (w : World) (hr : RawsAt w ao len cap rs) (hl : len ≤ 4611686018427387904) (hlim : ∀ r ∈ rs, r.2.length ≤ 4611686018427387904) (c : Bool) (hc : pmayB len rs = c) :
  Calls Tryz.prog 37 #[.slice ao len cap] w fun e w' => e = .returned (.bool c) ∧ Below w.heap.size w w' := by
 by_cases hd : 1025 < len
 ·
  obtain rfl : c = false := by rw [← hc]; unfold pmayB; rw [decide_eq_false (by omega)]; rfl
  have hd' : ((1025 : Int) < (len : Int)) := by omega
  clear hd hc
  go_enter Tryz.func37, Tryz.ntmps37
  go_wp2
  go_ret
  exact ⟨rfl, Below.refl _ _⟩
 ·
  have hd' : ¬ ((1025 : Int) < (len : Int)) := by omega
  have HC : Hid (pmayB len rs = c ∧ len = rs.length ∧ ¬ (1025 < len)) := ⟨hc, hr.hlen, hd⟩
  have HR : Hid (RawsAt w ao len cap rs ∧ ∀ r ∈ rs, r.2.length ≤ 4611686018427387904) := ⟨hr, hlim⟩
  clear hr hc hd hlim
  go_enter Tryz.func37, Tryz.ntmps37
  go_wp2
  go_loopw [3] (fun i wr => ∃ k : Nat, k ≤ len ∧ i = .int .i64 k ∧ Below w.heap.size w wr ∧ ∀ t, (ht : t < rs.length) → t < k → mayB (rs[t]).1 (rs[t]).2 = true) (fun i _ => len - (intOf i).toNat)
  case atStart => exact ⟨0, Nat.zero_le _, rfl, Below.refl _ _, fun t _ ht => absurd ht (by omega)⟩
  case round =>
   obtain ⟨k, hk, rfl, hbel, hz⟩ := hrel
   have HZ : Hid (∀ t, (ht : t < rs.length) → t < k → mayB (rs[t]).1 (rs[t]).2 = true) := hz
   clear hz
   by_cases hlt : k < len
   ·
    obtain ⟨b, off, rfl, hat⟩ := (HR.out.1.later hbel).get (by omega)
    have hkr : k < rs.length := by rw [← HC.out.2.1]; exact hlt
    obtain ⟨ao1, l1, c1, ⟨h0, h1⟩, hrow, hw⟩ := hat k hkr
    have hl1 : l1 ≤ 4611686018427387904 := by rw [hrow.hlen]; exact HR.out.2 _ (List.getElem_mem hkr)
    obtain ⟨m, hm⟩ : ∃ m, mayB (rs[k]).1 (rs[k]).2 = m := ⟨_, rfl⟩
    have HM : Hid (mayB (rs[k]).1 (rs[k]).2 = m) := hm
    obtain ⟨n1, hn1⟩ : ∃ n1, (rs[k]).1 = n1 := ⟨_, rfl⟩
    have hcon : Calls Tryz.prog 8 #[.agg #[.bool n1, .slice ao1 l1 c1]] wr fun e w' => e = .returned (.bool m) ∧ Below wr.heap.size wr w' := may_at n1 ao1 l1 c1 _ wr hrow hl1 m (by rw [← hn1]; exact hm)
    rw [hn1] at h0
    have HK : Hid (k < rs.length) := hkr
    clear hn1 hat hrow hw hm hl1
    cases m
    ·
     obtain rfl : c = false := by
      rw [← HC.out.1]; unfold pmayB
      rw [Bool.and_eq_false_iff]; right
      rw [Bool.and_eq_false_iff]; left
      rw [List.all_eq_false]
      exact ⟨rs[k]'HK.out, List.getElem_mem HK.out, by rw [HM.out]; decide⟩
     go_wp2_with (go_at_call 8; refine hcon.mono ?_; rintro e w1 ⟨rfl, hb1⟩)
     go_ret
     exact ⟨rfl, bnext hbel hb1⟩
    ·
     go_wp2_with (go_at_call 8; refine hcon.mono ?_; rintro e w1 ⟨rfl, hb1⟩)
     go_roundw
     case rel => exact ⟨k + 1, by omega, by go_num, bnext hbel hb1, fun t ht htk => by
      by_cases e : t = k
      ·
       subst e; exact HM.out
      ·
       exact HZ.out t ht (by omega)⟩
     case measure => simp [intOf]; omega
   ·
    obtain rfl : k = len := by omega
    have hall : rs.all (fun r => mayB r.1 r.2) = true := by
     rw [List.all_eq_true]
     intro r hr
     obtain ⟨t, ht, rfl⟩ := List.getElem_of_mem hr
     exact HZ.out t ht (by rw [HC.out.2.1]; exact ht)
    have HC2 : Hid ((decide (k = 0) || decide ((rs.getD (k - 1) (false, [])).2 ≠ [])) = c) := by
     show _ = _
     rw [← HC.out.1]; unfold pmayB
     rw [hall, decide_eq_true (by have := HC.out.2.2; omega : k ≤ 1025)]; rfl
    clear hall
    by_cases h0 : k = 0
    ·
     subst h0
     obtain rfl : c = true := by rw [← HC2.out]; simp
     go_wp2
     go_ret
     exact ⟨rfl, hbel⟩
    ·
     have hn0 : ((k : Int) == 0) = false := by simp; omega
     obtain ⟨b, off, rfl, hat⟩ := (HR.out.1.later hbel).get (by omega)
     have hkr : k - 1 < rs.length := by rw [← HC.out.2.1]; omega
     obtain ⟨ao1, l1, c1, ⟨h0', h1'⟩, hrow, hw⟩ := hat (k - 1) hkr
     obtain ⟨n1, hn1⟩ : ∃ n1, (rs[k - 1]).1 = n1 := ⟨_, rfl⟩
     rw [hn1] at h0'
     have hcz : Hid (((l1 : Int) == 0) = !c) := by
      show _ = _
      rw [← HC2.out, decide_eq_false h0, Bool.false_or, List.getD_eq_getElem?_getD, List.getElem?_eq_getElem hkr, Option.getD_some]
      have := hrow.hlen
      by_cases e : (rs[k - 1]).2 = []
      ·
       rw [decide_eq_false (by simpa using e)]; rw [e] at this; subst this; rfl
      ·
       rw [decide_eq_true e]
       have : l1 ≠ 0 := fun e2 => e (List.eq_nil_of_length_eq_zero (by omega))
       simp; omega
     have hidx : (k : Int) - 1 = ((k - 1 : Nat) : Int) := by omega
     have hcon : ∀ W', Calls Tryz.prog 63 #[.agg #[.bool n1, .slice ao1 l1 c1]] W' fun e w' => e = .returned (.bool (!c)) ∧ Below W'.heap.size W' w' := fun W' => rzero_any n1 ao1 l1 c1 W' (!c) hcz.out
     have hk1 : k - 1 < k := by omega
     clear hn1 hat hrow hw hkr h0
     go_wp2_with (go_at_call 63; refine (hcon _).mono ?_; rintro e w1 ⟨rfl, hb1⟩)
     go_ret
     exact ⟨by simp, bnext hbel hb1⟩
theorem eqints_same (ao bo : Option Addr) (len ca cb : Nat) (p : List Int) (w : World) (hx : PolyAt w ao len ca p) (hy : PolyAt w bo len cb p) (hl : len ≤ 4611686018427387904) (hlim : Lim 4611686018427387904 p) :
  Calls Tryz.prog 61 #[.slice ao len ca, .slice bo len cb] w fun e w' => e = .returned (.bool true) ∧ Below w.heap.size w w' := by
 have HR : Hid (PolyAt w ao len ca p ∧ PolyAt w bo len cb p ∧ Lim 4611686018427387904 p) := ⟨hx, hy, hlim⟩
 clear hx hy hlim
 go_enter Tryz.func61, Tryz.ntmps61
 go_wp2
 go_loopw [5] (fun i wr => ∃ k : Nat, k ≤ len ∧ i = .int .i64 k ∧ Below w.heap.size w wr) (fun i _ => len - (intOf i).toNat)
 case atStart => exact ⟨0, Nat.zero_le _, rfl, Below.refl _ _⟩
 case round =>
  obtain ⟨k, hk, rfl, hbel⟩ := hrel
  by_cases hlt : k < len
  ·
   obtain ⟨b, off, rfl, hat⟩ := (HR.out.1.later hbel).get (by omega)
   obtain ⟨b', off', rfl, hat'⟩ := (HR.out.2.1.later hbel).get (by omega)
   obtain ⟨n1, ao1, l1, c1, ⟨h0, h1⟩, hi⟩ := hat k hlt
   obtain ⟨n2, ao2, l2, c2, ⟨g0, g1⟩, hj⟩ := hat' k hlt
   have hl1 : l1 ≤ 4611686018427387904 := by rw [hi.lim]; exact HR.out.2.2 _
   have hcon : ∀ W', Below wr.heap.size wr W' → Calls Tryz.prog 21 #[.agg #[.bool n1, .slice ao1 l1 c1], .agg #[.bool n2, .slice ao2 l2 c2]] W' fun e w' => e = .returned (.bool true) ∧ Below W'.heap.size W' w' := fun W' hW => eqint_at n1 n2 ao1 ao2 l1 c1 l2 c2 _ _ W' (hi.later hW) (hj.later hW) hl1 true (decide_eq_true rfl)
   have hlt' : (k : Int) < (len : Int) := by omega
   have hge' : (0 : Int) ≤ (k : Int) := by omega
   have KS : Hid (∀ w', Below wr.heap.size wr w' → Below wr.heap.size wr w' ∧ w'.cell? ⟨b, off + k * 2, none⟩ = some (.bool n1) ∧ w'.cell? ⟨b, off + k * 2 + 1, none⟩ = some (.slice ao1 l1 c1) ∧ w'.cell? ⟨b', off' + k * 2, none⟩ = some (.bool n2) ∧ w'.cell? ⟨b', off' + k * 2 + 1, none⟩ = some (.slice ao2 l2 c2)) := fun w' hb => ⟨hb, (hb.cell (p := ⟨b, off + k * 2, none⟩) (cell_lt h0)).trans h0, (hb.cell (p := ⟨b, off + k * 2 + 1, none⟩) (cell_lt h1)).trans h1, (hb.cell (p := ⟨b', off' + k * 2, none⟩) (cell_lt g0)).trans g0, (hb.cell (p := ⟨b', off' + k * 2 + 1, none⟩) (cell_lt g1)).trans g1⟩
   clear hat hat' hi hj hl1
   go_wp2
   go_region_held3 (fun w' => Below wr.heap.size wr w' ∧ w'.cell? ⟨b, off + k * 2, none⟩ = some (.bool n1) ∧ w'.cell? ⟨b, off + k * 2 + 1, none⟩ = some (.slice ao1 l1 c1) ∧ w'.cell? ⟨b', off' + k * 2, none⟩ = some (.bool n2) ∧ w'.cell? ⟨b', off' + k * 2 + 1, none⟩ = some (.slice ao2 l2 c2))
    (first | exact KS.out _ (Below.refl _ _).drew | exact KS.out _ (by assumption))
    (first | (go_at_call 21; refine (hcon _ (Below.refl _ _).drew).mono ?_; rintro e w1 ⟨rfl, hb1'⟩; have hb1 : Below wr.heap.size wr w1 := bnext (Below.refl _ _).drew hb1'))
   go_wp2
   go_roundw
   case rel => exact ⟨k + 1, by omega, by go_num, bnext hbel hb1⟩
   case measure => simp [intOf]; omega
  ·
   obtain rfl : k = len := by omega
   go_wp2
   go_ret
   exact ⟨rfl, hbel⟩
end Go.Proofs.YtojmlcignlcbhaaGreat
namespace Go.Proofs.YtojmlcignlcbhaaGreat
open Go.RowKit
theorem isZero_any (neg : Bool) (ao : Option Addr) (len cap : Nat) (w : World) (c : Bool) (hc : ((len : Int) == 0) = c) :
  Calls Tryz.prog 45 #[.agg #[.bool neg, .slice ao len cap]] w fun e w' => e = .returned (.bool c) ∧ Below w.heap.size w w' := by
 go_enter Tryz.func45, Tryz.ntmps45
 go_wp2
 go_ret
 exact ⟨rfl, (Below.refl _ _).alloc (Nat.le_refl _) _⟩
theorem lim_pos {v : Int} (h : v ≠ 0) : lim v ≠ 0 := by
 intro e
 have e2 : mag v.natAbs = [] := List.eq_nil_of_length_eq_zero e
 have := mag_val v.natAbs
 rw [e2] at this
 simp [val] at this
 omega
end Go.Proofs.YtojmlcignlcbhaaGreat
namespace Go.Proofs.YtojmlcignlcbhaaGreat
open Go.RowKit
theorem infoInt : (Tryz.prog.info? 28).map (fun i => (i.zero, i.size, i.bytes)) = some (some (.agg #[.bool false, .slice none 0 0]), 2, 32) := by kernel_rfl
theorem pblk_of_made {w w' : World} {B n : Nat} {t : TypeId} (h : w'.ownsRow B t 2 (.slice (some ⟨w.heap.size, 0, none⟩) n n) n (madeCells (Value.agg #[.bool false, .slice none 0 0]).cells (n * 2)).toList) : PBlk w' w.heap.size (List.replicate n 0) ∧ w.heap.size < w'.heap.size := by
 obtain ⟨_, h2⟩ := h
 rcases h2 with ⟨h2, _⟩ | ⟨g', cap, cur, hv, hg, hh, hc1, _, hs, ht⟩
 ·
  cases h2
 ·
  simp only [Value.slice.injEq, Option.some.injEq, Addr.mk.injEq] at hv
  obtain ⟨⟨hge, _⟩, _, hce⟩ := hv
  subst hge
  subst hce
  have hcell : ∀ j, j < n * 2 → w'.cell? ⟨w.heap.size, j, none⟩ = some (if j % 2 = 0 then .bool false else .slice none 0 0) := by
   intro j hj
   have e1 : cur.toList[j]? = (madeCells (Value.agg #[.bool false, .slice none 0 0]).cells (n * 2)).toList[j]? := by
    rw [← ht, List.getElem?_take, if_pos hj]
   have e2 : (madeCells (Value.agg #[.bool false, .slice none 0 0]).cells (n * 2)).toList[j]? = some (if j % 2 = 0 then .bool false else .slice none 0 0) := by
    simp only [madeCells, Array.toList_map, List.getElem?_map, Array.toList_range, List.getElem?_range hj, Option.map_some]
    congr 1
    have e3 : (Value.agg #[.bool false, .slice none 0 0]).cells = #[.bool false, .slice none 0 0] := by simp [Value.cells]
    rw [e3]
    have : j % 2 = 0 ∨ j % 2 = 1 := by omega
    rcases this with h | h <;> simp [h]
   rw [e2] at e1
   simp only [World.cell?, hh]
   simpa using e1
  refine ⟨⟨fun j => by simp [World.frozen?, hh], fun t ht => ?_⟩, heap_lt hh⟩
  have ht' : t < n := by simpa using ht
  rw [rep_dig]
  refine ⟨false, none, 0, 0, ⟨by rw [hcell _ (by omega), if_pos (by omega)], by rw [hcell _ (by omega), if_neg (by omega)]⟩, rfl, RowAt.nilRow _ _⟩
def CpSt (p : List Int) (k : Nat) (l : List Int) : Prop := l.length = p.length ∧ ∀ t, t < p.length → dig l t = if t < k then dig p t else 0
theorem CpSt.start (p : List Int) : CpSt p 0 (List.replicate p.length 0) := ⟨by simp, fun t ht => by rw [rep_dig, if_neg (by omega)]⟩
theorem CpSt.step {p l : List Int} {k : Nat} (h : CpSt p k l) (hk : k < p.length) : CpSt p (k + 1) (l.set k (dig p k)) := by
 refine ⟨by simpa using h.1, fun t ht => ?_⟩
 rw [pdig_set _ _ _ _ (by rw [h.1]; exact ht)]
 by_cases e : t = k
 ·
  subst e; rw [if_pos rfl, if_pos (by omega)]
 ·
  rw [if_neg e, h.2 t ht]
  by_cases e2 : t < k
  ·
   rw [if_pos e2, if_pos (by omega)]
  ·
   rw [if_neg e2, if_neg (by omega)]
theorem CpSt.skip {p l : List Int} {k : Nat} (h : CpSt p k l) (hk : k < p.length) (h0 : dig p k = 0) : CpSt p (k + 1) l := by
 refine ⟨h.1, fun t ht => ?_⟩
 rw [h.2 t ht]
 by_cases e : t = k
 ·
  subst e; rw [if_neg (by omega), if_pos (by omega), h0]
 ·
  by_cases e2 : t < k
  ·
   rw [if_pos e2, if_pos (by omega)]
  ·
   rw [if_neg e2, if_neg (by omega)]
theorem CpSt.done {p l : List Int} (h : CpSt p p.length l) : l = p := dig_ext h.1 fun t ht => by rw [h.1] at ht; rw [h.2 t ht, if_pos ht]
def NewPB (w w' : World) (e : Ending) (p : List Int) : Prop :=
 (p.length = 0 ∧ e = .returned (.slice none 0 0) ∧ Below w.heap.size w w') ∨ (0 < p.length ∧ ∃ g, e = .returned (.slice (some ⟨g, 0, none⟩) p.length p.length) ∧ PBlk w' g p ∧ w.heap.size ≤ g ∧ g < w'.heap.size ∧ Below w.heap.size w w')
theorem NewPB.poly {w w' : World} {e : Ending} {p : List Int} (h : NewPB w w' e p) : NewPoly w w' e p := by
 rcases h with ⟨h0, he, hb⟩ | ⟨h0, g, he, hp, _, _, hb⟩
 ·
  obtain rfl : p = [] := List.eq_nil_of_length_eq_zero h0
  exact ⟨_, _, _, he, PolyAt.nilPoly _, hb⟩
 ·
  exact ⟨_, _, _, he, hp.poly rfl, hb⟩
theorem zero_of_lim {v : Int} (h : lim v = 0) : v = 0 := by
 rcases Decidable.em (v = 0) with e | e
 ·
  exact e
 ·
  exact absurd h (lim_pos e)
end Go.Proofs.YtojmlcignlcbhaaGreat
namespace Go.Proofs.YtojmlcignlcbhaaGreat
open Go.RowKit
structure NDivSt (a b k Q rv m : Nat) (L : List Int) : Prop where
 eq : a = Q * b + rv
 lt : rv < b * 2 ^ k
 dvd : (2 : Int) ^ k ∣ val 18446744073709551616 L
 len : L.length = m
 wd : Wd 18446744073709551616 L
 vl : val 18446744073709551616 L = (Q : Int)
theorem NDivSt.start {a b k m : Nat} (h : a < b * 2 ^ k) : NDivSt a b k 0 a m (List.replicate m 0) :=
 ⟨by omega, h, by rw [zeros_val]; exact ⟨0, by simp⟩, by simp, wd_zeros (by decide) _, by rw [zeros_val]; rfl⟩
theorem NDivSt.no {a b k Q rv m : Nat} {L : List Int} (h : NDivSt a b (k + 1) Q rv m L) (hlt : rv < b * 2 ^ k) : NDivSt a b k Q rv m L :=
 ⟨h.eq, hlt, Int.dvd_trans ⟨2, by rw [Int.pow_succ]⟩ h.dvd, h.len, h.wd, h.vl⟩
theorem NDivSt.done {a b Q rv m : Nat} {L : List Int} (h : NDivSt a b 0 Q rv m L) : Q = a / b ∧ rv = a % b := by
 have hl := h.lt
 rw [Nat.pow_zero, Nat.mul_one] at hl
 have he := h.eq
 rw [he, Nat.mul_comm, Nat.mul_add_div (by omega), Nat.mul_add_mod, Nat.div_eq_of_lt hl, Nat.mod_eq_of_lt hl]
 exact ⟨rfl, rfl⟩
def Off (g : Nat) (w : World) (ao : Option Addr) (len cap n : Nat) : Prop := RowAt w .u64 ao len cap (mag n) ∧ ∀ b o, ao = some ⟨b, o, none⟩ → b ≠ g
theorem Off.later {g : Nat} {w w' : World} {ao : Option Addr} {len cap n : Nat} (h : Off g w ao len cap n) (hb : Below w.heap.size w w') : Off g w' ao len cap n := ⟨h.1.later hb, h.2⟩
theorem Off.set {g : Nat} {w : World} {ao : Option Addr} {len cap n : Nat} (h : Off g w ao len cap n) (j : Nat) (v : Value) : Off g (w.setCell ⟨g, j, none⟩ v) ao len cap n := by
 refine ⟨⟨h.1.hlen, h.1.hcap, h.1.hnil, ?_⟩, h.2⟩
 rcases h.1.hat with h0 | ⟨b, off, h1, hlt, h2⟩
 ·
  exact Or.inl h0
 ·
  have hne := h.2 b off h1
  exact Or.inr ⟨b, off, h1, by simpa using hlt, fun t ht => by rw [← h2 t ht]; simp only [World.cell?, Below.heap_setCell w ⟨g, j, none⟩ v b hne]⟩
theorem Off.ofOwn {g B : Nat} {w : World} {ao : Option Addr} {len cap n : Nat} (h : Own B w .u64 74 ao len cap (mag n)) (hB : g < B) : Off g w ao len cap n := by
 refine ⟨h.row, fun b o hb => ?_⟩
 rcases h with ⟨h1, _⟩ | ⟨g', off, cur, h1, h2, _⟩
 ·
  rw [h1] at hb; cases hb
 ·
  rw [h1] at hb; cases hb; omega
theorem Off.old {g : Nat} {w : World} {ao : Option Addr} {len cap n : Nat} (h : RowAt w .u64 ao len cap (mag n)) (hg : w.heap.size ≤ g) (h0 : 0 < n) : Off g w ao len cap n := by
 refine ⟨h, fun b o hb => ?_⟩
 obtain ⟨b', o', h1, h2, _⟩ := h.get (by rw [h.hlen]; exact mag_len_pos.2 h0)
 rw [h1] at hb; cases hb; omega
end Go.Proofs.YtojmlcignlcbhaaGreat
namespace Go.Proofs.YtojmlcignlcbhaaGreat
open Go.RowKit
end Go.Proofs.YtojmlcignlcbhaaGreat
namespace Go.Proofs.YtojmlcignlcbhaaGreat
open Go.RowKit
theorem cell_far {w : World} {r j b o : Nat} {v : Value} (h : b ≠ r) : (w.setCell ⟨r, j, none⟩ v).cell? ⟨b, o, none⟩ = w.cell? ⟨b, o, none⟩ := by
 simp only [World.cell?, Below.heap_setCell w ⟨r, j, none⟩ v b h]
theorem frozen_far {w : World} {r j b o : Nat} {v : Value} : (w.setCell ⟨r, j, none⟩ v).frozen? ⟨b, o, none⟩ = w.frozen? ⟨b, o, none⟩ := by simp [go_sem]
end Go.Proofs.YtojmlcignlcbhaaGreat
namespace Go.Proofs.YtojmlcignlcbhaaGreat
open Go.RowKit
structure Spoil (w : World) (g off len cap : Nat) : Prop where
  cell : ∀ j, j < len → ∃ z, w.cell? ⟨g, off + j, none⟩ = some (.int .u64 z)
  room : ∀ j, j < cap → (w.cell? ⟨g, off + j, none⟩).isSome = true
  soft : ∀ j, w.frozen? ⟨g, j, none⟩ = false
  lt : g < w.heap.size
theorem Spoil.ofOwn {B : Nat} {w : World} {t : TypeId} {g off len cap : Nat} {zs : List Int} (h : Own B w .u64 t (some ⟨g, off, none⟩) len cap zs) : Spoil w g off len cap ∧ B ≤ g ∧ len ≤ cap := by
  rcases h with ⟨h, _⟩ | ⟨g', off', cur, he, hB, hh, hc, hl, _, hz⟩
  · cases h
  · cases he
    have hlt := heap_lt hh
    refine ⟨⟨fun j hj => ⟨dig zs j, ?_⟩, fun j hj => ?_, fun j => ?_, hlt⟩, hB, hl⟩
    · simp only [World.cell?, hh]; exact hz j hj
    · simp only [World.cell?, hh]; simp; omega
    · simp [World.frozen?, hh]
theorem Spoil.later {w w' : World} {g off len cap : Nat} (h : Spoil w g off len cap) (hb : Below w.heap.size w w') : Spoil w' g off len cap :=
  ⟨fun j hj => by obtain ⟨z, hz⟩ := h.cell j hj; exact ⟨z, (hb.cell (p := ⟨g, off + j, none⟩) h.lt).trans hz⟩,
   fun j hj => by rw [hb.cell (p := ⟨g, off + j, none⟩) h.lt]; exact h.room j hj,
   fun j => by rw [hb.frozen (p := ⟨g, j, none⟩) h.lt]; exact h.soft j, Nat.lt_of_lt_of_le h.lt hb.size⟩
theorem Spoil.set {w : World} {g off len cap k : Nat} (h : Spoil w g off len cap) (hk : k < len) (z : Int) : Spoil (w.setCell ⟨g, off + k, none⟩ (.int .u64 z)) g off len cap := by
  have hs : (w.cell? ⟨g, off + k, none⟩).isSome = true := by obtain ⟨y, hy⟩ := h.cell k hk; rw [hy]; rfl
  refine ⟨fun j hj => ?_, fun j hj => ?_, fun j => ?_, by simpa using h.lt⟩
  · by_cases e : j = k
    · subst e; obtain ⟨y, hy⟩ := h.cell j hj; exact ⟨z, by simp [go_sem, hy]⟩
    · obtain ⟨y, hy⟩ := h.cell j hj; obtain ⟨y', hy'⟩ := h.cell k hk; exact ⟨y, by simp [go_sem, hy, hy', e]⟩
  · by_cases e : j = k
    · subst e; obtain ⟨y, hy⟩ := h.cell j hk; simp [go_sem, hy]
    · have := h.room j hj; obtain ⟨y', hy'⟩ := h.cell k hk; simpa [go_sem, hy', e] using this
  · have := h.soft j; simpa [go_sem] using this
structure Stay (ao : Option Addr) (w w' : World) : Prop where
  size : w.heap.size ≤ w'.heap.size
  block : ∀ k, k < w.heap.size → (∀ p : Addr, ao = some p → p.block ≠ k) → w'.heap[k]? = w.heap[k]?
theorem Stay.refl (ao : Option Addr) (w : World) : Stay ao w w := ⟨Nat.le_refl _, fun _ _ _ => rfl⟩
theorem Stay.set {g off : Nat} {w w' : World} (h : Stay (some ⟨g, off, none⟩) w w') (j : Nat) (v : Value) : Stay (some ⟨g, off, none⟩) w (w'.setCell ⟨g, j, none⟩ v) :=
  ⟨by simpa [World.setCell] using h.size, fun k hk hp => by rw [Below.heap_setCell w' ⟨g, j, none⟩ v k (fun e => hp _ rfl e.symm)]; exact h.block k hk hp⟩
theorem Stay.next {ao : Option Addr} {w w' w2 : World} (h : Stay ao w w') (hb : Below w'.heap.size w' w2) : Stay ao w w2 :=
  ⟨Nat.le_trans h.size hb.size, fun k hk hp => (hb.block k (Nat.lt_of_lt_of_le hk h.size)).trans (h.block k hk hp)⟩
theorem Stay.after {ao : Option Addr} {w w' w2 : World} (hb : Below w.heap.size w w') (h : Stay ao w' w2) : Stay ao w w2 :=
  ⟨Nat.le_trans hb.size h.size, fun k hk hp => (h.block k (Nat.lt_of_lt_of_le hk hb.size) hp).trans (hb.block k hk)⟩
theorem Stay.cell {ao : Option Addr} {w w' : World} (h : Stay ao w w') {r j : Nat} (hr : r < w.heap.size) (hp : ∀ p : Addr, ao = some p → p.block ≠ r) : w'.cell? ⟨r, j, none⟩ = w.cell? ⟨r, j, none⟩ := by
  simp only [World.cell?, h.block r hr hp]
theorem Stay.frozen {ao : Option Addr} {w w' : World} (h : Stay ao w w') {r j : Nat} (hr : r < w.heap.size) (hp : ∀ p : Addr, ao = some p → p.block ≠ r) : w'.frozen? ⟨r, j, none⟩ = w.frozen? ⟨r, j, none⟩ := by
  simp only [World.frozen?, h.block r hr hp]
theorem below_cells {B g o : Nat} {w w' : World} {v : Value} (h : Below B w w') (hg : B ≤ g) : Below B w (w'.setCells g o [v]) := h.setCell (p := ⟨g, o, none⟩) hg v
theorem Spoil.olds {w : World} {g off len cap : Nat} (h : Spoil w g off len cap) : ∃ olds : List Value, olds.length = len * 1 ∧ ∀ j u, olds[j]? = some u → w.cell? ⟨g, off + j, none⟩ = some u := by
  refine ⟨(List.range len).map fun j => (w.cell? ⟨g, off + j, none⟩).getD undef, by simp, fun j u hj => ?_⟩
  rw [List.getElem?_map] at hj
  by_cases hl : j < len
  · rw [List.getElem?_range hl] at hj
    obtain ⟨z, hz⟩ := h.cell j hl
    simp only [Option.map_some, hz, Option.getD_some, Option.some.injEq] at hj
    rw [hz, hj]
  · rw [List.getElem?_eq_none (by simpa using hl)] at hj
    cases hj
theorem words_any (B : Nat) (ao : Option Addr) (len cap : Nat) (zs : List Int) (w : World) (ho : Own B w .u64 74 ao len cap zs) (hB : B ≤ w.heap.size) (hl : len ≤ 8589934592) :
    Calls Tryz.prog 93 #[.slice ao len cap] w fun e w' => e = .returned (.tuple #[]) ∧ Below B w w' ∧ Stay ao w w' := by
  obtain ⟨i0, hi, hz0, hz1, hz2⟩ := info_parts info64
  have h63 : Hid (len + 1 ≤ maxLen) := by show _ ≤ _; unfold maxLen; omega
  have hby : Hid ((len + 1) * 8 ≤ 140737488355328) := by show _ ≤ _; omega
  have HO : Hid (Own B w .u64 74 ao len cap zs) := ho
  by_cases hao : ao = none
  · subst hao
    obtain ⟨rfl, rfl⟩ : len = 0 ∧ cap = 0 := by
      rcases ho with ⟨_, h1, h2, _⟩ | ⟨g', off', cur, he, _⟩
      · exact ⟨h1, h2⟩
      · cases he
    have hbA : Below B w (w.alloc (.cells #[.int .u64 7] 74)) := (Below.refl B w).alloc hB _
    clear ho
    go_enter Tryz.func93, Tryz.ntmps93
    go_wp2
    go_loopw [2] (fun i wr => i = .int .i64 0 ∧ wr = w) (fun i _ => 0)
    case atStart => exact ⟨rfl, rfl⟩
    case round =>
      obtain ⟨rfl, rfl⟩ := hrel
      go_wp2_with (at_builtin; refine wpList_append_grows _ rfl _ _ 25 rfl 74 i0 (.int .u64 0) 1 8 Tryz.underlying25 hi hz0 hz1 hz2 rfl (by decide) none 0 0 [] rfl (fun _ => ⟨rfl, rfl⟩) rfl (fun b h => by cases h) ⟨wr.heap.size, 0, none⟩ 1 1 [.int .u64 7] rfl rfl (World.news_of_block (cs := #[.int .u64 7]) (t := 74) (fr := (0, 0)) (heap_alloc_new wr _)) (by simp [Value.oneCell']) (by decide) h63.out hby.out ?_; intro v' w' hown hgrow)
      go_end0
      exact ⟨rfl, hbA.trans ((grown_below hgrow).mono (Nat.le_trans hB hbA.size)), ((Stay.refl _ _).next ((Below.refl _ _).alloc (Nat.le_refl _) _)).next (grown_below hgrow)⟩
  · obtain ⟨⟨g, off, sp⟩, rfl⟩ : ∃ x, ao = some x := Option.ne_none_iff_exists'.1 hao
    obtain rfl : sp = none := by
      rcases ho with ⟨h, _⟩ | ⟨g', off', cur, he, _⟩
      · cases h
      · cases he; rfl
    obtain ⟨hsp, hBg, hlc⟩ := Spoil.ofOwn ho
    have HSP : Hid (Spoil w g off len cap) := hsp
    clear ho hsp hao
    go_enter Tryz.func93, Tryz.ntmps93
    go_wp2
    go_loopw [2] (fun i wr => ∃ k : Nat, k ≤ len ∧ i = .int .i64 k ∧ Spoil wr g off len cap ∧ Below B w wr ∧ Stay (some ⟨g, off, none⟩) w wr) (fun i _ => len - (intOf i).toNat)
    case atStart => exact ⟨0, Nat.zero_le _, rfl, HSP.out, Below.refl _ _, Stay.refl _ _⟩
    case round =>
      obtain ⟨k, hk, rfl, hsp, hbel, hsy⟩ := hrel
      have HSY : Hid (Stay (some ⟨g, off, none⟩) w wr) := hsy
      clear hsy
      have HS : Hid (Spoil wr g off len cap) := hsp
      have hgl := hsp.lt
      by_cases hlt : k < len
      · obtain ⟨z, hz⟩ := hsp.cell k hlt
        have hfz := hsp.soft (off + k)
        clear hsp
        go_wp2
        go_roundw
        case rel => exact ⟨k + 1, by omega, by go_num, HS.out.set hlt _, hbel.setCell (p := ⟨g, off + k, none⟩) hBg _, HSY.out.set _ _⟩
        case measure => simp [intOf]; omega
      · obtain rfl : k = len := by omega
        have hA := HS.out.later ((Below.refl wr.heap.size wr).alloc (Nat.le_refl _) (.cells #[.int .u64 7] 74))
        have hbA : Below B w (wr.alloc (.cells #[.int .u64 7] 74)) := hbel.alloc (Nat.le_trans hB hbel.size) _
        obtain ⟨olds, hol⟩ := hA.olds
        have HL : Hid (olds.length = k * 1 ∧ ∀ j u, olds[j]? = some u → (wr.alloc (.cells #[.int .u64 7] 74)).cell? ⟨g, off + j, none⟩ = some u) := hol
        have HP : Hid (k + 1 ≤ cap → ∀ j, j < [Value.int .u64 7].length → ((wr.alloc (.cells #[.int .u64 7] 74)).cell? ⟨g, off + k * 1 + j, none⟩).isSome = true ∧ (wr.alloc (.cells #[.int .u64 7] 74)).frozen? ⟨g, off + k * 1 + j, none⟩ = false) := fun h j hj => by
          obtain rfl : j = 0 := by simpa using hj
          exact ⟨by simpa using hA.room k (by omega), hA.soft _⟩
        clear hsp hol hA
        by_cases hr : k + 1 ≤ cap
        · go_wp2_with (at_builtin; refine wpList_append_arg _ rfl _ _ 25 rfl 74 i0 (.int .u64 0) 1 8 Tryz.underlying25 hi hz0 hz1 hz2 rfl (by decide) g off k cap olds rfl HL.out.1 HL.out.2 ⟨wr.heap.size, 0, none⟩ 1 1 [.int .u64 7] rfl rfl (World.news_of_block (cs := #[.int .u64 7]) (t := 74) (fr := (0, 0)) (heap_alloc_new wr _)) (by simp [Value.oneCell']) HP.out h63.out hby.out (fun _ => ?_) (fun h => absurd h (by omega)))
          go_end0
          exact ⟨rfl, below_cells hbA hBg, (HSY.out.next ((Below.refl _ _).alloc (Nat.le_refl _) _)).set _ _⟩
        · go_wp2_with (at_builtin; refine wpList_append_arg _ rfl _ _ 25 rfl 74 i0 (.int .u64 0) 1 8 Tryz.underlying25 hi hz0 hz1 hz2 rfl (by decide) g off k cap olds rfl HL.out.1 HL.out.2 ⟨wr.heap.size, 0, none⟩ 1 1 [.int .u64 7] rfl rfl (World.news_of_block (cs := #[.int .u64 7]) (t := 74) (fr := (0, 0)) (heap_alloc_new wr _)) (by simp [Value.oneCell']) HP.out h63.out hby.out (fun h => absurd h hr) (fun _ => ?_); intro v' w' hown hgrow)
          go_end0
          exact ⟨rfl, hbA.trans ((grown_below hgrow).mono (Nat.le_trans hB hbA.size)), (HSY.out.next ((Below.refl _ _).alloc (Nat.le_refl _) _)).next (grown_below hgrow)⟩
theorem spoil_any (B : Nat) (neg : Bool) (ao : Option Addr) (len cap : Nat) (zs : List Int) (w : World) (ho : Own B w .u64 74 ao len cap zs) (hB : B ≤ w.heap.size) (hl : len ≤ 8589934592) :
    Calls Tryz.prog 81 #[.agg #[.bool neg, .slice ao len cap]] w fun e w' => e = .returned (.tuple #[]) ∧ Below B w w' ∧ Stay ao w w' := by
  have hA : Below w.heap.size w (w.alloc (.cells #[.bool neg, .slice ao len cap] 28)) := (Below.refl _ _).alloc (Nat.le_refl _) _
  have HO : Hid (Own B (w.alloc (.cells #[.bool neg, .slice ao len cap] 28)) .u64 74 ao len cap zs) := ho.later hA
  clear ho
  go_enter Tryz.func81, Tryz.ntmps81
  go_wp2_with (go_at_call 93; refine (words_any B ao len cap zs _ HO.out (Nat.le_trans hB hA.size) hl).mono ?_; rintro e w1 ⟨rfl, hb1, hsy⟩)
  go_end0
  exact ⟨rfl, (below_less hA hB).trans hb1, Stay.after hA hsy⟩
end Go.Proofs.YtojmlcignlcbhaaGreat
