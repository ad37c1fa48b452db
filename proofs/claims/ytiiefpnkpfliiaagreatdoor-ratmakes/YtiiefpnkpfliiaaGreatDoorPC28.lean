/-
  A pack of walks and facts: SQ, Read.
-/
import Derived.Test.YtiiefpnkpfliiaaGreatDoorPC07
import Derived.Test.YtiiefpnkpfliiaaGreatDoorPC27
import Derived.Deep.DeepCutAuto
import Derived.Deep.CutBlock
import Derived.ProofKit
import Derived.OpenShut
import Derived.Deep.Slices
import Derived.Deep.Strs
set_option maxRecDepth 100000
set_option maxHeartbeats 40000000
set_option linter.unusedVariables false
set_option linter.unusedSimpArgs false
namespace Go.Proofs.YtiiefpnkpfliiaaGreatDoor
open Go.RowKit
theorem AnsRAt.later {Z0 X Y : World} {r : Nat} {a : Rat} (h : AnsRAt Z0 X r a) (hb : Below X.heap.size X Y) : AnsRAt Z0 Y r a := by
  obtain ⟨B, n, o, l, c, p, m, k, h1, h2, h3, h4, h5⟩ := h
  exact ⟨B, n, o, l, c, p, m, k, ⟨h1.box.later hb h1.slot.lt, h1.slot.at hb h1.slot.lt, h1.sg, h1.own.later hb, h1.own2.later hb, h1.pt, h1.len, h1.len2, h1.off, h1.off2⟩, h2, Nat.le_trans h3 hb.size, h4, bnext h5 hb⟩
theorem NilRAt.later {Z0 X Y : World} {r : Nat} (h : NilRAt Z0 X r) (hb : Below X.heap.size X Y) : NilRAt Z0 Y r := ⟨h.1.later hb h.2.1.lt, h.2.1.at hb h.2.1.lt, h.2.2.1, bnext h.2.2.2 hb⟩
def ResR (ec : Int) (W wx : World) (r : Nat) (v : Rat) : Prop := (ec = 0 ∧ AnsRAt W wx r v) ∨ (ec ≠ 0 ∧ NilRAt W wx r)
theorem ResR.later {ec : Int} {W X Y : World} {r : Nat} {v : Rat} (h : ResR ec W X r v) (hb : Below X.heap.size X Y) : ResR ec W Y r v := by
  rcases h with ⟨e, h⟩ | ⟨e, h⟩
  · exact Or.inl ⟨e, h.later hb⟩
  · exact Or.inr ⟨e, h.later hb⟩
theorem ResR.slot {ec : Int} {W X : World} {r : Nat} {v : Rat} (h : ResR ec W X r v) : Slot3 X r ∧ W.heap.size ≤ r ∧ Below W.heap.size W X := by
  rcases h with ⟨e, B, n, o, l, c, p, m, k, h1, h2, h3, h4, h5⟩ | ⟨e, h⟩
  · exact ⟨h1.slot, h4, h5⟩
  · exact ⟨h.2.1, h.2.2.1, h.2.2.2⟩
theorem own_far {B r j : Nat} {w : World} {k : IntKind} {t : TypeId} {ao : Option Addr} {len cap : Nat} {zs : List Int} (h : Own B w k t ao len cap zs) (hf : ∀ p : Addr, ao = some p → p.block ≠ r) (v : Value) : Own B (w.setCell ⟨r, j, none⟩ v) k t ao len cap zs := by
  rcases h with h | ⟨g, off, L, h1, h2, h3, h4⟩
  · exact Or.inl h
  · have hg : g ≠ r := hf _ h1
    exact Or.inr ⟨g, off, L, h1, h2, by rw [Below.heap_setCell _ _ _ _ (by first | exact hg | exact Ne.symm hg)]; exact h3, h4⟩
theorem slot_off {Z : World} {r s : Nat} (h : Slot3 Z s) (hs : s ≠ r) (x y z : Value) : Slot3 (((Z.setCell ⟨r, 0, none⟩ x).setCell ⟨r, 1, none⟩ y).setCell ⟨r, 2, none⟩ z) s := by
  obtain ⟨⟨n, o, l, c, p, m, k, hb⟩, hf⟩ := h
  exact ⟨⟨n, o, l, c, p, m, k, boxed3_off hb hs x y z⟩, fun j => by rw [frozen_off, frozen_off, frozen_off]; exact hf j⟩
def ResA (ec : Int) (W wx : World) (r5 r8 : Nat) (v : Rat) : Prop :=
  (ec = 0 ∧ ∃ B n o l c p m k, AnsR B wx r5 n o l c p m k v ∧ W.heap.size ≤ B ∧ B ≤ wx.heap.size ∧ Below W.heap.size W wx ∧ (∀ q : Addr, o = some q → q.block ≠ r8) ∧ (∀ q : Addr, p = some q → q.block ≠ r8)) ∨ (ec ≠ 0 ∧ NilRAt W wx r5)
theorem ResA.later {ec : Int} {W X Y : World} {r r8 : Nat} {v : Rat} (h : ResA ec W X r r8 v) (hb : Below X.heap.size X Y) : ResA ec W Y r r8 v := by
  rcases h with ⟨e, B, n, o, l, c, p, m, k, h1, h2, h3, h4, h5, h6⟩ | ⟨e, h⟩
  · exact Or.inl ⟨e, B, n, o, l, c, p, m, k, ⟨h1.box.later hb h1.slot.lt, h1.slot.at hb h1.slot.lt, h1.sg, h1.own.later hb, h1.own2.later hb, h1.pt, h1.len, h1.len2, h1.off, h1.off2⟩, h2, Nat.le_trans h3 hb.size, bnext h4 hb, h5, h6⟩
  · exact Or.inr ⟨e, h.later hb⟩
theorem ResA.bel {ec : Int} {W X : World} {r r8 : Nat} {v : Rat} (h : ResA ec W X r r8 v) : Below W.heap.size W X := by
  rcases h with ⟨e, B, n, o, l, c, p, m, k, h1, h2, h3, h4, h5, h6⟩ | ⟨e, h⟩
  · exact h4
  · exact h.2.2.2
theorem ResA.off {ec : Int} {W X : World} {r r8 : Nat} {v : Rat} (h : ResA ec W X r r8 v) (hne : r ≠ r8) (hr8 : W.heap.size ≤ r8) (x y z : Value) : ResA ec W (((X.setCell ⟨r8, 0, none⟩ x).setCell ⟨r8, 1, none⟩ y).setCell ⟨r8, 2, none⟩ z) r r8 v := by
  rcases h with ⟨e, B, n, o, l, c, p, m, k, h1, h2, h3, h4, h5, h6⟩ | ⟨e, h⟩
  · exact Or.inl ⟨e, B, n, o, l, c, p, m, k, ⟨boxed3_off h1.box hne _ _ _, slot_off h1.slot hne _ _ _, h1.sg, own_far (own_far (own_far h1.own h5 _) h5 _) h5 _, own_far (own_far (own_far h1.own2 h6 _) h6 _) h6 _, h1.pt, h1.len, h1.len2, h1.off, h1.off2⟩, h2, by rw [put3_size]; exact h3, below_store3 h4 hr8 _ _ _, h5, h6⟩
  · exact Or.inr ⟨e, boxed3_off h.1 hne _ _ _, slot_off h.2.1 hne _ _ _, h.2.2.1, below_store3 h.2.2.2 hr8 _ _ _⟩
theorem ResR.apart {ec : Int} {W X : World} {r r8 : Nat} {v : Rat} (h : ResR ec W X r v) (h8 : X.heap.size ≤ r8) : ResA ec W X r r8 v := by
  rcases h with ⟨e, B, n, o, l, c, p, m, k, h1, h2, h3, h4, h5⟩ | ⟨e, h⟩
  · exact Or.inl ⟨e, B, n, o, l, c, p, m, k, h1, h2, h3, h5, fun q hq => Nat.ne_of_lt (Nat.lt_of_lt_of_le (h1.own.lt_of3 q hq).2 h8), fun q hq => Nat.ne_of_lt (Nat.lt_of_lt_of_le (h1.own2.lt_of3 q hq).2 h8)⟩
  · exact Or.inr ⟨e, h⟩
theorem resA_good {W X : World} {r r8 : Nat} {v : Rat} (h : ResA 0 W X r r8 v) : ∃ B n o l c p m k, AnsR B X r n o l c p m k v ∧ W.heap.size ≤ B ∧ B ≤ X.heap.size ∧ Below W.heap.size W X ∧ (∀ q : Addr, o = some q → q.block ≠ r8) ∧ (∀ q : Addr, p = some q → q.block ≠ r8) := by
  rcases h with ⟨_, h⟩ | ⟨h, _⟩
  · exact h
  · exact absurd rfl h
theorem resA_bad {ec : Int} {W X : World} {r r8 : Nat} {v : Rat} (h : ResA ec W X r r8 v) (he : ec ≠ 0) : NilRAt W X r := by
  rcases h with ⟨h, _⟩ | ⟨_, h⟩
  · exact absurd h he
  · exact h
theorem cmpQ_le2 {a b : Rat} (h : LeQ a b) : cmpQ a b = -1 ∨ cmpQ a b = 0 := by
  rcases cmpI_vals (a.num * (b.den : Int)) (b.num * (a.den : Int)) with e | e | e
  · exact Or.inl e
  · exact Or.inr e
  · exfalso; unfold LeQ at h; unfold cmpI at e; split at e; omega; split at e; omega; omega
theorem cmpQ_nle2 {a b : Rat} (h : ¬ LeQ a b) : cmpQ a b = 1 := by
  unfold LeQ at h
  show cmpI _ _ = 1
  unfold cmpI
  rw [if_neg (by omega), if_pos (by omega)]
def VarA (ec : Int) (wx : World) (r8 : Nat) (v : Rat) : Prop := ∃ wo, VarR wx r8 wo ∧ (ec = 0 → wo = some v)
theorem VarA.slot {ec : Int} {X : World} {r8 : Nat} {v : Rat} (h : VarA ec X r8 v) : Slot3 X r8 := by obtain ⟨wo, h, _⟩ := h; exact h.slot
theorem varA_bad {ec : Int} {X : World} {r8 : Nat} {v : Rat} (h : Slot3 X r8) (he : ec ≠ 0) : VarA ec X r8 v := by
  obtain ⟨⟨n, o, l, c, p, m, k, hb⟩, hf⟩ := h
  exact ⟨none, ⟨n, o, l, c, p, m, k, hb, fun a e => (by cases e), hf⟩, fun e => absurd e he⟩
theorem resA_put {W Y y5 : World} {r r8 : Nat} {n : Bool} {o p : Option Addr} {l c m k : Nat} {a : Rat} (hr : Slot3 Y r) (h8 : r8 < Y.heap.size) (hK : W.heap.size ≤ r) (h0 : Below W.heap.size W Y) (hb : Below Y.heap.size Y y5) (hs : n = sgB a.num) (ho : Own Y.heap.size y5 .u64 59 o l c (mag a.num.natAbs)) (hp : Own Y.heap.size y5 .u64 59 p m k (mag a.den)) (hpt : Parted o p) (hl : l ≤ 1000) (hl' : m ≤ 1000) : ResA 0 W (((y5.setCell ⟨r, 0, none⟩ (.bool n)).setCell ⟨r, 1, none⟩ (.slice o l c)).setCell ⟨r, 2, none⟩ (.slice p m k)) r r8 a :=
  Or.inl ⟨rfl, _, _, _, _, _, _, _, _, AnsR.put (hr.at hb hr.lt) hr.lt hs ho hp hpt hl hl', h0.size, by rw [put3_size]; exact hb.size, below_store3 (bnext h0 hb) hK _ _ _, fun q hq => by have := (ho.lt_of3 q hq).1; omega, fun q hq => by have := (hp.lt_of3 q hq).1; omega⟩
theorem Sz.pow {a : Rat} {n : Int} (h : Sz a 8) (hn : -64 ≤ n ∧ n ≤ 64) (h0 : a ≠ 0 ∨ 0 ≤ n) : Sz (a ^ n) 1000 := by
  have key : ∀ (b : Rat) (m : Nat), Sz b 8 → m ≤ 64 → Sz (b ^ m) 1000 := fun b m hb hm => by
    have h1 := len_pow b.num m
    have h2 := len_pow (b.den : Int) m
    rw [← Int.natCast_pow, Int.natAbs_natCast, Int.natAbs_natCast] at h2
    have h3 : (mag b.num.natAbs).length * m ≤ 8 * 64 := Nat.mul_le_mul hb.1 hm
    have h4 : (mag b.den).length * m ≤ 8 * 64 := Nat.mul_le_mul hb.2 hm
    exact ⟨by rw [Rat.num_pow]; omega, by rw [Rat.den_pow]; omega⟩
  by_cases hs : 0 ≤ n
  · obtain ⟨m, rfl⟩ : ∃ m : Nat, n = (m : Int) := ⟨n.toNat, by omega⟩
    rw [Rat.zpow_natCast]; exact key a m h (by omega)
  · obtain ⟨m, rfl⟩ : ∃ m : Nat, n = -(m : Int) := ⟨n.natAbs, by omega⟩
    rw [← inv_pow]
    exact key _ m (h.inv (by rcases h0 with h | h; exact h; omega)) (by omega)
theorem ans_new2 {W Y y5 : World} {n : Bool} {o p : Option Addr} {l c m k : Nat} {a : Rat} (h0 : Below W.heap.size W Y) (hb : Below Y.heap.size Y y5) (hs : n = sgB a.num) (ho : Own Y.heap.size y5 .u64 59 o l c (mag a.num.natAbs)) (hp : Own Y.heap.size y5 .u64 59 p m k (mag a.den)) (hpt : Parted o p) (hl : l ≤ 1000) (hl' : m ≤ 1000) : AnsRAt W (y5.alloc (.cells #[.bool n, .slice o l c, .slice p m k] 28)) y5.heap.size a :=
  ans_new (bnext h0 hb) hs (ho.mono h0.size) (hp.mono h0.size) hpt hl hl'
def MkCase (na : Bool) (x f : List Int) (lq : Nat) (ec : Int) (vm : Rat) : Prop :=
  (mayB na x = false ∧ ec = 20) ∨ ((mayB na x = true ∧ mayB false f = false) ∧ ec = 20) ∨ ((mayB na x = true ∧ mayB false f = true) ∧ lq = 0 ∧ ec = 21) ∨
  ((mayB na x = true ∧ mayB false f = true) ∧ lq ≠ 0 ∧ ec = 0 ∧ ∃ (v : Int) (d : Nat) (h0 : d ≠ 0), (x = mag v.natAbs ∧ na = sgB v) ∧ f = mag d ∧ vm = Rat.normalize v d h0 ∧ Sz vm 8)
theorem mkCase_is {w : World} {na : Bool} {ao qo : Option Addr} {la ca lq cq : Nat} {x f : List Int} (hx : RowAt w .u64 ao la ca x) (wx : Wd 18446744073709551616 x) (hf : RowAt w .u64 qo lq cq f) (wf : Wd 18446744073709551616 f) (hl : la ≤ 8) (hl' : lq ≤ 8) : ∃ ec vm, MkCase na x f lq ec vm := by
  cases h1 : mayB na x
  · exact ⟨20, 0, Or.inl ⟨h1, rfl⟩⟩
  cases h2 : mayB false f
  · exact ⟨20, 0, Or.inr (Or.inl ⟨⟨h1, h2⟩, rfl⟩)⟩
  by_cases h3 : lq = 0
  · exact ⟨21, 0, Or.inr (Or.inr (Or.inl ⟨⟨h1, h2⟩, h3, rfl⟩))⟩
  obtain ⟨v, hv, ev⟩ := int_of_may hx wx h1
  obtain ⟨d, hd, ed⟩ := int_of_may hf wf h2
  have h0 : d.natAbs ≠ 0 := fun e => by have h5 := hd.row.hlen; rw [e] at h5; exact h3 h5
  exact ⟨0, Rat.normalize v d.natAbs h0, Or.inr (Or.inr (Or.inr ⟨⟨h1, h2⟩, h3, rfl, v, d.natAbs, h0, ⟨ev, hv.sg⟩, ed, rfl, Sz.make h0 (by rw [← hv.row.hlen]; exact hl) (by rw [← hd.row.hlen]; exact hl')⟩))⟩
def PwCase (W : World) (na : Bool) (ao : Option Addr) (la ca : Nat) (po : Option Addr) (lp cp : Nat) (x d : List Int) (N ec : Int) (v : Rat) : Prop :=
  (mayR na x d = false ∧ ec = 20) ∨ (mayR na x d = true ∧ ∃ va, RatAt W na ao la ca po lp cp va ∧ Sz va 8 ∧ (N < -64 ∨ 64 < N) ∧ ec = 22) ∨ (mayR na x d = true ∧ ∃ va, RatAt W na ao la ca po lp cp va ∧ Sz va 8 ∧ (N < 0 ∧ -64 ≤ N) ∧ va.num = 0 ∧ ec = 21) ∨
  (mayR na x d = true ∧ ∃ va, RatAt W na ao la ca po lp cp va ∧ Sz va 8 ∧ (-64 ≤ N ∧ N ≤ 64) ∧ (va ≠ 0 ∨ 0 ≤ N) ∧ ec = 0 ∧ v = va ^ N)
theorem pwCase_is {w : World} {na : Bool} {ao po : Option Addr} {la ca lp cp : Nat} {x d : List Int} {N : Int} (hx : RowAt w .u64 ao la ca x) (wx : Wd 18446744073709551616 x) (hd : RowAt w .u64 po lp cp d) (wd : Wd 18446744073709551616 d) (hl : la ≤ 8) (hl' : lp ≤ 8) : ∃ ec v, PwCase w na ao la ca po lp cp x d N ec v := by
  cases h1 : mayR na x d
  · exact ⟨20, 0, Or.inl ⟨h1, rfl⟩⟩
  obtain ⟨va, hra, _, _⟩ := rat_of_may hx wx hd wd h1
  have hsz : Sz va 8 := ⟨by rw [← hra.num.row.hlen]; exact hl, by rw [← hra.den.hlen]; exact hl'⟩
  by_cases h2 : N < -64 ∨ 64 < N
  · exact ⟨22, 0, Or.inr (Or.inl ⟨h1, va, hra, hsz, h2, rfl⟩)⟩
  by_cases h3 : va.num = 0 ∧ N < 0
  · exact ⟨21, 0, Or.inr (Or.inr (Or.inl ⟨h1, va, hra, hsz, ⟨h3.2, by omega⟩, h3.1, rfl⟩))⟩
  · refine ⟨0, va ^ N, Or.inr (Or.inr (Or.inr ⟨h1, va, hra, hsz, ⟨by omega, by omega⟩, ?_, rfl, rfl⟩))⟩
    by_cases h4 : va.num = 0
    · exact Or.inr (by omega)
    · exact Or.inl (fun e => h4 (by rw [e]; rfl))
theorem ratMakes_any (lo : Option Addr) (len cap : Nat) (w : World) (hE : ElemsR w lo len) (hl : len ≤ 9223372036854775807) (hT0 : TabAt 0 Lib.deBruijn64tab w) (hP0 : Pow10 w) :
    Calls Tryz.prog 4 #[.slice lo len cap] w fun e w' => e = .returned (.bool true) ∧ Below w.heap.size w w' := by
 have HT : Hid (TabAt 0 Lib.deBruijn64tab w ∧ Pow10 w) := ⟨hT0, hP0⟩
 clear hT0 hP0
 go_enter Tryz.func4, Tryz.ntmps4
 go_wp2
 go_loopw [3] (fun i wr => ∃ k : Nat, k ≤ len ∧ k ≤ 30 ∧ i = .int .i64 k ∧ Below w.heap.size w wr) (fun i _ => 30 - (intOf i).toNat)
 case atStart => exact ⟨0, Nat.zero_le _, by omega, rfl, Below.refl _ _⟩
 case round =>
  obtain ⟨k, hk, hk30, rfl, hbel⟩ := hrel
  by_cases hlt : k < len ∧ k < 30
  · as_aux_lemma =>
   obtain ⟨hlt, hlt30⟩ := hlt
   obtain ⟨b, off, rfl, hbw, hel⟩ := hE k hlt
   obtain ⟨na, nb, ao, po, bo, qo, la, ca, lp, cp, lb, cb, lq, cq, N, x, d, y, f, ⟨h0, h1, h2, h3, h4, h5, h6⟩, r1, v1, r2, v2, r3, v3, r4, v4, hn1, hn2⟩ := hel.later hbel hbw
   obtain ⟨W, hT⟩ := InR.mk' wr na nb ao po bo qo la ca lp cp lb cb lq cq N
   have hsz := hT.size
   have hbW : Below w.heap.size w W := bnext hbel hT.below
   have HX : Hid (RowAt W .u64 ao la ca x ∧ RowAt W .u64 po lp cp d ∧ RowAt W .u64 bo lb cb y ∧ RowAt W .u64 qo lq cq f) := ⟨r1.later hT.below, r2.later hT.below, r3.later hT.below, r4.later hT.below⟩
   have HWd : Hid (Wd 18446744073709551616 x ∧ Wd 18446744073709551616 d ∧ Wd 18446744073709551616 y ∧ Wd 18446744073709551616 f) := ⟨v1, v2, v3, v4⟩
   have HTW : Hid (TabAt 0 Lib.deBruijn64tab W ∧ Below w.heap.size w W) := ⟨tab_later HT.out.1 hbW, hbW⟩
   clear r1 r2 r3 r4 v1 v2 v3 v4 hel
   go_upto_region 5 with fail
   rw [← hT.eq]
   clear h0 h1 h2 h3 h4 h5 h6
   have HP0 : Hid (Boxed7 W wr.heap.size na nb ao po bo qo la ca lp cp lb cb lq cq N) := hT.p
   obtain ⟨q0, q1, q2, q3, q4, q5, q6⟩ := hT.p
   have hpW : wr.heap.size < W.heap.size := by omega
   obtain ⟨rP, hrP⟩ : ∃ r, wr.heap.size = r := ⟨_, rfl⟩
   rw [hrP] at hpW HP0 q0 q1 q2 q3 q4 q5 q6
   rw [hrP]
   clear hrP hT hsz hbW hbw
   cases hhv : ((decide ((8 : Int) < (la : Int)) || decide ((8 : Int) < (lp : Int))) || (decide ((8 : Int) < (lb : Int)) || decide ((8 : Int) < (lq : Int))))
   · as_aux_lemma =>
    have HH : Hid (((decide ((8 : Int) < (la : Int)) || decide ((8 : Int) < (lp : Int))) || (decide ((8 : Int) < (lb : Int)) || decide ((8 : Int) < (lq : Int)))) = false) := hhv
    have hla : la ≤ 8 := by simp at hhv; omega
    have hlp : lp ≤ 8 := by simp at hhv; omega
    have hlb : lb ≤ 8 := by simp at hhv; omega
    have hlq : lq ≤ 8 := by simp at hhv; omega
    clear hhv
    go_upto_region 7 with (go_at_call 6; refine (heavyR_any na nb ao po bo qo la ca lp cp lb cb lq cq N _ false HH.out).mono ?_; rintro e w1 ⟨rfl, hb1⟩; clear q0 q1 q2 q3 q4 q5 q6; obtain ⟨q0, q1, q2, q3, q4, q5, q6⟩ := HP0.out.later hb1 hpW)
    obtain ⟨ec, vm, hcase⟩ := mkCase_is HX.out.1 HWd.out.1 HX.out.2.2.2 HWd.out.2.2.2 hla hlq (na := na)
    have HC1 : Hid (MkCase na x f lq ec vm) := hcase
    have HB1 : Hid (Below W.heap.size W w1) := hb1
    clear hcase hb1
    go_cut [5, 6] (fun s5 s6 wx => ∃ r, s5 = .pointer (some ⟨r, 0, none⟩) ∧ s6 = .int .i64 ec ∧ ResR ec W wx r vm)
    case first => as_aux_lemma =>
     rcases HC1.out with ⟨hm, rfl⟩ | ⟨⟨hm, hm2⟩, rfl⟩ | ⟨⟨hm, hm2⟩, hz, rfl⟩ | ⟨⟨hm, hm2⟩, hz, rfl, v, d9, h0, hxv, hfd, hvm, hsz⟩
     · as_aux_lemma =>
      have hcon := make_bad1 na ao qo la ca lq cq x f _ (HX.out.1.later HB1.out) (HX.out.2.2.2.later HB1.out) (by omega) (by omega) hm
      clear hm
      go_wp2_with (go_at_call 33; refine hcon.mono ?_; rintro e y ⟨rfl, hb⟩; have HY : Hid (Below W.heap.size W y) := bnext HB1.out hb; clear hb)
      go_meet
      exact ⟨_, rfl, rfl, Or.inr ⟨by decide, nil_new HY.out⟩⟩
     · as_aux_lemma =>
      have hcon := make_bad2 na ao qo la ca lq cq x f _ (HX.out.1.later HB1.out) (HX.out.2.2.2.later HB1.out) (by omega) (by omega) hm hm2
      clear hm hm2
      go_wp2_with (go_at_call 33; refine hcon.mono ?_; rintro e y ⟨rfl, hb⟩; have HY : Hid (Below W.heap.size W y) := bnext HB1.out hb; clear hb)
      go_meet
      exact ⟨_, rfl, rfl, Or.inr ⟨by decide, nil_new HY.out⟩⟩
     · as_aux_lemma =>
      have hcon := make_zero na ao qo la ca lq cq x f _ (HX.out.1.later HB1.out) (HX.out.2.2.2.later HB1.out) (by omega) (by omega) hm hm2 hz
      clear hm hm2 hz
      go_wp2_with (go_at_call 33; refine hcon.mono ?_; rintro e y ⟨rfl, hb⟩; have HY : Hid (Below W.heap.size W y) := bnext HB1.out hb; clear hb)
      go_meet
      exact ⟨_, rfl, rfl, Or.inr ⟨by decide, nil_new HY.out⟩⟩
     · as_aux_lemma =>
      have HSM : Hid (Sz vm 8) := hsz
      have hcon := make_good na ao qo la ca lq cq x f v d9 _ (HX.out.1.later HB1.out) (HX.out.2.2.2.later HB1.out) (by omega) (by omega) hm hm2 hxv hfd h0 (tab_later HTW.out.1 HB1.out) vm hvm
      clear hm hm2 hz hxv hfd hvm hsz
      go_wp2_with (go_at_call 33; refine hcon.mono ?_; rintro e y ⟨n9, o9, l9, c9, p9, m9, k9, rfl, hs, ho, hp, hpt, hb⟩; have HY : Hid (n9 = sgB (vm).num ∧ Own w1.heap.size y .u64 59 o9 l9 c9 (mag (vm).num.natAbs) ∧ Own w1.heap.size y .u64 59 p9 m9 k9 (mag (vm).den) ∧ Parted o9 p9 ∧ Below w1.heap.size w1 y ∧ l9 ≤ 1000 ∧ m9 ≤ 1000) := (by have h1 := ho.row.hlen; have h2 := hp.row.hlen; have h3 := (HSM.out.mono (show 8 ≤ 1000 by decide)); exact ⟨hs, ho, hp, hpt, hb, by rw [h1]; exact h3.1, by rw [h2]; exact h3.2⟩); clear hs ho hp hpt hb)
      go_meet
      exact ⟨_, rfl, rfl, Or.inl ⟨rfl, ans_new2 HB1.out HY.out.2.2.2.2.1 HY.out.1 HY.out.2.1 HY.out.2.2.1 HY.out.2.2.2.1 HY.out.2.2.2.2.2.1 HY.out.2.2.2.2.2.2⟩⟩
    case rest => as_aux_lemma =>
     obtain ⟨r5, rfl, rfl, hres⟩ := hcut
     obtain ⟨X1, hX1⟩ : ∃ Z, Z = wc := ⟨_, rfl⟩
     rw [← hX1] at hres
     rw [← hX1]
     clear hX1
     have HR1 : Hid (ResR ec W X1 r5 vm) := hres
     have hr5 := hres.slot.2.1
     have hx1 := hres.slot.2.2.size
     clear hres q0 q1 q2 q3 q4 q5 q6 HB1
     go_upto_region 9 with fail
     go_cut [8] (fun s8 wx => ∃ r, s8 = .pointer (some ⟨r, 0, none⟩) ∧ Slot3 wx r ∧ X1.heap.size ≤ r ∧ Below X1.heap.size X1 wx)
     case first => as_aux_lemma =>
      go_wp2
      go_meet
      exact ⟨_, rfl, Slot3.new, Nat.le_refl _, below_alloc (Below.refl _ _) (Nat.le_refl _)⟩
     case rest => as_aux_lemma =>
      obtain ⟨r8, rfl, hs8, hr8, hb8⟩ := hcut
      obtain ⟨X2, hX2⟩ : ∃ Z, Z = wc := ⟨_, rfl⟩
      rw [← hX2] at hs8 hb8
      rw [← hX2]
      clear hX2
      have HX2 : Hid (Slot3 X2 r8 ∧ Below X1.heap.size X1 X2) := ⟨hs8, hb8⟩
      clear hs8 hb8
      have HR2 : Hid (ResA ec W X2 r5 r8 vm) := (HR1.out.apart hr8).later HX2.out.2
      have hne : r5 ≠ r8 := by have := HR1.out.slot.1.lt; omega
      have hr8W : W.heap.size ≤ r8 := by omega
      clear HR1
      go_upto_block 2 with fail
      go_cut [7] (fun s7 wx => s7 = .int .i64 ec ∧ ResA ec W wx r5 r8 vm ∧ VarA ec wx r8 vm)
      case first => as_aux_lemma =>
       obtain ⟨q0, q1, q2, q3, q4, q5, q6⟩ := HP0.out.later HR2.out.bel hpW
       rcases HC1.out with ⟨hm, rfl⟩ | ⟨⟨hm, hm2⟩, rfl⟩ | ⟨⟨hm, hm2⟩, hz, rfl⟩ | ⟨⟨hm, hm2⟩, hz, rfl, v, d9, h0, hxv, hfd, hvm, hsz⟩
       · as_aux_lemma =>
        have HM : Hid (mayB na x = false) := hm
        clear hm
        go_wp2_with (go_at_call 34; refine (may_at na ao la ca x _ (HX.out.1.later HR2.out.bel) (by omega) false HM.out).mono ?_; rintro e t1 ⟨rfl, ht1⟩; clear q0 q1 q2 q3 q4 q5 q6; obtain ⟨q0, q1, q2, q3, q4, q5, q6⟩ := HP0.out.later (bnext HR2.out.bel ht1) hpW)
        go_meet
        exact ⟨rfl, HR2.out.later ht1, varA_bad (HX2.out.1.at ht1 HX2.out.1.lt) (by decide)⟩
       · as_aux_lemma =>
        have HM : Hid (mayB na x = true) := hm
        have HM2 : Hid (mayB false f = false) := hm2
        clear hm hm2
        go_wp2_with (first
         | (go_at_call 35; refine ((nmay_any qo lq cq f _ ((HX.out.2.2.2.later HR2.out.bel).later ht1) (by omega)).mono (fun e w' k => (by rw [nmay_eq, HM2.out] at k; exact k : e = .returned (.bool false) ∧ w' = t1))).mono ?_; rintro e t2 ⟨rfl, hw2⟩; replace hw2 := hw2.symm; subst hw2)
         | (go_at_call 34; refine (may_at na ao la ca x _ (HX.out.1.later HR2.out.bel) (by omega) true HM.out).mono ?_; rintro e t1 ⟨rfl, ht1⟩; clear q0 q1 q2 q3 q4 q5 q6; obtain ⟨q0, q1, q2, q3, q4, q5, q6⟩ := HP0.out.later (bnext HR2.out.bel ht1) hpW))
        go_meet
        exact ⟨rfl, HR2.out.later ht1, varA_bad (HX2.out.1.at ht1 HX2.out.1.lt) (by decide)⟩
       · as_aux_lemma =>
        have HM : Hid (mayB na x = true) := hm
        have HM2 : Hid (mayB false f = true) := hm2
        have hz' : ((lq : Int) == 0) = true := by rw [hz]; rfl
        clear hm hm2 hz
        go_wp2_with (first
         | (go_at_call 35; refine ((nmay_any qo lq cq f _ ((HX.out.2.2.2.later HR2.out.bel).later ht1) (by omega)).mono (fun e w' k => (by rw [nmay_eq, HM2.out] at k; exact k : e = .returned (.bool true) ∧ w' = t1))).mono ?_; rintro e t2 ⟨rfl, hw2⟩; replace hw2 := hw2.symm; subst hw2)
         | (go_at_call 34; refine (may_at na ao la ca x _ (HX.out.1.later HR2.out.bel) (by omega) true HM.out).mono ?_; rintro e t1 ⟨rfl, ht1⟩; clear q0 q1 q2 q3 q4 q5 q6; obtain ⟨q0, q1, q2, q3, q4, q5, q6⟩ := HP0.out.later (bnext HR2.out.bel ht1) hpW))
        go_meet
        exact ⟨rfl, HR2.out.later ht1, varA_bad (HX2.out.1.at ht1 HX2.out.1.lt) (by decide)⟩
       · as_aux_lemma =>
        have HM : Hid (mayB na x = true) := hm
        have HM2 : Hid (mayB false f = true) := hm2
        have hz' : ((lq : Int) == 0) = false := by simp; omega
        have HV : Hid ((IntAt W na ao la ca v ∧ RowAt W .u64 qo lq cq (mag d9)) ∧ vm = Rat.normalize v d9 h0) := ⟨⟨⟨hxv.2, hxv.1 ▸ HX.out.1⟩, hfd ▸ HX.out.2.2.2⟩, hvm⟩
        clear hm hm2 hz hxv hfd hvm hsz
        go_wp2_with (first
         | (go_at_call 35; refine ((nmay_any qo lq cq f _ ((HX.out.2.2.2.later HR2.out.bel).later ht1) (by omega)).mono (fun e w' k => (by rw [nmay_eq, HM2.out] at k; exact k : e = .returned (.bool true) ∧ w' = t1))).mono ?_; rintro e t2 ⟨rfl, hw2⟩; replace hw2 := hw2.symm; subst hw2)
         | (go_at_call 34; refine (may_at na ao la ca x _ (HX.out.1.later HR2.out.bel) (by omega) true HM.out).mono ?_; rintro e t1 ⟨rfl, ht1⟩; clear q0 q1 q2 q3 q4 q5 q6; obtain ⟨q0, q1, q2, q3, q4, q5, q6⟩ := HP0.out.later (bnext HR2.out.bel ht1) hpW)
         | (go_at_call 36; refine (qmake_any na ao qo la ca lq cq v d9 _ (HV.out.1.1.later (bnext HR2.out.bel ht1)) (HV.out.1.2.later (bnext HR2.out.bel ht1)) h0 (by omega) (by omega) vm HV.out.2).mono ?_; rintro e t3 ⟨n4, o4, l4, c4, p4, m4, k4, rfl, hr, hb⟩; have HY : Hid (RatAt t3 n4 o4 l4 c4 p4 m4 k4 vm ∧ Below X2.heap.size X2 t3) := ⟨hr, bnext ht1 hb⟩; clear hr hb; obtain ⟨⟨n3, o3, l3, c3, p3, m3, k3, g2, g3, g4⟩, g5⟩ := HX2.out.1.at HY.out.2 HX2.out.1.lt))
        go_meet
        exact ⟨rfl, (HR2.out.later HY.out.2).off hne hr8W _ _ _, ⟨_, VarR.put (HX2.out.1.at HY.out.2 HX2.out.1.lt) HY.out.1, fun _ => rfl⟩⟩
      case rest => as_aux_lemma =>
       obtain ⟨rfl, hra, hva⟩ := hcut
       obtain ⟨X3, hX3⟩ : ∃ Z, Z = wc := ⟨_, rfl⟩
       rw [← hX3] at hra hva
       rw [← hX3]
       clear hX3
       have HRA : Hid (ResA ec W X3 r5 r8 vm) := hra
       have HVA : Hid (VarA ec X3 r8 vm) := hva
       clear hra hva HR2 HX2 HC1 hr8 hx1
       go_upto_region 15 with fail
       go_cut [66] (fun s9 wx => s9 = .bool false ∧ Slot3 wx r5 ∧ Slot3 wx r8 ∧ Below W.heap.size W wx)
       case first => as_aux_lemma =>
        obtain ⟨wo, ⟨n8, o8, l8, c8, p8, m8, k8, hb8, hi8, hf8⟩, hwo⟩ := HVA.out
        have HS8 : Hid (Slot3 X3 r8) := ⟨⟨n8, o8, l8, c8, p8, m8, k8, hb8⟩, hf8⟩
        obtain ⟨g80, g81, g82⟩ := hb8
        rcases HRA.out with ⟨he, B, n7, o7, l7, c7, p7, m7, k7, z1, z2, z3, z5, z6, z7⟩ | ⟨he, z1, z2, z3, z4⟩
        · as_aux_lemma =>
         subst he
         have HQ : Hid (AnsR B X3 r5 n7 o7 l7 c7 p7 m7 k7 (vm) ∧ W.heap.size ≤ B ∧ B ≤ X3.heap.size ∧ Below W.heap.size W X3 ∧ RatAt X3 n8 o8 l8 c8 p8 m8 k8 (vm) ∧ (∀ q : Addr, o7 = some q → q.block ≠ r8) ∧ (∀ q : Addr, p7 = some q → q.block ≠ r8)) := ⟨z1, z2, z3, z5, hi8 _ (hwo rfl), z6, z7⟩
         obtain ⟨g70, g71, g72⟩ := z1.box
         clear z1 z2 z3 z5 z6 z7 hi8 hf8 hwo
         go_wp2_with (go_at_call 37; refine (is2_good B n7 n8 o7 p7 o8 p8 l7 c7 m7 k7 l8 c8 m8 k8 (vm) _ HQ.out.1.sg HQ.out.1.own HQ.out.1.own2 HQ.out.1.pt HQ.out.2.2.1 HQ.out.2.2.2.2.1 (Nat.le_trans HQ.out.1.len (by decide)) (Nat.le_trans HQ.out.1.len2 (by decide))).mono ?_; rintro e y6 ⟨rfl, hb6, hsy, hz6⟩; have HA6 : Hid (Stay2 o7 p7 X3 y6) := hsy; have HA7 : Hid (Below W.heap.size W y6) := HQ.out.2.2.2.1.trans (hb6.mono HQ.out.2.1); clear hb6 hsy hz6)
         go_meet
         exact ⟨rfl, HQ.out.1.slot.stay HA6.out HQ.out.1.off HQ.out.1.off2, HS8.out.stay HA6.out HQ.out.2.2.2.2.2.1 HQ.out.2.2.2.2.2.2, HA7.out⟩
        · as_aux_lemma =>
         have HQ : Hid (Slot3 X3 r5 ∧ Below W.heap.size W X3 ∧ ec ≠ 0) := ⟨z2, z4, he⟩
         obtain ⟨g70, g71, g72⟩ := z1
         clear z2 z3 z4 hi8 hf8 hwo he
         go_wp2_with (go_at_call 37; refine (is2_bad n8 o8 p8 l8 c8 m8 k8 ec _ HQ.out.2.2).mono ?_; rintro e y6 ⟨rfl, hb6⟩; have HA6 : Hid (Below X3.heap.size X3 y6) := hb6; have HA7 : Hid (Below W.heap.size W y6) := bnext HQ.out.2.1 hb6; clear hb6)
         go_meet
         exact ⟨rfl, HQ.out.1.at HA6.out HQ.out.1.lt, HS8.out.at HA6.out HS8.out.lt, HA7.out⟩
       case rest => as_aux_lemma =>
        obtain ⟨rfl, hs5, hs8, hbY⟩ := hcut
        obtain ⟨Y1, hY1⟩ : ∃ Z, Z = wc := ⟨_, rfl⟩
        rw [← hY1] at hs5 hs8 hbY
        rw [← hY1]
        clear hY1
        have HS1 : Hid (Slot3 Y1 r5 ∧ Slot3 Y1 r8 ∧ Below W.heap.size W Y1) := ⟨hs5, hs8, hbY⟩
        clear hs5 hs8 hbY HRA HVA
        have h8lt := HS1.out.2.1.lt
        obtain ⟨ec2, v2, hcase⟩ := pwCase_is HX.out.1 HWd.out.1 HX.out.2.1 HWd.out.2.1 hla hlp (na := na) (N := N)
        have HC2 : Hid (PwCase W na ao la ca po lp cp x d N ec2 v2) := hcase
        clear hcase
        go_upto_region 17 with fail
        go_cut [6] (fun s6 wx => s6 = .int .i64 ec2 ∧ ResA ec2 W wx r5 r8 v2 ∧ Slot3 wx r8)
        case first => as_aux_lemma =>
         obtain ⟨q0, q1, q2, q3, q4, q5, q6⟩ := HP0.out.later HS1.out.2.2 hpW
         rcases HC2.out with ⟨hm, rfl⟩ | ⟨hm, va, hra, hsz, hn, rfl⟩ | ⟨hm, va, hra, hsz, ⟨hn, hn2⟩, hn0, rfl⟩ | ⟨hm, va, hra, hsz, hn, hn0, rfl, rfl⟩
         · as_aux_lemma =>
          have hcon := pow_bad na ao po la ca lp cp N x d _ (HX.out.1.later HS1.out.2.2) HWd.out.1 (HX.out.2.1.later HS1.out.2.2) HWd.out.2.1 (by omega) (by omega) (tab_later HTW.out.1 HS1.out.2.2) hm
          clear hm
          go_wp2_with (go_at_call 38; refine hcon.mono ?_; rintro e y ⟨rfl, hb⟩; have HY : Hid (Below Y1.heap.size Y1 y) := hb; clear hb; obtain ⟨⟨n3, o3, l3, c3, p3, m3, k3, g2, g3, g4⟩, g5⟩ := HS1.out.1.at HY.out HS1.out.1.lt)
          go_meet
          exact ⟨rfl, Or.inr ⟨by decide, nil_put HS1.out.1 hr5 HS1.out.2.2 HY.out⟩, slot_off (HS1.out.2.1.at HY.out h8lt) (Ne.symm hne) _ _ _⟩
         · as_aux_lemma =>
          rcases hn with hn | hn
          · as_aux_lemma =>
           have hcon := pow_far1 na ao po la ca lp cp N va _ (hra.later HS1.out.2.2) (by omega) (by omega) (tab_later HTW.out.1 HS1.out.2.2) hn
           clear hm hra hsz hn
           go_wp2_with (go_at_call 38; refine hcon.mono ?_; rintro e y ⟨rfl, hb⟩; have HY : Hid (Below Y1.heap.size Y1 y) := hb; clear hb; obtain ⟨⟨n3, o3, l3, c3, p3, m3, k3, g2, g3, g4⟩, g5⟩ := HS1.out.1.at HY.out HS1.out.1.lt)
           go_meet
           exact ⟨rfl, Or.inr ⟨by decide, nil_put HS1.out.1 hr5 HS1.out.2.2 HY.out⟩, slot_off (HS1.out.2.1.at HY.out h8lt) (Ne.symm hne) _ _ _⟩
          · as_aux_lemma =>
           have hcon := pow_far2 na ao po la ca lp cp N va _ (hra.later HS1.out.2.2) (by omega) (by omega) (tab_later HTW.out.1 HS1.out.2.2) hn
           clear hm hra hsz hn
           go_wp2_with (go_at_call 38; refine hcon.mono ?_; rintro e y ⟨rfl, hb⟩; have HY : Hid (Below Y1.heap.size Y1 y) := hb; clear hb; obtain ⟨⟨n3, o3, l3, c3, p3, m3, k3, g2, g3, g4⟩, g5⟩ := HS1.out.1.at HY.out HS1.out.1.lt)
           go_meet
           exact ⟨rfl, Or.inr ⟨by decide, nil_put HS1.out.1 hr5 HS1.out.2.2 HY.out⟩, slot_off (HS1.out.2.1.at HY.out h8lt) (Ne.symm hne) _ _ _⟩
         · as_aux_lemma =>
          have hcon := pow_zero_neg na ao po la ca lp cp N va _ (hra.later HS1.out.2.2) (by omega) (by omega) (tab_later HTW.out.1 HS1.out.2.2) hn hn2 hn0
          clear hm hra hsz hn hn2 hn0
          go_wp2_with (go_at_call 38; refine hcon.mono ?_; rintro e y ⟨rfl, hb⟩; have HY : Hid (Below Y1.heap.size Y1 y) := hb; clear hb; obtain ⟨⟨n3, o3, l3, c3, p3, m3, k3, g2, g3, g4⟩, g5⟩ := HS1.out.1.at HY.out HS1.out.1.lt)
          go_meet
          exact ⟨rfl, Or.inr ⟨by decide, nil_put HS1.out.1 hr5 HS1.out.2.2 HY.out⟩, slot_off (HS1.out.2.1.at HY.out h8lt) (Ne.symm hne) _ _ _⟩
         · as_aux_lemma =>
          have hcon := pow_any na ao po la ca lp cp N va _ (hra.later HS1.out.2.2) (by omega) (by omega) (tab_later HTW.out.1 HS1.out.2.2) hn0 hn hsz
          have HSP : Hid (Sz (va ^ N) 1000) := hsz.pow hn hn0
          clear hm hra hsz hn hn0
          obtain ⟨R, hR⟩ : ∃ R : Rat, va ^ N = R := ⟨_, rfl⟩
          have HRR : Hid (va ^ N = R) := hR
          rw [hR] at hcon HSP
          clear hR
          go_wp2_with (go_at_call 38; refine hcon.mono ?_; rintro e y ⟨n9, o9, l9, c9, p9, m9, k9, rfl, hs, ho, hp, hpt, hb⟩; have HY : Hid (n9 = sgB (R).num ∧ Own Y1.heap.size y .u64 59 o9 l9 c9 (mag (R).num.natAbs) ∧ Own Y1.heap.size y .u64 59 p9 m9 k9 (mag (R).den) ∧ Parted o9 p9 ∧ Below Y1.heap.size Y1 y ∧ l9 ≤ 1000 ∧ m9 ≤ 1000) := (by have h1 := ho.row.hlen; have h2 := hp.row.hlen; have h3 := HSP.out; exact ⟨hs, ho, hp, hpt, hb, by rw [h1]; exact h3.1, by rw [h2]; exact h3.2⟩); clear hs ho hp hpt hb; obtain ⟨⟨n3, o3, l3, c3, p3, m3, k3, g2, g3, g4⟩, g5⟩ := HS1.out.1.at HY.out.2.2.2.2.1 HS1.out.1.lt)
          go_meet
          rw [HRR.out]
          exact ⟨rfl, resA_put HS1.out.1 h8lt hr5 HS1.out.2.2 HY.out.2.2.2.2.1 HY.out.1 HY.out.2.1 HY.out.2.2.1 HY.out.2.2.2.1 HY.out.2.2.2.2.2.1 HY.out.2.2.2.2.2.2, slot_off (HS1.out.2.1.at HY.out.2.2.2.2.1 h8lt) (Ne.symm hne) _ _ _⟩
        case rest => as_aux_lemma =>
         obtain ⟨rfl, hra2, hs8⟩ := hcut
         obtain ⟨X4, hX4⟩ : ∃ Z, Z = wc := ⟨_, rfl⟩
         rw [← hX4] at hra2 hs8
         rw [← hX4]
         clear hX4
         have HR4 : Hid (ResA ec2 W X4 r5 r8 v2) := hra2
         have HS4 : Hid (Slot3 X4 r8) := hs8
         clear hra2 hs8 HS1 h8lt
         go_upto_block 3 with fail
         go_cut [7] (fun s7 wx => s7 = .int .i64 ec2 ∧ ResA ec2 W wx r5 r8 v2 ∧ VarA ec2 wx r8 v2)
         case first => as_aux_lemma =>
          obtain ⟨q0, q1, q2, q3, q4, q5, q6⟩ := HP0.out.later HR4.out.bel hpW
          rcases HC2.out with ⟨hm, rfl⟩ | ⟨hm, va, hra, hsz, hn, rfl⟩ | ⟨hm, va, hra, hsz, ⟨hn, hn2⟩, hn0, rfl⟩ | ⟨hm, va, hra, hsz, ⟨hn1, hn2⟩, hn0, rfl, rfl⟩
          · as_aux_lemma =>
           have HM : Hid (mayR na x d = false) := hm
           clear hm
           go_wp2_with (go_at_call 7; refine (qmay_any na ao po la ca lp cp x d _ (HX.out.1.later HR4.out.bel) HWd.out.1 (HX.out.2.1.later HR4.out.bel) HWd.out.2.1 (by omega) (by omega) false HM.out).mono ?_; rintro e t1 ⟨rfl, ht1⟩; clear q0 q1 q2 q3 q4 q5 q6; obtain ⟨q0, q1, q2, q3, q4, q5, q6⟩ := HP0.out.later (bnext HR4.out.bel ht1) hpW)
           go_meet
           exact ⟨rfl, HR4.out.later ht1, varA_bad (HS4.out.at ht1 HS4.out.lt) (by decide)⟩
          · as_aux_lemma =>
           have HM : Hid (mayR na x d = true) := hm
           clear hm hra hsz
           rcases hn with hn | hn
           · as_aux_lemma =>
            go_wp2_with (go_at_call 7; refine (qmay_any na ao po la ca lp cp x d _ (HX.out.1.later HR4.out.bel) HWd.out.1 (HX.out.2.1.later HR4.out.bel) HWd.out.2.1 (by omega) (by omega) true HM.out).mono ?_; rintro e t1 ⟨rfl, ht1⟩; clear q0 q1 q2 q3 q4 q5 q6; obtain ⟨q0, q1, q2, q3, q4, q5, q6⟩ := HP0.out.later (bnext HR4.out.bel ht1) hpW)
            go_meet
            exact ⟨rfl, HR4.out.later ht1, varA_bad (HS4.out.at ht1 HS4.out.lt) (by decide)⟩
           · as_aux_lemma =>
            have hn' : ¬ N < -64 := by omega
            go_wp2_with (go_at_call 7; refine (qmay_any na ao po la ca lp cp x d _ (HX.out.1.later HR4.out.bel) HWd.out.1 (HX.out.2.1.later HR4.out.bel) HWd.out.2.1 (by omega) (by omega) true HM.out).mono ?_; rintro e t1 ⟨rfl, ht1⟩; clear q0 q1 q2 q3 q4 q5 q6; obtain ⟨q0, q1, q2, q3, q4, q5, q6⟩ := HP0.out.later (bnext HR4.out.bel ht1) hpW)
            go_meet
            exact ⟨rfl, HR4.out.later ht1, varA_bad (HS4.out.at ht1 HS4.out.lt) (by decide)⟩
          · as_aux_lemma =>
           have HM : Hid (mayR na x d = true) := hm
           have HZ : Hid (((la : Int) == 0) = true) := (by have h1 := hra.num.row.hlen; rw [hn0] at h1; show _ = _; rw [h1]; rfl)
           have h1 : ¬ N < -64 := by omega
           have h2 : ¬ 64 < N := by omega
           clear hm hra hsz hn2 hn0
           go_wp2_with (first
            | (go_at_call 7; refine (qmay_any na ao po la ca lp cp x d _ (HX.out.1.later HR4.out.bel) HWd.out.1 (HX.out.2.1.later HR4.out.bel) HWd.out.2.1 (by omega) (by omega) true HM.out).mono ?_; rintro e t1 ⟨rfl, ht1⟩; clear q0 q1 q2 q3 q4 q5 q6; obtain ⟨q0, q1, q2, q3, q4, q5, q6⟩ := HP0.out.later (bnext HR4.out.bel ht1) hpW)
            | (go_at_call 39; refine (qzero_any na ao po la ca lp cp _ true HZ.out).mono ?_; rintro e t2 ⟨rfl, ht2'⟩; have ht2 := bnext ht1 ht2'; clear ht2'; clear q0 q1 q2 q3 q4 q5 q6; obtain ⟨q0, q1, q2, q3, q4, q5, q6⟩ := HP0.out.later (bnext HR4.out.bel ht2) hpW))
           go_meet
           exact ⟨rfl, HR4.out.later ht2, varA_bad (HS4.out.at ht2 HS4.out.lt) (by decide)⟩
          · as_aux_lemma =>
           have HM : Hid (mayR na x d = true) := hm
           have h1 : ¬ N < -64 := by omega
           have h2 : ¬ 64 < N := by omega
           have hcon : ∀ X, Below W.heap.size W X → Calls Tryz.prog 40 #[.agg #[.bool na, .slice ao la ca, .slice po lp cp], .int .i64 N] X fun e w' => SomeR X w' e (va ^ N) := fun X h => qpow_any na ao po la ca lp cp N va X (hra.later h) hsz ⟨hn1, hn2⟩ hn0
           have hzz : (((la : Int) == 0) = true ∧ ¬ N < 0) ∨ ((la : Int) == 0) = false := (by
            cases hq : ((la : Int) == 0)
            · exact Or.inr rfl
            · refine Or.inl ⟨rfl, ?_⟩
              have h3 : la = 0 := by simpa using hq
              have h4 : va.num = 0 := by have h5 := hra.num.row.hlen; rw [h3] at h5; have h6 := mag_len_pos (n := va.num.natAbs); omega
              rcases hn0 with h | h
              · exact absurd (Rat.num_eq_zero.1 h4) h
              · omega)
           clear hm hra hsz hn0 hn1 hn2
           obtain ⟨R, hR⟩ : ∃ R : Rat, va ^ N = R := ⟨_, rfl⟩
           have HRR : Hid (va ^ N = R) := hR
           rw [hR] at hcon
           clear hR
           rcases hzz with ⟨hz, hnn⟩ | hz
           · as_aux_lemma =>
            have HZ : Hid (((la : Int) == 0) = true) := hz
            clear hz
            go_wp2_with (first
             | (go_at_call 7; refine (qmay_any na ao po la ca lp cp x d _ (HX.out.1.later HR4.out.bel) HWd.out.1 (HX.out.2.1.later HR4.out.bel) HWd.out.2.1 (by omega) (by omega) true HM.out).mono ?_; rintro e t1 ⟨rfl, ht1⟩; clear q0 q1 q2 q3 q4 q5 q6; obtain ⟨q0, q1, q2, q3, q4, q5, q6⟩ := HP0.out.later (bnext HR4.out.bel ht1) hpW)
             | (go_at_call 39; refine (qzero_any na ao po la ca lp cp _ true HZ.out).mono ?_; rintro e t2 ⟨rfl, ht2'⟩; have ht2 := bnext ht1 ht2'; clear ht2'; clear q0 q1 q2 q3 q4 q5 q6; obtain ⟨q0, q1, q2, q3, q4, q5, q6⟩ := HP0.out.later (bnext HR4.out.bel ht2) hpW)
             | (go_at_call 40; refine (hcon _ (bnext HR4.out.bel ht2)).mono ?_; rintro e t3 ⟨n4, o4, l4, c4, p4, m4, k4, rfl, hr, hb⟩; have HY : Hid (RatAt t3 n4 o4 l4 c4 p4 m4 k4 R ∧ Below X4.heap.size X4 t3) := ⟨hr, bnext ht2 hb⟩; clear hr hb; obtain ⟨⟨n3, o3, l3, c3, p3, m3, k3, g2, g3, g4⟩, g5⟩ := HS4.out.at HY.out.2 HS4.out.lt))
            go_meet
            rw [HRR.out] at HR4 ⊢
            exact ⟨rfl, (HR4.out.later HY.out.2).off hne hr8W _ _ _, ⟨_, VarR.put (HS4.out.at HY.out.2 HS4.out.lt) HY.out.1, fun _ => rfl⟩⟩
           · as_aux_lemma =>
            have HZ : Hid (((la : Int) == 0) = false) := hz
            clear hz
            go_wp2_with (first
             | (go_at_call 7; refine (qmay_any na ao po la ca lp cp x d _ (HX.out.1.later HR4.out.bel) HWd.out.1 (HX.out.2.1.later HR4.out.bel) HWd.out.2.1 (by omega) (by omega) true HM.out).mono ?_; rintro e t1 ⟨rfl, ht1⟩; clear q0 q1 q2 q3 q4 q5 q6; obtain ⟨q0, q1, q2, q3, q4, q5, q6⟩ := HP0.out.later (bnext HR4.out.bel ht1) hpW)
             | (go_at_call 39; refine (qzero_any na ao po la ca lp cp _ false HZ.out).mono ?_; rintro e t2 ⟨rfl, ht2'⟩; have ht2 := bnext ht1 ht2'; clear ht2'; clear q0 q1 q2 q3 q4 q5 q6; obtain ⟨q0, q1, q2, q3, q4, q5, q6⟩ := HP0.out.later (bnext HR4.out.bel ht2) hpW)
             | (go_at_call 40; refine (hcon _ (bnext HR4.out.bel ht2)).mono ?_; rintro e t3 ⟨n4, o4, l4, c4, p4, m4, k4, rfl, hr, hb⟩; have HY : Hid (RatAt t3 n4 o4 l4 c4 p4 m4 k4 R ∧ Below X4.heap.size X4 t3) := ⟨hr, bnext ht2 hb⟩; clear hr hb; obtain ⟨⟨n3, o3, l3, c3, p3, m3, k3, g2, g3, g4⟩, g5⟩ := HS4.out.at HY.out.2 HS4.out.lt))
            go_meet
            rw [HRR.out] at HR4 ⊢
            exact ⟨rfl, (HR4.out.later HY.out.2).off hne hr8W _ _ _, ⟨_, VarR.put (HS4.out.at HY.out.2 HS4.out.lt) HY.out.1, fun _ => rfl⟩⟩
         case rest => as_aux_lemma =>
          obtain ⟨rfl, hra, hva⟩ := hcut
          obtain ⟨X5, hX5⟩ : ∃ Z, Z = wc := ⟨_, rfl⟩
          rw [← hX5] at hra hva
          rw [← hX5]
          clear hX5
          have HRA : Hid (ResA ec2 W X5 r5 r8 v2) := hra
          have HVA : Hid (VarA ec2 X5 r8 v2) := hva
          clear hra hva HR4 HS4 HC2
          go_upto_region 26 with fail
          go_cut [108] (fun s9 wx => s9 = .bool false ∧ Slot3 wx r5 ∧ Slot3 wx r8 ∧ Below W.heap.size W wx)
          case first => as_aux_lemma =>
           obtain ⟨wo, ⟨n8, o8, l8, c8, p8, m8, k8, hb8, hi8, hf8⟩, hwo⟩ := HVA.out
           have HS8 : Hid (Slot3 X5 r8) := ⟨⟨n8, o8, l8, c8, p8, m8, k8, hb8⟩, hf8⟩
           obtain ⟨g80, g81, g82⟩ := hb8
           rcases HRA.out with ⟨he, B, n7, o7, l7, c7, p7, m7, k7, z1, z2, z3, z5, z6, z7⟩ | ⟨he, z1, z2, z3, z4⟩
           · as_aux_lemma =>
            subst he
            have HQ : Hid (AnsR B X5 r5 n7 o7 l7 c7 p7 m7 k7 (v2) ∧ W.heap.size ≤ B ∧ B ≤ X5.heap.size ∧ Below W.heap.size W X5 ∧ RatAt X5 n8 o8 l8 c8 p8 m8 k8 (v2) ∧ (∀ q : Addr, o7 = some q → q.block ≠ r8) ∧ (∀ q : Addr, p7 = some q → q.block ≠ r8)) := ⟨z1, z2, z3, z5, hi8 _ (hwo rfl), z6, z7⟩
            obtain ⟨g70, g71, g72⟩ := z1.box
            clear z1 z2 z3 z5 z6 z7 hi8 hf8 hwo
            go_wp2_with (go_at_call 37; refine (is2_good B n7 n8 o7 p7 o8 p8 l7 c7 m7 k7 l8 c8 m8 k8 (v2) _ HQ.out.1.sg HQ.out.1.own HQ.out.1.own2 HQ.out.1.pt HQ.out.2.2.1 HQ.out.2.2.2.2.1 (Nat.le_trans HQ.out.1.len (by decide)) (Nat.le_trans HQ.out.1.len2 (by decide))).mono ?_; rintro e y6 ⟨rfl, hb6, hsy, hz6⟩; have HA6 : Hid (Stay2 o7 p7 X5 y6) := hsy; have HA7 : Hid (Below W.heap.size W y6) := HQ.out.2.2.2.1.trans (hb6.mono HQ.out.2.1); clear hb6 hsy hz6)
            go_meet
            exact ⟨rfl, HQ.out.1.slot.stay HA6.out HQ.out.1.off HQ.out.1.off2, HS8.out.stay HA6.out HQ.out.2.2.2.2.2.1 HQ.out.2.2.2.2.2.2, HA7.out⟩
           · as_aux_lemma =>
            have HQ : Hid (Slot3 X5 r5 ∧ Below W.heap.size W X5 ∧ ec2 ≠ 0) := ⟨z2, z4, he⟩
            obtain ⟨g70, g71, g72⟩ := z1
            clear z2 z3 z4 hi8 hf8 hwo he
            go_wp2_with (go_at_call 37; refine (is2_bad n8 o8 p8 l8 c8 m8 k8 ec2 _ HQ.out.2.2).mono ?_; rintro e y6 ⟨rfl, hb6⟩; have HA6 : Hid (Below X5.heap.size X5 y6) := hb6; have HA7 : Hid (Below W.heap.size W y6) := bnext HQ.out.2.1 hb6; clear hb6)
            go_meet
            exact ⟨rfl, HQ.out.1.at HA6.out HQ.out.1.lt, HS8.out.at HA6.out HS8.out.lt, HA7.out⟩
          case rest => as_aux_lemma =>
           obtain ⟨rfl, hs5, hs8, hbY⟩ := hcut
           obtain ⟨Y2, hY2⟩ : ∃ Z, Z = wc := ⟨_, rfl⟩
           rw [← hY2] at hs5 hs8 hbY
           rw [← hY2]
           clear hY2
           have HS2 : Hid (Slot3 Y2 r5 ∧ Slot3 Y2 r8 ∧ Below W.heap.size W Y2) := ⟨hs5, hs8, hbY⟩
           clear hs5 hs8 hbY HRA HVA
           have h8lt := HS2.out.2.1.lt
           cases hm : (mayR na x d && mayR nb y f)
           · as_aux_lemma =>
            have HM2 : Hid ((if mayR na x d && mayR nb y f then 0 else 20 : Int) = 20) := (by show _ = _; rw [hm]; rfl)
            have HMB : Hid ((mayR na x d && mayR nb y f) = false) := hm
            clear hm
            go_upto_region 28 with fail
            go_cut [6] (fun s6 wx => s6 = .int .i64 20 ∧ ResA 20 W wx r5 r8 (0) ∧ Slot3 wx r8)
            case first => as_aux_lemma =>
             obtain ⟨q0, q1, q2, q3, q4, q5, q6⟩ := HP0.out.later HS2.out.2.2 hpW
             have hcon := simple_bad na nb ao po bo qo la ca lp cp lb cb lq cq x d y f _ (HX.out.1.later HS2.out.2.2) HWd.out.1 (HX.out.2.1.later HS2.out.2.2) HWd.out.2.1 (HX.out.2.2.1.later HS2.out.2.2) HWd.out.2.2.1 (HX.out.2.2.2.later HS2.out.2.2) HWd.out.2.2.2 (by omega) (by omega) (by omega) (by omega) (tab_later HTW.out.1 HS2.out.2.2) HMB.out
             go_wp2_with (go_at_call 41; refine hcon.mono ?_; rintro e y ⟨rfl, hb⟩; have HY : Hid (Below Y2.heap.size Y2 y) := hb; clear hb; obtain ⟨⟨n3, o3, l3, c3, p3, m3, k3, g2, g3, g4⟩, g5⟩ := HS2.out.1.at HY.out HS2.out.1.lt)
             go_meet
             exact ⟨rfl, Or.inr ⟨by decide, nil_put HS2.out.1 hr5 HS2.out.2.2 HY.out⟩, slot_off (HS2.out.2.1.at HY.out h8lt) (Ne.symm hne) _ _ _⟩
            case rest => as_aux_lemma =>
             obtain ⟨rfl, hra2, hs8⟩ := hcut
             obtain ⟨X6, hX6⟩ : ∃ Z, Z = wc := ⟨_, rfl⟩
             rw [← hX6] at hra2 hs8
             rw [← hX6]
             clear hX6
             have HR6 : Hid (ResA 20 W X6 r5 r8 (0) ∧ Slot3 X6 r8) := ⟨hra2, hs8⟩
             clear hra2 hs8
             obtain ⟨q0, q1, q2, q3, q4, q5, q6⟩ := HP0.out.later HR6.out.1.bel hpW
             go_upto_region 34 with (go_at_call 27; refine (two2_any na nb ao po bo qo la ca lp cp lb cb lq cq N x d y f _ (HX.out.1.later HR6.out.1.bel) HWd.out.1 (HX.out.2.1.later HR6.out.1.bel) HWd.out.2.1 (HX.out.2.2.1.later HR6.out.1.bel) HWd.out.2.2.1 (HX.out.2.2.2.later HR6.out.1.bel) HWd.out.2.2.2 (by omega) (by omega) (by omega) (by omega) 20 HM2.out).mono ?_; rintro e t1 ⟨rfl, ht1⟩; clear q0 q1 q2 q3 q4 q5 q6; obtain ⟨q0, q1, q2, q3, q4, q5, q6⟩ := HP0.out.later (bnext HR6.out.1.bel ht1) hpW)
             have HRA : Hid (ResA 20 W t1 r5 r8 0) := HR6.out.1.later ht1
             have HVA : Hid (VarA 20 t1 r8 0) := varA_bad (HR6.out.2.at ht1 HR6.out.2.lt) (by decide)
             clear HR6 ht1 q0 q1 q2 q3 q4 q5 q6
             obtain ⟨wo, ⟨n8, o8, l8, c8, p8, m8, k8, hb8, hi8, hf8⟩, hwo⟩ := HVA.out
             obtain ⟨g80, g81, g82⟩ := hb8
             obtain ⟨z1, z2, z3, z4⟩ := resA_bad HRA.out (by decide)
             have HQ : Hid (Below W.heap.size W t1) := z4
             obtain ⟨g70, g71, g72⟩ := z1
             clear z2 z3 z4 hi8 hf8 hwo
             go_wp2_with (go_at_call 37; refine (is2_bad n8 o8 p8 l8 c8 m8 k8 20 _ (by decide)).mono ?_; rintro e y6 ⟨rfl, hb6⟩; have HA7 : Hid (Below W.heap.size W y6) := bnext HQ.out hb6; clear hb6)
             go_roundw
             case rel => first | exact ⟨k + 1, by omega, by omega, by go_num, bnext HTW.out.2 HA7.out⟩ | ((repeat apply Exists.intro); exact ⟨⟨k + 1, by omega, by omega, by go_num, bnext HTW.out.2 HA7.out⟩, rfl⟩)
             case measure => simp [intOf]; omega
           · as_aux_lemma =>
            have HM2 : Hid ((if mayR na x d && mayR nb y f then 0 else 20 : Int) = 0) := (by show _ = _; rw [hm]; rfl)
            obtain ⟨hma, hmb⟩ : mayR na x d = true ∧ mayR nb y f = true := by simpa using hm
            obtain ⟨va, hIa, _, _⟩ := rat_of_may HX.out.1 HWd.out.1 HX.out.2.1 HWd.out.2.1 hma
            obtain ⟨vb, hIb, _, _⟩ := rat_of_may HX.out.2.2.1 HWd.out.2.2.1 HX.out.2.2.2 HWd.out.2.2.2 hmb
            have HA : Hid (RatAt W na ao la ca po lp cp va ∧ RatAt W nb bo lb cb qo lq cq vb ∧ Sz va 8 ∧ Sz vb 8) := ⟨hIa, hIb, ⟨by rw [← hIa.num.row.hlen]; exact hla, by rw [← hIa.den.hlen]; exact hlp⟩, ⟨by rw [← hIb.num.row.hlen]; exact hlb, by rw [← hIb.den.hlen]; exact hlq⟩⟩
            clear hm hma hmb hIa hIb
            by_cases hle : LeQ va vb
            · as_aux_lemma =>
             obtain ⟨vx, hvx⟩ := SimpQ.ex hle
             have HV : Hid (SimpQ va vb vx ∧ Sz vx 8 ∧ LeQ va vb) := ⟨hvx, hvx.size hle HA.out.2.2.1 HA.out.2.2.2 (by decide), hle⟩
             obtain ⟨c, hc⟩ : ∃ c, cmpQ va vb = c := ⟨_, rfl⟩
             have hc2 := cmpQ_le2 hle
             rw [hc] at hc2
             have HC : Hid (cmpQ va vb = c) := hc
             clear hc hle hvx
             go_upto_region 28 with fail
             go_cut [6] (fun s6 wx => s6 = .int .i64 0 ∧ ResA 0 W wx r5 r8 (vx) ∧ Slot3 wx r8)
             case first => as_aux_lemma =>
              obtain ⟨q0, q1, q2, q3, q4, q5, q6⟩ := HP0.out.later HS2.out.2.2 hpW
              go_wp2_with (go_at_call 41; refine (simple_rat na nb ao po bo qo la ca lp cp lb cb lq cq va vb vx _ (HA.out.1.later HS2.out.2.2) (HA.out.2.1.later HS2.out.2.2) (HA.out.2.2.1.mono (by decide)) (HA.out.2.2.2.mono (by decide)) (tab_later HTW.out.1 HS2.out.2.2) HV.out.2.2 HV.out.1).mono ?_; rintro e y ⟨n9, o9, l9, c9, p9, m9, k9, rfl, hs, ho, hp, hpt, hb⟩; have HY : Hid (n9 = sgB (vx).num ∧ Own Y2.heap.size y .u64 59 o9 l9 c9 (mag (vx).num.natAbs) ∧ Own Y2.heap.size y .u64 59 p9 m9 k9 (mag (vx).den) ∧ Parted o9 p9 ∧ Below Y2.heap.size Y2 y ∧ l9 ≤ 1000 ∧ m9 ≤ 1000) := (by have h1 := ho.row.hlen; have h2 := hp.row.hlen; have h3 := (HV.out.2.1.mono (show 8 ≤ 1000 by decide)); exact ⟨hs, ho, hp, hpt, hb, by rw [h1]; exact h3.1, by rw [h2]; exact h3.2⟩); clear hs ho hp hpt hb; obtain ⟨⟨n3, o3, l3, c3, p3, m3, k3, g2, g3, g4⟩, g5⟩ := HS2.out.1.at HY.out.2.2.2.2.1 HS2.out.1.lt)
              go_meet
              exact ⟨rfl, resA_put HS2.out.1 h8lt hr5 HS2.out.2.2 HY.out.2.2.2.2.1 HY.out.1 HY.out.2.1 HY.out.2.2.1 HY.out.2.2.2.1 HY.out.2.2.2.2.2.1 HY.out.2.2.2.2.2.2, slot_off (HS2.out.2.1.at HY.out.2.2.2.2.1 h8lt) (Ne.symm hne) _ _ _⟩
             case rest => as_aux_lemma =>
              obtain ⟨rfl, hra2, hs8⟩ := hcut
              obtain ⟨X6, hX6⟩ : ∃ Z, Z = wc := ⟨_, rfl⟩
              rw [← hX6] at hra2 hs8
              rw [← hX6]
              clear hX6
              have HR6 : Hid (ResA 0 W X6 r5 r8 (vx) ∧ Slot3 X6 r8) := ⟨hra2, hs8⟩
              clear hra2 hs8
              obtain ⟨q0, q1, q2, q3, q4, q5, q6⟩ := HP0.out.later HR6.out.1.bel hpW
              rcases hc2 with rfl | rfl
              all_goals
               go_upto_if 130 with (first
                | (go_at_call 28; refine (qcmp_any na nb ao po bo qo la ca lp cp lb cb lq cq va vb _ (HA.out.1.later (bnext HR6.out.1.bel ht1)) (HA.out.2.1.later (bnext HR6.out.1.bel ht1)) (HA.out.2.2.1.mono (by decide)) (HA.out.2.2.2.mono (by decide)) _ HC.out).mono ?_; rintro e t2 ⟨rfl, ht2'⟩; have ht2 := bnext ht1 ht2'; clear ht2'; clear q0 q1 q2 q3 q4 q5 q6; obtain ⟨q0, q1, q2, q3, q4, q5, q6⟩ := HP0.out.later (bnext HR6.out.1.bel ht2) hpW)
                | (go_at_call 27; refine (two2_any na nb ao po bo qo la ca lp cp lb cb lq cq N x d y f _ (HX.out.1.later HR6.out.1.bel) HWd.out.1 (HX.out.2.1.later HR6.out.1.bel) HWd.out.2.1 (HX.out.2.2.1.later HR6.out.1.bel) HWd.out.2.2.1 (HX.out.2.2.2.later HR6.out.1.bel) HWd.out.2.2.2 (by omega) (by omega) (by omega) (by omega) 0 HM2.out).mono ?_; rintro e t1 ⟨rfl, ht1⟩; clear q0 q1 q2 q3 q4 q5 q6; obtain ⟨q0, q1, q2, q3, q4, q5, q6⟩ := HP0.out.later (bnext HR6.out.1.bel ht1) hpW))
               go_cut [135] (fun s135 wx => ResA 0 W wx r5 r8 vx ∧ VarA 0 wx r8 vx)
               case first => as_aux_lemma =>
                go_wp2_with (go_at_call 42; refine (qsimple_rat na nb ao po bo qo la ca lp cp lb cb lq cq va vb vx _ (HA.out.1.later (bnext HR6.out.1.bel ht2)) (HA.out.2.1.later (bnext HR6.out.1.bel ht2)) (HA.out.2.2.1.mono (by decide)) (HA.out.2.2.2.mono (by decide)) HV.out.2.2 HV.out.1).mono ?_; rintro e t3 ⟨n4, o4, l4, c4, p4, m4, k4, rfl, hr, hb⟩; have HY : Hid (RatAt t3 n4 o4 l4 c4 p4 m4 k4 vx ∧ Below X6.heap.size X6 t3) := ⟨hr, bnext ht2 hb⟩; clear hr hb; obtain ⟨⟨n3, o3, l3, c3, p3, m3, k3, g2, g3, g4⟩, g5⟩ := HR6.out.2.at HY.out.2 HR6.out.2.lt)
                go_meet
                exact ⟨(HR6.out.1.later HY.out.2).off hne hr8W _ _ _, ⟨_, VarR.put (HR6.out.2.at HY.out.2 HR6.out.2.lt) HY.out.1, fun _ => rfl⟩⟩
               case rest => as_aux_lemma =>
                obtain ⟨hra, hva⟩ := hcut
                obtain ⟨X7, hX7⟩ : ∃ Z, Z = wc := ⟨_, rfl⟩
                rw [← hX7] at hra hva
                rw [← hX7]
                clear hX7
                have HRA : Hid (ResA 0 W X7 r5 r8 vx) := hra
                have HVA : Hid (VarA 0 X7 r8 vx) := hva
                clear hra hva HR6 ht1 ht2 q0 q1 q2 q3 q4 q5 q6
                go_upto_region 34 with fail
                obtain ⟨wo, ⟨n8, o8, l8, c8, p8, m8, k8, hb8, hi8, hf8⟩, hwo⟩ := HVA.out
                obtain ⟨g80, g81, g82⟩ := hb8
                obtain ⟨B, n7, o7, l7, c7, p7, m7, k7, z1, z2, z3, z5, z6, z7⟩ := resA_good HRA.out
                have HQ : Hid (AnsR B X7 r5 n7 o7 l7 c7 p7 m7 k7 (vx) ∧ W.heap.size ≤ B ∧ B ≤ X7.heap.size ∧ Below W.heap.size W X7 ∧ RatAt X7 n8 o8 l8 c8 p8 m8 k8 (vx)) := ⟨z1, z2, z3, z5, hi8 _ (hwo rfl)⟩
                obtain ⟨g70, g71, g72⟩ := z1.box
                clear z1 z2 z3 z5 z6 z7 hi8 hf8 hwo
                go_wp2_with (go_at_call 37; refine (is2_good B n7 n8 o7 p7 o8 p8 l7 c7 m7 k7 l8 c8 m8 k8 (vx) _ HQ.out.1.sg HQ.out.1.own HQ.out.1.own2 HQ.out.1.pt HQ.out.2.2.1 HQ.out.2.2.2.2 (Nat.le_trans HQ.out.1.len (by decide)) (Nat.le_trans HQ.out.1.len2 (by decide))).mono ?_; rintro e y6 ⟨rfl, hb6, hsy, hz6⟩; have HA7 : Hid (Below W.heap.size W y6) := HQ.out.2.2.2.1.trans (hb6.mono HQ.out.2.1); clear hb6 hsy hz6)
                go_roundw
                case rel => first | exact ⟨k + 1, by omega, by omega, by go_num, bnext HTW.out.2 HA7.out⟩ | ((repeat apply Exists.intro); exact ⟨⟨k + 1, by omega, by omega, by go_num, bnext HTW.out.2 HA7.out⟩, rfl⟩)
                case measure => simp [intOf]; omega
            · as_aux_lemma =>
             have HC : Hid (cmpQ va vb = 1) := cmpQ_nle2 hle
             clear hle
             go_upto_region 28 with fail
             go_cut [6] (fun s6 wx => s6 = .int .i64 23 ∧ ResA 23 W wx r5 r8 (0) ∧ Slot3 wx r8)
             case first => as_aux_lemma =>
              obtain ⟨q0, q1, q2, q3, q4, q5, q6⟩ := HP0.out.later HS2.out.2.2 hpW
              have hcon := simple_order na nb ao po bo qo la ca lp cp lb cb lq cq va vb _ (HA.out.1.later HS2.out.2.2) (HA.out.2.1.later HS2.out.2.2) (HA.out.2.2.1.mono (by decide)) (HA.out.2.2.2.mono (by decide)) (tab_later HTW.out.1 HS2.out.2.2) HC.out
              go_wp2_with (go_at_call 41; refine hcon.mono ?_; rintro e y ⟨rfl, hb⟩; have HY : Hid (Below Y2.heap.size Y2 y) := hb; clear hb; obtain ⟨⟨n3, o3, l3, c3, p3, m3, k3, g2, g3, g4⟩, g5⟩ := HS2.out.1.at HY.out HS2.out.1.lt)
              go_meet
              exact ⟨rfl, Or.inr ⟨by decide, nil_put HS2.out.1 hr5 HS2.out.2.2 HY.out⟩, slot_off (HS2.out.2.1.at HY.out h8lt) (Ne.symm hne) _ _ _⟩
             case rest => as_aux_lemma =>
              obtain ⟨rfl, hra2, hs8⟩ := hcut
              obtain ⟨X6, hX6⟩ : ∃ Z, Z = wc := ⟨_, rfl⟩
              rw [← hX6] at hra2 hs8
              rw [← hX6]
              clear hX6
              have HR6 : Hid (ResA 23 W X6 r5 r8 (0) ∧ Slot3 X6 r8) := ⟨hra2, hs8⟩
              clear hra2 hs8
              obtain ⟨q0, q1, q2, q3, q4, q5, q6⟩ := HP0.out.later HR6.out.1.bel hpW
              go_upto_region 34 with (first
               | (go_at_call 28; refine (qcmp_any na nb ao po bo qo la ca lp cp lb cb lq cq va vb _ (HA.out.1.later (bnext HR6.out.1.bel ht1)) (HA.out.2.1.later (bnext HR6.out.1.bel ht1)) (HA.out.2.2.1.mono (by decide)) (HA.out.2.2.2.mono (by decide)) 1 HC.out).mono ?_; rintro e t2 ⟨rfl, ht2'⟩; have ht2 := bnext ht1 ht2'; clear ht2'; clear q0 q1 q2 q3 q4 q5 q6; obtain ⟨q0, q1, q2, q3, q4, q5, q6⟩ := HP0.out.later (bnext HR6.out.1.bel ht2) hpW)
               | (go_at_call 27; refine (two2_any na nb ao po bo qo la ca lp cp lb cb lq cq N x d y f _ (HX.out.1.later HR6.out.1.bel) HWd.out.1 (HX.out.2.1.later HR6.out.1.bel) HWd.out.2.1 (HX.out.2.2.1.later HR6.out.1.bel) HWd.out.2.2.1 (HX.out.2.2.2.later HR6.out.1.bel) HWd.out.2.2.2 (by omega) (by omega) (by omega) (by omega) 0 HM2.out).mono ?_; rintro e t1 ⟨rfl, ht1⟩; clear q0 q1 q2 q3 q4 q5 q6; obtain ⟨q0, q1, q2, q3, q4, q5, q6⟩ := HP0.out.later (bnext HR6.out.1.bel ht1) hpW))
              have HRA : Hid (ResA 23 W t2 r5 r8 0) := HR6.out.1.later ht2
              have HVA : Hid (VarA 23 t2 r8 0) := varA_bad (HR6.out.2.at ht2 HR6.out.2.lt) (by decide)
              clear HR6 ht1 ht2 q0 q1 q2 q3 q4 q5 q6
              obtain ⟨wo, ⟨n8, o8, l8, c8, p8, m8, k8, hb8, hi8, hf8⟩, hwo⟩ := HVA.out
              obtain ⟨g80, g81, g82⟩ := hb8
              obtain ⟨z1, z2, z3, z4⟩ := resA_bad HRA.out (by decide)
              have HQ : Hid (Below W.heap.size W t2) := z4
              obtain ⟨g70, g71, g72⟩ := z1
              clear z2 z3 z4 hi8 hf8 hwo
              go_wp2_with (go_at_call 37; refine (is2_bad n8 o8 p8 l8 c8 m8 k8 23 _ (by decide)).mono ?_; rintro e y6 ⟨rfl, hb6⟩; have HA7 : Hid (Below W.heap.size W y6) := bnext HQ.out hb6; clear hb6)
              go_roundw
              case rel => first | exact ⟨k + 1, by omega, by omega, by go_num, bnext HTW.out.2 HA7.out⟩ | ((repeat apply Exists.intro); exact ⟨⟨k + 1, by omega, by omega, by go_num, bnext HTW.out.2 HA7.out⟩, rfl⟩)
              case measure => simp [intOf]; omega
   · as_aux_lemma =>
    have HH : Hid (((decide ((8 : Int) < (la : Int)) || decide ((8 : Int) < (lp : Int))) || (decide ((8 : Int) < (lb : Int)) || decide ((8 : Int) < (lq : Int)))) = true) := hhv
    clear hhv
    go_wp2_with (go_at_call 6; refine (heavyR_any na nb ao po bo qo la ca lp cp lb cb lq cq N _ true HH.out).mono ?_; rintro e w1 ⟨rfl, hb1⟩)
    go_ret
    exact ⟨rfl, bnext HTW.out.2 hb1⟩
  · as_aux_lemma =>
   have hwk : ∀ X, Below w.heap.size w X → Calls Tryz.prog 32 #[] X fun e w' => e = .returned (.bool true) ∧ Below X.heap.size X w' := fun X h => wakes2_any X (tab_later HT.out.1 h) (HT.out.2.later h)
   have hend : ¬ k < len ∨ k = 30 := by omega
   clear hlt
   rcases hend with he | he
   · as_aux_lemma =>
    go_wp2_with (go_at_call 32; refine (hwk _ hbel).mono ?_; rintro e w9 ⟨rfl, hb9⟩)
    go_ret
    exact ⟨rfl, bnext hbel hb9⟩
   · as_aux_lemma =>
    subst he
    by_cases hq : 30 < len
    · as_aux_lemma =>
     go_wp2_with (go_at_call 32; refine (hwk _ hbel).mono ?_; rintro e w9 ⟨rfl, hb9⟩)
     go_ret
     exact ⟨rfl, bnext hbel hb9⟩
    · as_aux_lemma =>
     go_wp2_with (go_at_call 32; refine (hwk _ hbel).mono ?_; rintro e w9 ⟨rfl, hb9⟩)
     go_ret
     exact ⟨rfl, bnext hbel hb9⟩
end Go.Proofs.YtiiefpnkpfliiaaGreatDoor
namespace Go.Proofs.YtiiefpnkpfliiaaGreatDoor
open Go.RowKit Go.ChangeShapes Go.WideShapes Go.ChangeAt
theorem cells_int : Tryz.prog.cellsOf 26 = 2 := by kernel_rfl
theorem cells_bool : Tryz.prog.cellsOf 4 = 1 := by kernel_rfl
theorem cells_nat : Tryz.prog.cellsOf 24 = 1 := by kernel_rfl
theorem cells_i64 : Tryz.prog.cellsOf 3 = 1 := by kernel_rfl
theorem cells_u64 : Tryz.prog.cellsOf 59 = 1 := by kernel_rfl
theorem add_off {b off j : Nat} : Addr.add ⟨b, off, none⟩ j = ⟨b, off + j, none⟩ := by
 by_cases h0 : j = 0
 ·
  subst h0; simp [Addr.add]
 ·
  simp [Addr.add, h0]
theorem row_of_trod {H : Type} {enc : TypeId × Value → H} {W : World} {fuel : Nat} {v : Value} {x : DataW H × List MemPlace} (h : DataW.trod enc Tryz.prog W 0 (fun _ => true) true fuel 24 [v] = some x) :
  ∃ ao len cap zs, v = .slice ao len cap ∧ RowAt W .u64 ao len cap zs ∧ Wd 18446744073709551616 zs ∧ cap ≤ 9223372036854775807 := by
 rcases open_ints Tryz.underlying24 Tryz.underlying59 cells_u64 h with ⟨hcs, _⟩ | ⟨a, len, cap, zs, hcs, _, hl, hm, hz, _, hcell, hwz⟩
 ·
  simp at hcs; subst hcs
  exact ⟨none, 0, 0, [], rfl, RowAt.nilRow W .u64, Wd.nil _, by decide⟩
 ·
  simp at hcs; subst hcs
  simp only [if_true] at hz
  refine ⟨some a, len, cap, zs.take len, rfl, ⟨by simp; omega, hl, fun e => (by cases e), ?_⟩, ?_, hm⟩
  ·
   by_cases h0 : len = 0
   ·
    exact Or.inl h0
   ·
    right
    obtain ⟨b, off, spot⟩ := a
    have hs : spot = none := by simpa [Addr.add] using World.cell?_spot (hcell 0 (by omega))
    subst hs
    refine ⟨b, off, rfl, ?_, fun t ht => ?_⟩
    ·
     have := hcell 0 (by omega)
     rw [add_off] at this; exact cell_lt this
    ·
     have := hcell t (by omega)
     rw [add_off] at this
     rw [dig_take ht]; exact this
  ·
   intro z hz'
   have := bounds_u64 (hwz z (List.mem_of_mem_take hz'))
   omega
theorem int_of_trod {H : Type} {enc : TypeId × Value → H} {W : World} {fuel : Nat} {c0 c1 : Value} {x : DataW H × List MemPlace} (h : DataW.trod enc Tryz.prog W 0 (fun _ => true) true fuel 26 [c0, c1] = some x) :
  ∃ neg ao len cap zs, c0 = .bool neg ∧ c1 = .slice ao len cap ∧ RowAt W .u64 ao len cap zs ∧ Wd 18446744073709551616 zs ∧ cap ≤ 9223372036854775807 := by
 obtain ⟨y0, y1, n, _, _, h0, h1⟩ := trod_struct2 Tryz.underlying26 h
 simp only [cells_bool, cells_nat, List.drop_zero, List.take_succ_cons, List.take_zero, List.drop_succ_cons] at h0 h1
 obtain ⟨neg, hb, _⟩ := DataW.trod_bool Tryz.underlying4 h0
 simp at hb
 obtain ⟨ao, len, cap, zs, hv, hr, hw, hc⟩ := row_of_trod h1
 exact ⟨neg, ao, len, cap, zs, hb, hv, hr, hw, hc⟩
theorem own : ownKnob Tryz.prog.godebug = none := by kernel_rfl
theorem laidOut : laidOutB Tryz.prog = true := by kernel_rfl
end Go.Proofs.YtiiefpnkpfliiaaGreatDoor
