/-
  A pack of walks and facts: ZD, YL.
-/
import Derived.Test.YtpbkonafojemiaaGreatDoorPK21
import Derived.Test.YtpbkonafojemiaaGreatDoorPK23
set_option maxRecDepth 100000
set_option maxHeartbeats 40000000
set_option linter.unusedVariables false
set_option linter.unusedSimpArgs false
namespace Go.Proofs.YtpbkonafojemiaaGreatDoor
open Go.RowKit
structure LeftSt (a : List Int) (x d : Int) (k A J : Nat) (r : List Int) : Prop where
 len : r.length = k + 1
 low : ∀ t, t < J → dig r t = dig a t
 top : dig r J = syT a x d (k - J)
 even : ∀ m, m < k - J → syT a x d m % d = 0
 lims : Lim (A + (A + 4) * (k - J)) r
theorem LeftSt.step {a r : List Int} {x d : Int} {k A i : Nat} (h : LeftSt a x d k A (i + 1) r) (hi : i < k) (ha : a.length = k + 1) (hA : Lim A a) (hx : lim x ≤ 3) (he : dig r (i + 1) % d = 0) : LeftSt a x d k A i (r.set i (dig r i + dig r (i + 1) / d * x)) := by
 have hl := h.len
 have h1 : k - i = k - (i + 1) + 1 := by omega
 refine ⟨by rw [List.length_set]; exact hl, fun t ht => ?_, ?_, fun m hm => ?_, fun t => ?_⟩
 ·
  rw [pdig_set _ _ _ _ (by omega), if_neg (by omega)]; exact h.low t (by omega)
 ·
  rw [pdig_set _ _ _ _ (by omega), if_pos rfl, h1, syT, ← h.top, h.low i (by omega), show a.length - 2 - (k - (i + 1)) = i by omega]
 ·
  by_cases e : m = k - (i + 1)
  ·
   subst e; rw [← h.top]; exact he
  ·
   exact h.even m (by omega)
 ·
  have hM := h.lims
  by_cases ht : t < r.length
  ·
   rw [pdig_set _ _ _ _ ht]
   split
   ·
    have a1 := lim_add (dig r i) (dig r (i + 1) / d * x)
    have a2 := lim_mul (dig r (i + 1) / d) x
    have a3 : lim (dig r (i + 1) / d) ≤ lim (dig r (i + 1)) := mag_len_mono (Int.natAbs_ediv_le_natAbs _ _)
    have a4 := hM (i + 1)
    have a5 : lim (dig r i) ≤ A := by rw [h.low i (by omega)]; exact hA i
    rw [h1, Nat.mul_succ]; omega
   ·
    have := hM t; rw [h1, Nat.mul_succ]; omega
  ·
   rw [dig_past (by rw [List.length_set]; omega), lim_zero]; omega
theorem etakeOut_any (B g gq gd bb off cb k mo A : Nat) (a b : List Int) (x d : Int) (w : World) (h : ES B w g gq gd (some ⟨bb, off, none⟩) cb k b mo a (List.replicate k 0))
  (ha : a.length = k + 1) (hbl : b.length = 2) (hb0 : dig b 0 = -x) (hb1 : dig b 1 = d) (hd : 0 < d) (hA : Lim A a) (hAA : A ≤ 1000) (hK : Lim 3 b) (hk : k ≤ 64) (hB : B ≤ w.heap.size) :
  Calls Tryz.prog 50 #[.slice (some ⟨g, 0, none⟩) (k + 1) (k + 1), .int .i64 2, .func (.func 51) #[.pointer (some ⟨gd, 0, none⟩)] #[]] w fun e w' => OkAns B w w' e (∃ m, m < k ∧ (syT a x d m % d ≠ 0 ∨ 2 ^ mo ≤ (syT a x d m / d).natAbs)) (∃ l q, LeftSt a x d k A 0 l ∧ q.length = k ∧ ES B w' g gq gd (some ⟨bb, off, none⟩) cb k b mo l q) := by
 have HR : Hid (a.length = k + 1 ∧ b.length = 2 ∧ dig b 0 = -x ∧ dig b 1 = d ∧ 0 < d ∧ Lim A a ∧ A ≤ 1000 ∧ Lim 3 b ∧ lim x ≤ 3 ∧ B ≤ w.heap.size) := ⟨ha, hbl, hb0, hb1, hd, hA, hAA, hK, by have := hK 0; rw [hb0, lim_neg] at this; exact this, hB⟩
 have HP : Hid (ES B w g gq gd (some ⟨bb, off, none⟩) cb k b mo a (List.replicate k 0)) := h
 have z1 : IntKind.i64.wrap ((k : Int) + 1 - 2) = (k : Int) - 1 := by rw [IntKind.wrap_i64]; omega
 have z2 : (k : Int) + 1 - 2 = (k : Int) - 1 := by omega
 clear h ha hbl hb0 hb1 hd hA hAA hK hB
 go_enter Tryz.func50, Tryz.ntmps50
 go_wp2
 go_loopw [7] (fun ii wr => ∃ (J : Nat) (l q : List Int), J ≤ k ∧ ii = .int .i64 ((J : Int) - 1) ∧ ES B wr g gq gd (some ⟨bb, off, none⟩) cb k b mo l q ∧ LeftSt a x d k A J l ∧ q.length = k ∧ Below B w wr ∧ w.heap.size ≤ wr.heap.size) (fun ii _ => (intOf ii + 1).toNat)
 case atStart =>
  refine ⟨k, a, List.replicate k 0, Nat.le_refl _, rfl, HP.out, ⟨HR.out.1, fun _ _ => rfl, ?_, fun m hm => absurd hm (by omega), ?_⟩, by simp, Below.refl _ _, Nat.le_refl _⟩
  ·
   rw [Nat.sub_self]; show _ = dig a (a.length - 1); rw [HR.out.1]; rfl
  ·
   rw [Nat.sub_self]; exact HR.out.2.2.2.2.2.1.mono (by omega)
 case round =>
  obtain ⟨J, l, q, hJ, rfl, hes, hst, hq, hbel, hsz⟩ := hrel
  have HT : Hid (ES B wr g gq gd (some ⟨bb, off, none⟩) cb k b mo l q ∧ LeftSt a x d k A J l ∧ q.length = k ∧ Below B w wr ∧ w.heap.size ≤ wr.heap.size) := ⟨hes, hst, hq, hbel, hsz⟩
  clear hes hst hq hbel hsz
  by_cases hJ0 : J = 0
  ·
   subst hJ0
   go_wp2
   go_ret
   exact ⟨true, rfl, HT.out.2.2.2.1, fun h => (by cases h), fun _ => ⟨l, q, HT.out.2.1, HT.out.2.2.1, HT.out.1⟩⟩
  ·
   obtain ⟨i, rfl⟩ : ∃ i, J = i + 1 := ⟨J - 1, by omega⟩
   have hki : ((i + 1 : Nat) : Int) - 1 = (i : Int) := by omega
   rw [hki]
   have hik : i < k := by omega
   have hcon : Calls Tryz.prog 51 #[.pointer (some ⟨gd, 0, none⟩), .slice (some ⟨g, i * 2, none⟩) 2 2, .int .i64 (i : Int)] wr fun e w' => OkAns B wr w' e (dig l (i + 1) % d ≠ 0 ∨ 2 ^ mo ≤ (dig l (i + 1) / d).natAbs) (dig l (i + 1) % d = 0 ∧ ES B w' g gq gd (some ⟨bb, off, none⟩) cb k b mo (l.set i (dig l i + dig l (i + 1) / d * x)) (q.set i (dig l (i + 1) / d))) := by
    have hb : A + (A + 4) * (k - (i + 1)) ≤ 100000 := by
     have h1 : (A + 4) * (k - (i + 1)) ≤ 1004 * 64 := Nat.mul_le_mul (by have := HR.out.2.2.2.2.2.2.1; omega) (by omega)
     have := HR.out.2.2.2.2.2.2.1
     omega
    exact estep_any B g gq gd bb off cb k i mo _ b l q x d wr HT.out.1 hik HT.out.2.1.len HT.out.2.2.1 HR.out.2.1 HR.out.2.2.1 HR.out.2.2.2.1 HR.out.2.2.2.2.1 HT.out.2.1.lims hb HR.out.2.2.2.2.2.2.2.1 hk (Nat.le_trans HR.out.2.2.2.2.2.2.2.2.2 HT.out.2.2.2.2)
   clear hJ0 hki z1 z2
   have y1 : (0 : Int) ≤ (i : Int) := by omega
   have y2 : (i : Int) ≤ (i : Int) + 2 := by omega
   have y3 : (i : Int) + 2 ≤ (k : Int) + 1 := by omega
   have y4 : (i : Int) + 2 - (i : Int) = 2 := by omega
   have y5 : IntKind.i64.wrap ((i : Int) + 2) = (i : Int) + 2 := by rw [IntKind.wrap_i64]; omega
   go_wp2_with (go_at_call 51; refine hcon.mono ?_; rintro e w1 ⟨ok, rfl, hb1, hbad, hgood⟩; cases ok <;> first | (have HGD : Hid (dig l (i + 1) % d = 0 ∧ ES B w1 g gq gd (some ⟨bb, off, none⟩) cb k b mo (l.set i (dig l i + dig l (i + 1) / d * x)) (q.set i (dig l (i + 1) / d))) := hgood rfl; clear hbad hgood) | (have HBD : Hid (dig l (i + 1) % d ≠ 0 ∨ 2 ^ mo ≤ (dig l (i + 1) / d).natAbs) := hbad rfl; clear hbad hgood))
   ·
    go_ret
    refine ⟨false, rfl, HT.out.2.2.2.1.trans hb1, fun _ => ⟨k - (i + 1), by omega, ?_⟩, fun h => (by cases h)⟩
    rw [← HT.out.2.1.top]; exact HBD.out
   ·
    go_roundw
    case rel =>
     refine ⟨i, _, _, by omega, by go_num, HGD.out.2, HT.out.2.1.step hik HR.out.1 HR.out.2.2.2.2.2.1 HR.out.2.2.2.2.2.2.2.2.1 HGD.out.1, by rw [List.length_set]; exact HT.out.2.2.1, HT.out.2.2.2.1.trans hb1, ?_⟩
     have := HT.out.2.2.2.2; have := hb1.size; omega
    case measure => simp [intOf]
end Go.Proofs.YtpbkonafojemiaaGreatDoor
namespace Go.Proofs.YtpbkonafojemiaaGreatDoor
open Go.RowKit
def limSum (p : List Int) : Nat → Nat
 | 0 => 0
 | k + 1 => limSum p k + lim (dig p k)
theorem limSum_mono (p : List Int) {k n : Nat} (h : k ≤ n) : limSum p k ≤ limSum p n := by
 induction n with
 | zero =>
  obtain rfl : k = 0 := by omega
  exact Nat.le_refl _
 | succ n ih =>
  by_cases e : k = n + 1
  ·
   subst e; exact Nat.le_refl _
  ·
   exact Nat.le_trans (ih (by omega)) (Nat.le_add_right _ _)
theorem limSum_le {p : List Int} {K : Nat} (h : Lim K p) (n : Nat) : limSum p n ≤ n * K := by
 induction n with
 | zero => exact Nat.zero_le _
 | succ n ih => rw [limSum, Nat.succ_mul]; exact Nat.add_le_add ih (h n)
theorem RowAt.chg {F : Nat → Nat → Prop} {w w' : World} {k : IntKind} {ao : Option Addr} {l c : Nat} {zs : List Int} (h : RowAt w k ao l c zs) (hC : Chg F w w') (hF : ∀ b o, ao = some ⟨b, o, none⟩ → ∀ t, t < l → ¬ F b (o + t)) : RowAt w' k ao l c zs := by
 refine ⟨h.hlen, h.hcap, h.hnil, ?_⟩
 rcases h.hat with h0 | ⟨b, off, h1, hlt, h2⟩
 ·
  exact Or.inl h0
 ·
  exact Or.inr ⟨b, off, h1, Nat.lt_of_lt_of_le hlt hC.size, fun t ht => (hC.cell b (off + t) hlt (hF b off h1 t ht)).trans (h2 t ht)⟩
theorem PBlk.chg {F : Nat → Nat → Prop} {w w' : World} {g : Nat} {p : List Int} (h : PBlk w g p) (hC : Chg F w w') (hg : g < w.heap.size) (hF : ∀ j, ¬ F g j)
  (hrow : ∀ t, t < p.length → ∀ b o l c, w.cell? ⟨g, t * 2 + 1, none⟩ = some (.slice (some ⟨b, o, none⟩) l c) → ∀ s, s < l → ¬ F b (o + s)) : PBlk w' g p := by
 have e := hC.other g hg hF
 refine ⟨fun j => by have := h.soft j; simpa [World.frozen?, e] using this, fun t ht => ?_⟩
 obtain ⟨n, ao, l, c, ⟨h0, h1⟩, hi⟩ := h.coef t ht
 exact ⟨n, ao, l, c, ⟨(World.cell?_of_block (w := w) e).trans h0, (World.cell?_of_block (w := w) e).trans h1⟩, hi.sg, hi.row.chg hC fun b o hb s hs => hrow t ht b o l c (by rw [h1, hb]) s hs⟩
theorem PBlk.drew {w : World} {g : Nat} {p : List Int} (h : PBlk w g p) (hp : 0 < p.length) : PBlk w.drew g p := h.later (Below.refl _ _).drew (h.coef 0 hp).lt
def Ahead (w : World) (g d at_ n : Nat) : Prop := ∀ t, t < n → ∀ b o l c, w.cell? ⟨g, t * 2 + 1, none⟩ = some (.slice (some ⟨b, o, none⟩) l c) → b = d → o + l ≤ at_
theorem Ahead.mono {w : World} {g d a a' n : Nat} (h : Ahead w g d a n) (ha : a ≤ a') : Ahead w g d a' n := fun t ht b o l c hc hb => Nat.le_trans (h t ht b o l c hc hb) ha
theorem Ahead.kept {w w' : World} {g d a n : Nat} (h : Ahead w g d a n) (e : w'.heap[g]? = w.heap[g]?) : Ahead w' g d a n := fun t ht b o l c hc hb => h t ht b o l c ((World.cell?_of_block (w := w) e).symm.trans hc) hb
theorem Ahead.put {w : World} {g d a n k l c : Nat} {ng : Bool} {p : List Int} (h : Ahead w g d a n) (hP : PBlk w g p) (hn : n = p.length) (hk : k < n) : Ahead ((w.setCell ⟨g, k * 2, none⟩ (.bool ng)).setCell ⟨g, k * 2 + 1, none⟩ (.slice (some ⟨d, a, none⟩) l c)) g d (a + l) n := by
 intro t ht b o l' c' hc hb
 obtain ⟨n0, ao0, l0, c0, ⟨e0, e1⟩, _⟩ := hP.coef k (by omega)
 by_cases e : t = k
 ·
  subst e
  have : ((w.setCell ⟨g, t * 2, none⟩ (.bool ng)).setCell ⟨g, t * 2 + 1, none⟩ (.slice (some ⟨d, a, none⟩) l c)).cell? ⟨g, t * 2 + 1, none⟩ = some (.slice (some ⟨d, a, none⟩) l c) := by simp [go_sem, e0, e1]
  rw [this] at hc
  simp only [Option.some.injEq, Value.slice.injEq, Addr.mk.injEq] at hc
  obtain ⟨⟨_, h2, _⟩, h3, _⟩ := hc
  omega
 ·
  rw [setCell_ne (by rintro ⟨_, h⟩; simp only at h; omega), setCell_ne (by rintro ⟨_, h⟩; simp only at h; omega)] at hc
  have := h t ht b o l' c' hc hb
  omega
theorem room_set {w : World} {g b off n i j : Nat} {x y : Value} (h : Room w g off n) (hb : g ≠ b) : Room ((w.setCell ⟨b, i, none⟩ x).setCell ⟨b, j, none⟩ y) g off n := by
 obtain ⟨L, h1, h2, h3⟩ := h
 refine ⟨L, ?_, h2, h3⟩
 unfold Blk
 rw [Below.heap_setCell _ ⟨b, j, none⟩ y _ hb, Below.heap_setCell _ ⟨b, i, none⟩ x _ hb]
 exact h1
theorem wp_copy_part {P : Program} {w : World} {o : Oper} {a : Act} {K : Act → World → Prop} {Q : Exit → Act → World → Prop} (d s : Operand) (dT sT : TypeId)
  (ho : o.op = .call { callee := .builtin .copy, args := #[d, s], argTypes := #[dT, sT] }) (elem : TypeId) (hu : P.underlying dT = some (.slice elem)) (hsz : (P.info? elem).map (·.size) = some 1)
  (g off n cap m cb : Nat) (so : Option Addr) (zs : List Int) (hd : a.eval d = .slice (some ⟨g, off, none⟩) n cap) (hs : a.eval s = .slice so m cb) (hm : 0 < m) (hmn : m ≤ n) (hr : Room w g off m) (hz : RowAt w .u64 so m cb zs) (hwz : Wd 18446744073709551616 zs)
  (h : ∀ w', Hid (Chg (Fr g off m) w w' ∧ RowAt w' .u64 (some ⟨g, off, none⟩) m m zs) → K (a.put o.dst (goInt m)) w') : o.wp P a w K Q := by
 obtain ⟨L, hb, hW, hl⟩ := hr
 have e1 := hz.hlen
 obtain ⟨ad, rfl, hsrc⟩ := hz.src hm
 have hrun := run_copy_row (P := P) w dT sT o.type elem g off n cap ad m cb (L.map (Value.int .u64)).toArray 56 (zs.map (Value.int .u64)) hu hsz hb (by rw [List.length_map, ← e1]; exact (Nat.min_eq_left hmn).symm) hsrc (by simp [← e1]; omega) (ints_oneCell _ _)
 have hsl : (splice L off zs).length = L.length := length_splice _ _ _ (by omega)
 have hB : Blk (w.setRow g ((L.map (Value.int .u64)).toArray.toList.take off ++ zs.map (Value.int .u64) ++ (L.map (Value.int .u64)).toArray.toList.drop (off + (zs.map (Value.int .u64)).length)).toArray) g .u64 56 (splice L off zs) := by
  unfold Blk
  rw [setRow_heap w g _ _ _ _ hb]
  congr 2
  simp [splice, List.map_append, List.map_take, List.map_drop, e1]
 have hd' := fun j => dig_splice (L := L) (cs := zs) (off := off) (by omega) j
 unfold Oper.wp
 simp only [execOp, ho, resolve, invoke, builtin, Sem.run_bind, Sem.run_pure, Result.andThen_ok, List.map_toArray, List.map_cons, List.map_nil, hd, hs, hrun]
 have e2 : goInt ((zs.map (Value.int .u64)).length : Int) = goInt (m : Int) := by rw [List.length_map, ← e1]
 rw [e2]
 refine h _ ⟨Chg.ofTouch (touch_setRow _) hb hB hsl (wd_splice hW hwz) (fun j hj => by
  rw [hd']
  rcases hj with hj | hj
  ·
   rw [if_pos hj]
  ·
   rw [if_neg (by omega), if_neg (by omega)]), e1, Nat.le_refl _, fun e => (by cases e), Or.inr ⟨g, off, rfl, ?_, fun t ht => ?_⟩⟩
 ·
  exact heap_lt hB
 ·
  rw [hB.cell (by omega), hd', if_neg (by omega), if_pos (by omega)]
  congr 3; omega
theorem wp_copy_nil {P : Program} {w : World} {o : Oper} {a : Act} {K : Act → World → Prop} {Q : Exit → Act → World → Prop} (d s : Operand) (dT sT : TypeId)
  (ho : o.op = .call { callee := .builtin .copy, args := #[d, s], argTypes := #[dT, sT] }) (elem : TypeId) (hu : P.underlying dT = some (.slice elem)) (hsz : (P.info? elem).map (·.size) = some 1)
  (dp so : Option Addr) (n cap cb : Nat) (hd : a.eval d = .slice dp n cap) (hs : a.eval s = .slice so 0 cb) (h : K (a.put o.dst (goInt 0)) w) : o.wp P a w K Q := by
 have hrun := run_copy_none (P := P) w dT sT o.type elem dp so n cap 0 cb hu hsz (by simp)
 unfold Oper.wp
 simp only [execOp, ho, resolve, invoke, builtin, Sem.run_bind, Sem.run_pure, Result.andThen_ok, List.map_toArray, List.map_cons, List.map_nil, hd, hs, hrun]
 exact h
theorem plcopied_any (ao : Option Addr) (len cap : Nat) (p : List Int) (w : World) (hp : PolyAt w ao len cap p) (hl : len ≤ 1048576) (hlim : Lim 1048576 p) :
  Calls Tryz.prog 49 #[.slice ao len cap] w fun e w' => NewPB w w' e p := by
 have HR : Hid (PolyAt w ao len cap p ∧ Lim 1048576 p) := ⟨hp, hlim⟩
 have HLEN : Hid (len = p.length) := hp.hlen
 clear hp hlim
 by_cases h0 : len = 0
 ·
  subst h0
  go_enter Tryz.func49, Tryz.ntmps49
  go_wp2
  go_ret
  exact Or.inl ⟨HLEN.out.symm, rfl, Below.refl _ _⟩
 ·
  have hn0 : ((len : Int) == 0) = false := by simp; omega
  have HP : Hid (0 < len) := by show 0 < _; omega
  obtain ⟨i0, hi, hz0, hz1, hz2⟩ := info_parts info64
  obtain ⟨total, htot⟩ : ∃ total, total = limSum p len := ⟨_, rfl⟩
  have HT : Hid (total = limSum p len) := htot
  have hT : total ≤ 1099511627776 := by
   have h1 := limSum_le HR.out.2 len
   have h2 : len * 1048576 ≤ 1048576 * 1048576 := Nat.mul_le_mul_right _ hl
   omega
  clear htot h0
  have b1 : Hid (i0.bytes * total ≤ 281474976710656) := by show _ ≤ _; rw [hz2]; omega
  have b2 : Hid (total ≤ maxLen) := by show _ ≤ _; unfold maxLen; omega
  go_enter Tryz.func49, Tryz.ntmps49
  go_wp2_with fail
  go_loopw [3, 17] (fun tt i wr => ∃ (k : Nat), k ≤ len ∧ i = .int .i64 (k : Int) ∧ tt = .int .i64 ((limSum p k : Nat) : Int) ∧ Below w.heap.size w wr) (fun _ i _ => len - (intOf i).toNat)
  case atStart => exact ⟨0, Nat.zero_le _, rfl, rfl, Below.refl _ _⟩
  case round =>
   obtain ⟨k, hk, rfl, rfl, hbel⟩ := hrel
   by_cases hlt : k < len
   ·
    obtain ⟨b, off, rfl, hat⟩ := (HR.out.1.later hbel).get (by omega)
    obtain ⟨n1, ao1, l1, c1, ⟨h1, h2⟩, hint⟩ := hat k hlt
    have hS1 : limSum p (k + 1) = limSum p k + l1 := by rw [limSum, hint.lim]
    have hS2 : limSum p (k + 1) ≤ 1099511627776 := by have := limSum_mono p (show k + 1 ≤ len by omega); have := HT.out; omega
    obtain ⟨T, hTk⟩ : ∃ T, T = limSum p k := ⟨_, rfl⟩
    have HTk : Hid (limSum p (k + 1) = T + l1) := by rw [hTk]; exact hS1
    have hT2 : T + l1 ≤ 1099511627776 := by rw [hTk, ← hS1]; exact hS2
    rw [← hTk]
    clear hat hint hS1 hS2 hTk
    have z1 : IntKind.i64.wrap ((T : Int) + (l1 : Int)) = (T : Int) + (l1 : Int) := by rw [IntKind.wrap_i64]; omega
    have hA : Below wr.heap.size wr (wr.alloc (.cells #[.bool n1, .slice ao1 l1 c1] 28)) := (Below.refl _ _).alloc (Nat.le_refl _) _
    go_wp2
    go_roundw
    case rel => exact ⟨k + 1, by omega, by go_num, by rw [HTk.out]; go_num, bnext hbel hA⟩
    case measure => simp [intOf]; omega
   ·
    obtain rfl : k = len := by omega
    rw [← HT.out]
    go_wp2_with (first
     | (at_make; refine wpList_make_full _ rfl (.tmp 27) (.tmp 27) 26 rfl wr.heap.size 56 i0 (.int .u64 0) 1 Tryz.underlying26 hi hz0 hz1 .i64 .i64 _ _ total rfl rfl rfl rfl b1.out b2.out (Nat.le_refl _) ?_; intro w1 hown1 hgrow1; have H1 : Hid (Blk w1 wr.heap.size .u64 56 (List.replicate total 0) ∧ Below wr.heap.size wr w1 ∧ wr.heap.size < w1.heap.size) := ⟨made_blk hown1, grown_below hgrow1, heap_lt (made_blk hown1)⟩; clear hown1 hgrow1)
     | (go_at_call 46; refine (room_any k _ (by omega)).mono ?_; rintro e w2 ⟨rfl, hB2, hg2, hb2⟩; have H2 : Hid (PBlkO (wr.heap.size + 1) w2 w1.heap.size (List.replicate k 0) ∧ w1.heap.size < w2.heap.size ∧ Below w1.heap.size w1 w2) := ⟨hB2 _, hg2, hb2⟩; clear hB2 hg2 hb2))
    obtain ⟨gb, hgb⟩ : ∃ gb, gb = wr.heap.size := ⟨_, rfl⟩
    obtain ⟨g, hg⟩ : ∃ g, g = w1.heap.size := ⟨_, rfl⟩
    rw [← hgb, ← hg]
    have HB : Hid (w.heap.size ≤ gb ∧ gb < g ∧ g < w2.heap.size ∧ Below w.heap.size w w2 ∧ PBlk w2 g (List.replicate k 0) ∧ Room w2 gb 0 total ∧ Ahead w2 g gb 0 k) := by
     rw [hgb, hg]
     refine ⟨hbel.size, H1.out.2.2, H2.out.2.1, bnext hbel (bnext H1.out.2.1 H2.out.2.2), H2.out.1.blk, ⟨_, H1.out.1.all H2.out.2.2, wd_zeros (by decide) _, by simp⟩, fun t ht b o l c hc hb => ?_⟩
     obtain ⟨n0, a0, l0, c0, ⟨_, q1⟩, _, q2⟩ := H2.out.1.coef t (by simpa using ht)
     rw [hc] at q1
     simp only [Option.some.injEq, Value.slice.injEq] at q1
     rw [← q1.1] at q2
     have := (own_lt q2).1
     simp only at this
     omega
    clear hgb hg hbel hk
    go_loopw [7, 34] (fun aa i wr => ∃ (j at_ : Nat) (l : List Int), j ≤ k ∧ i = .int .i64 (j : Int) ∧ aa = .int .i64 (at_ : Int) ∧ at_ = limSum p j ∧ Below w.heap.size w wr ∧ g < wr.heap.size ∧ PBlk wr g l ∧ CpSt p j l ∧ Room wr gb 0 total ∧ Ahead wr g gb at_ k) (fun _ i _ => k - (intOf i).toNat)
    case atStart => exact ⟨0, 0, _, Nat.zero_le _, rfl, rfl, rfl, HB.out.2.2.2.1, HB.out.2.2.1, HB.out.2.2.2.2.1, by rw [HLEN.out]; exact CpSt.start p, HB.out.2.2.2.2.2.1, HB.out.2.2.2.2.2.2⟩
    case round =>
     obtain ⟨j, at_, l, hj, rfl, rfl, hat0, hbel, hgl, hPB, hst, hroom, hah⟩ := hrel
     have HS : Hid (at_ = limSum p j ∧ PBlk wr g l ∧ CpSt p j l ∧ Room wr gb 0 total ∧ Ahead wr g gb at_ k ∧ Below w.heap.size w wr) := ⟨hat0, hPB, hst, hroom, hah, hbel⟩
     clear hat0 hPB hst hroom hah
     by_cases hlt : j < k
     ·
      obtain ⟨b, off, rfl, hat⟩ := (HR.out.1.later hbel).get (by omega)
      obtain ⟨n1, ao1, l1, c1, ⟨h1, h2⟩, hint⟩ := hat j hlt
      have hS1 : limSum p (j + 1) = at_ + l1 := by rw [limSum, hint.lim, HS.out.1]
      have hS2 : at_ + l1 ≤ total := by have := limSum_mono p (show j + 1 ≤ k by omega); have := HT.out; omega
      have HI : Hid (IntAt wr n1 ao1 l1 c1 (dig p j) ∧ limSum p (j + 1) = at_ + l1) := ⟨hint, hS1⟩
      clear hat hint hS1 hbel
      have hA : Below wr.heap.size wr (wr.alloc (.cells #[.bool n1, .slice ao1 l1 c1] 28)) := (Below.refl _ _).alloc (Nat.le_refl _) _
      obtain ⟨W, hW⟩ : ∃ W, W = wr.alloc (.cells #[.bool n1, .slice ao1 l1 c1] 28) := ⟨_, rfl⟩
      have HW : Hid (Below wr.heap.size wr W ∧ (W.cell? ⟨wr.heap.size, 0, none⟩ = some (.bool n1) ∧ W.cell? ⟨wr.heap.size, 1, none⟩ = some (.slice ao1 l1 c1)) ∧ wr.heap.size < W.heap.size) := by rw [hW]; exact ⟨hA, ⟨by simp [go_sem], by simp [go_sem]⟩, by simp⟩
      clear hA
      have hkl : Hid (j < l.length) := by show j < _; rw [HS.out.2.2.1.1, ← HLEN.out]; exact hlt
      have z1 : IntKind.i64.wrap ((at_ : Int) + (l1 : Int)) = (at_ : Int) + (l1 : Int) := by rw [IntKind.wrap_i64]; omega
      have z2 : (0 : Int) ≤ (at_ : Int) := by omega
      have z3 : (at_ : Int) ≤ (total : Int) := by omega
      have K0 : Hid (∀ w', Below W.heap.size W w' → (w'.cell? ⟨wr.heap.size, 0, none⟩ = some (.bool n1) ∧ w'.cell? ⟨wr.heap.size, 1, none⟩ = some (.slice ao1 l1 c1))) := fun w' hb => ⟨(hb.cell (p := ⟨wr.heap.size, 0, none⟩) HW.out.2.2).trans HW.out.2.1.1, (hb.cell (p := ⟨wr.heap.size, 1, none⟩) HW.out.2.2).trans HW.out.2.1.2⟩
      by_cases hz : l1 = 0
      ·
       subst hz
       have hd0 : Hid (dig p j = 0) := zero_of_lim HI.out.1.lim.symm
       have y1 : IntKind.i64.wrap ((at_ : Int) + 0) = (at_ : Int) := by rw [Int.add_zero, IntKind.wrap_i64]; omega
       go_wp2_with fail
       rw [← hW]
       clear hW
       refine wp_region_noPanic ?_
       refine wp_region_held_drew (S := fun w' => (w'.cell? ⟨wr.heap.size, 0, none⟩ = some (.bool n1) ∧ w'.cell? ⟨wr.heap.size, 1, none⟩ = some (.slice ao1 0 c1))) (by kernel_rfl) (by (try dsimp only); exact K0.out _ (Below.refl _ _).drew) (fun hHeld => ?_)
       refine wpAnyH_take (i := 0) (oi := Oper.mk (some 39) _ _ _ _ _) (v := ?_) rfl (by decide +kernel) (by decide +kernel) (by decide +kernel) (fun _ _ _ h => h) (Or.inl ⟨by rfl, ?_⟩) (by assumption) ?_
       rotate_left
       ·
        (intro w hSw; (try dsimp only at hSw); go_simp <;> (try with_reducible rfl))
       (try simp only [Act.put, List.setIfInBounds_toArray, List.set_cons_zero, List.set_cons_succ])
       refine wpAnyH_take (i := 1) (oi := Oper.mk (some 40) _ _ _ _ _) (v := ?_) rfl (by decide +kernel) (by decide +kernel) (by decide +kernel) (fun _ _ _ h => h) (Or.inl ⟨by rfl, ?_⟩) (by assumption) ?_
       rotate_left
       ·
        (intro w hSw; (try dsimp only at hSw); go_simp <;> (try with_reducible rfl))
       (try simp only [Act.put, List.setIfInBounds_toArray, List.set_cons_zero, List.set_cons_succ])
       refine wpAnyH_take (i := 2) (oi := Oper.mk (some 41) _ _ _ _ _) (v := ?_) rfl (by decide +kernel) (by decide +kernel) (by decide +kernel) (fun _ _ _ h => h) (Or.inl ⟨by rfl, ?_⟩) (by assumption) ?_
       rotate_left
       ·
        (intro w hSw; (try dsimp only at hSw); go_simp <;> (try with_reducible rfl))
       (try simp only [Act.put, List.setIfInBounds_toArray, List.set_cons_zero, List.set_cons_succ])
       refine wpAnyH_take (i := 3) (oi := Oper.mk (some 42) _ _ _ _ _) (v := ?_) rfl (by decide +kernel) (by decide +kernel) (by decide +kernel) (fun _ _ _ h => h) (Or.inl ⟨by rfl, ?_⟩) (by assumption) ?_
       rotate_left
       ·
        (intro w hSw; (try dsimp only at hSw); go_simp <;> (try with_reducible rfl))
       (try simp only [Act.put, List.setIfInBounds_toArray, List.set_cons_zero, List.set_cons_succ])
       refine wpAnyH_take (i := 4) (oi := Oper.mk (some 43) _ _ _ _ _) (v := ?_) rfl (by decide +kernel) (by decide +kernel) (by decide +kernel) (fun _ _ _ h => h) (Or.inl ⟨by rfl, ?_⟩) (by assumption) ?_
       rotate_left
       ·
        (intro w hSw; (try dsimp only at hSw); go_simp <;> (try with_reducible rfl))
       (try simp only [Act.put, List.setIfInBounds_toArray, List.set_cons_zero, List.set_cons_succ])
       refine wpAnyH_take (i := 5) (oi := Oper.mk (some 44) _ _ _ _ _) (v := ?_) rfl (by decide +kernel) (by decide +kernel) (by decide +kernel) (fun _ _ _ h => h) (Or.inl ⟨by rfl, ?_⟩) (by assumption) ?_
       rotate_left
       ·
        (intro w hSw; (try dsimp only at hSw); go_simp <;> (try with_reducible rfl))
       (try simp only [Act.put, List.setIfInBounds_toArray, List.set_cons_zero, List.set_cons_succ])
       refine wpAnyH_ready (rs := [6]) (by decide +kernel) (by simp) ?_
       refine AllReadyH.cons (o := Oper.mk (some 45) _ _ _ _ _) rfl (fun K hK => ?_) AllReadyH.nil
       (refine wp_copy_nil (.tmp 42) (.tmp 44) 26 26 rfl 56 Tryz.underlying26 size64 _ _ _ _ _ rfl rfl ?_)
       clear hHeld
       refine hK.out _ _ (by (try dsimp only); exact K0.out _ (Below.refl _ _).drew) (fun hHeld => ?_)
       clear hK K
       (try simp only [Act.put, List.setIfInBounds_toArray, List.set_cons_zero, List.set_cons_succ])
       refine wpAnyH_take (i := 7) (oi := Oper.mk (some 46) _ _ _ _ _) (v := ?_) rfl (by decide +kernel) (by decide +kernel) (by decide +kernel) (fun _ _ _ h => h) (Or.inl ⟨by rfl, ?_⟩) (by assumption) ?_
       rotate_left
       ·
        (intro w hSw; (try dsimp only at hSw); go_simp <;> (try with_reducible rfl))
       (try simp only [Act.put, List.setIfInBounds_toArray, List.set_cons_zero, List.set_cons_succ])
       refine wpAnyH_take (i := 8) (oi := Oper.mk (some 11) _ _ _ _ _) (v := ?_) rfl (by decide +kernel) (by decide +kernel) (by decide +kernel) (fun _ _ _ h => h) (Or.inl ⟨by rfl, ?_⟩) (by assumption) ?_
       rotate_left
       ·
        (intro w hSw; (try dsimp only at hSw); go_simp <;> (try with_reducible rfl))
       (try simp only [Act.put, List.setIfInBounds_toArray, List.set_cons_zero, List.set_cons_succ])
       refine wpAnyH_done (by decide +kernel) ?_ _
       refine NoPanic.normal ?_
       go_wp2
       go_roundw
       case rel => exact ⟨j + 1, at_, l, by omega, by go_num, by go_num, by rw [HI.out.2]; rfl, bnext HS.out.2.2.2.2.2 (bnext HW.out.1 (Below.refl _ _).drew), Nat.lt_of_lt_of_le hgl HW.out.1.size, HS.out.2.1.later (HW.out.1.trans ((Below.refl _ _).drew.mono HW.out.1.size)) hgl, HS.out.2.2.1.skip (by rw [← HLEN.out]; exact hlt) hd0.out, HS.out.2.2.2.1.later (Chg.below (F := fun _ _ => False) (HW.out.1.trans ((Below.refl _ _).drew.mono HW.out.1.size))), HS.out.2.2.2.2.1.kept ((HW.out.1.trans ((Below.refl _ _).drew.mono HW.out.1.size)).block g hgl)⟩
       case measure => simp [intOf]; omega
      ·
       have hl1 : 0 < l1 := by omega
       have z4 : (at_ : Int) < (at_ : Int) + (l1 : Int) := by omega
       have z5 : ¬ total = at_ := by omega
       have z6 : (at_ : Int) + (l1 : Int) ≤ (total : Int) := by omega
       have z7 : (0 : Int) ≤ (at_ : Int) + (l1 : Int) := by omega
       have z8 : (at_ : Int) ≤ (at_ : Int) + (l1 : Int) := by omega
       have z9 : (at_ : Int) + (l1 : Int) - (at_ : Int) = (l1 : Int) := by omega
       have HRM : Hid (Room W.drew gb at_ l1 ∧ RowAt W.drew .u64 ao1 l1 c1 (mag (dig p j).natAbs) ∧ PBlk W.drew g l ∧ Room W.drew gb 0 total ∧ Ahead W.drew g gb at_ k ∧ Below w.heap.size w W.drew ∧ g < W.drew.heap.size ∧ gb ≠ g ∧ gb < W.drew.heap.size) := by
        have hb : Below wr.heap.size wr W.drew := HW.out.1.drew
        obtain ⟨LL, q1, q2, q3⟩ := HS.out.2.2.2.1.later (Chg.below (F := fun _ _ => False) hb)
        have hsz := hb.size
        exact ⟨⟨LL, q1, q2, by omega⟩, (HI.out.1.later hb).row, HS.out.2.1.later hb hgl, ⟨LL, q1, q2, q3⟩, HS.out.2.2.2.2.1.kept (hb.block g hgl), bnext HS.out.2.2.2.2.2 hb, by omega, Nat.ne_of_lt HB.out.2.1, by have := HB.out.2.1; omega⟩
       go_wp2_with fail
       rw [← hW]
       clear hW
       refine wp_region_noPanic ?_
       refine wp_region_held_drew (S := fun w' => (w'.cell? ⟨wr.heap.size, 0, none⟩ = some (.bool n1) ∧ w'.cell? ⟨wr.heap.size, 1, none⟩ = some (.slice ao1 l1 c1))) (by kernel_rfl) (by (try dsimp only); exact K0.out _ (Below.refl _ _).drew) (fun hHeld => ?_)
       refine wpAnyH_take (i := 0) (oi := Oper.mk (some 39) _ _ _ _ _) (v := ?_) rfl (by decide +kernel) (by decide +kernel) (by decide +kernel) (fun _ _ _ h => h) (Or.inl ⟨by rfl, ?_⟩) (by assumption) ?_
       rotate_left
       ·
        (intro w hSw; (try dsimp only at hSw); go_simp <;> (try with_reducible rfl))
       (try simp only [Act.put, List.setIfInBounds_toArray, List.set_cons_zero, List.set_cons_succ])
       refine wpAnyH_take (i := 1) (oi := Oper.mk (some 40) _ _ _ _ _) (v := ?_) rfl (by decide +kernel) (by decide +kernel) (by decide +kernel) (fun _ _ _ h => h) (Or.inl ⟨by rfl, ?_⟩) (by assumption) ?_
       rotate_left
       ·
        (intro w hSw; (try dsimp only at hSw); go_simp <;> (try with_reducible rfl))
       (try simp only [Act.put, List.setIfInBounds_toArray, List.set_cons_zero, List.set_cons_succ])
       refine wpAnyH_take (i := 2) (oi := Oper.mk (some 41) _ _ _ _ _) (v := ?_) rfl (by decide +kernel) (by decide +kernel) (by decide +kernel) (fun _ _ _ h => h) (Or.inl ⟨by rfl, ?_⟩) (by assumption) ?_
       rotate_left
       ·
        (intro w hSw; (try dsimp only at hSw); go_simp <;> (try with_reducible rfl))
       (try simp only [Act.put, List.setIfInBounds_toArray, List.set_cons_zero, List.set_cons_succ])
       refine wpAnyH_take (i := 3) (oi := Oper.mk (some 42) _ _ _ _ _) (v := ?_) rfl (by decide +kernel) (by decide +kernel) (by decide +kernel) (fun _ _ _ h => h) (Or.inl ⟨by rfl, ?_⟩) (by assumption) ?_
       rotate_left
       ·
        (intro w hSw; (try dsimp only at hSw); go_simp <;> (try with_reducible rfl))
       (try simp only [Act.put, List.setIfInBounds_toArray, List.set_cons_zero, List.set_cons_succ])
       refine wpAnyH_take (i := 4) (oi := Oper.mk (some 43) _ _ _ _ _) (v := ?_) rfl (by decide +kernel) (by decide +kernel) (by decide +kernel) (fun _ _ _ h => h) (Or.inl ⟨by rfl, ?_⟩) (by assumption) ?_
       rotate_left
       ·
        (intro w hSw; (try dsimp only at hSw); go_simp <;> (try with_reducible rfl))
       (try simp only [Act.put, List.setIfInBounds_toArray, List.set_cons_zero, List.set_cons_succ])
       refine wpAnyH_take (i := 5) (oi := Oper.mk (some 44) _ _ _ _ _) (v := ?_) rfl (by decide +kernel) (by decide +kernel) (by decide +kernel) (fun _ _ _ h => h) (Or.inl ⟨by rfl, ?_⟩) (by assumption) ?_
       rotate_left
       ·
        (intro w hSw; (try dsimp only at hSw); go_simp <;> (try with_reducible rfl))
       (try simp only [Act.put, List.setIfInBounds_toArray, List.set_cons_zero, List.set_cons_succ])
       refine wpAnyH_ready (rs := [6]) (by decide +kernel) (by simp) ?_
       refine AllReadyH.cons (o := Oper.mk (some 45) _ _ _ _ _) rfl (fun K hK => ?_) AllReadyH.nil
       (refine wp_copy_part (.tmp 42) (.tmp 44) 26 26 rfl 56 Tryz.underlying26 size64 gb at_ (total - at_) (total - at_) l1 c1 ao1 (mag (dig p j).natAbs) rfl rfl hl1 (by omega) HRM.out.1 HRM.out.2.1 (mag_wd _) ?_; intro w3 H3; have K1 : Hid (w3.cell? ⟨wr.heap.size, 0, none⟩ = some (.bool n1) ∧ w3.cell? ⟨wr.heap.size, 1, none⟩ = some (.slice ao1 l1 c1)) := ⟨(H3.out.1.cell _ _ HW.out.2.2 (by rintro ⟨e, _⟩; have := HB.out.2.1; omega)).trans HW.out.2.1.1, (H3.out.1.cell _ _ HW.out.2.2 (by rintro ⟨e, _⟩; have := HB.out.2.1; omega)).trans HW.out.2.1.2⟩)
       clear hHeld
       refine hK.out _ _ (by (try dsimp only); exact K1.out) (fun hHeld => ?_)
       clear hK K
       (try simp only [Act.put, List.setIfInBounds_toArray, List.set_cons_zero, List.set_cons_succ])
       refine wpAnyH_take (i := 7) (oi := Oper.mk (some 46) _ _ _ _ _) (v := ?_) rfl (by decide +kernel) (by decide +kernel) (by decide +kernel) (fun _ _ _ h => h) (Or.inl ⟨by rfl, ?_⟩) (by assumption) ?_
       rotate_left
       ·
        (intro w hSw; (try dsimp only at hSw); go_simp <;> (try with_reducible rfl))
       (try simp only [Act.put, List.setIfInBounds_toArray, List.set_cons_zero, List.set_cons_succ])
       refine wpAnyH_take (i := 8) (oi := Oper.mk (some 11) _ _ _ _ _) (v := ?_) rfl (by decide +kernel) (by decide +kernel) (by decide +kernel) (fun _ _ _ h => h) (Or.inl ⟨by rfl, ?_⟩) (by assumption) ?_
       rotate_left
       ·
        (intro w hSw; (try dsimp only at hSw); go_simp <;> (try with_reducible rfl))
       (try simp only [Act.put, List.setIfInBounds_toArray, List.set_cons_zero, List.set_cons_succ])
       refine wpAnyH_done (by decide +kernel) ?_ _
       refine NoPanic.normal ?_
       have H4 : Hid (PBlk w3 g l ∧ Room w3 gb 0 total ∧ Ahead w3 g gb at_ k ∧ Below w.heap.size w w3 ∧ g < w3.heap.size ∧ IntAt w3 n1 (some ⟨gb, at_, none⟩) l1 l1 (dig p j)) := by
        have hF : ∀ jj, ¬ Fr gb at_ l1 g jj := fun jj h => HRM.out.2.2.2.2.2.2.2.1 h.1.symm
        refine ⟨HRM.out.2.2.1.chg H3.out.1 HRM.out.2.2.2.2.2.2.1 hF (fun t ht b o l' c' hc s hs hFr => ?_), HRM.out.2.2.2.1.later H3.out.1, HRM.out.2.2.2.2.1.kept (H3.out.1.other g HRM.out.2.2.2.2.2.2.1 hF), HRM.out.2.2.2.2.2.1.trans (H3.out.1.toBelow (by have := HRM.out.2.2.2.2.2.1.size; omega) (fun g' jj hg' h => by have h1 := h.1; have := HB.out.1; omega)), Nat.lt_of_lt_of_le HRM.out.2.2.2.2.2.2.1 H3.out.1.size, ⟨HI.out.1.sg, H3.out.2⟩⟩
        obtain ⟨h1, h2, h3⟩ := hFr
        have := HRM.out.2.2.2.2.1 t (by rw [HLEN.out, ← HS.out.2.2.1.1]; exact ht) b o l' c' hc h1
        omega
       clear H3 HRM
       obtain ⟨n0', a0', l0', c0', ⟨e0, e1⟩, _⟩ := H4.out.1.coef j hkl.out
       have hfz := H4.out.1.soft
       have K2 : Hid (∀ (i i' : Nat) (x y : Value), (fun w' : World => w'.cell? ⟨wr.heap.size, 0, none⟩ = some (.bool n1) ∧ w'.cell? ⟨wr.heap.size, 1, none⟩ = some (.slice ao1 l1 c1)) ((w3.drew.setCell ⟨g, i, none⟩ x).setCell ⟨g, i', none⟩ y)) := fun i i' x y => by
        have hne : wr.heap.size ≠ g := by omega
        exact ⟨by rw [setCell_ne (by rintro ⟨h, _⟩; exact hne h), setCell_ne (by rintro ⟨h, _⟩; exact hne h)]; exact K1.out.1, by rw [setCell_ne (by rintro ⟨h, _⟩; exact hne h), setCell_ne (by rintro ⟨h, _⟩; exact hne h)]; exact K1.out.2⟩
       go_wp2_with fail
       refine wp_region_noPanic ?_
       refine wp_region_held_drew (S := fun w' => (w'.cell? ⟨wr.heap.size, 0, none⟩ = some (.bool n1) ∧ w'.cell? ⟨wr.heap.size, 1, none⟩ = some (.slice ao1 l1 c1))) (by kernel_rfl) (by (try dsimp only); exact K1.out) (fun hHeld => ?_)
       refine wpAnyH_take (i := 0) (oi := Oper.mk (some 50) _ _ _ _ _) (v := ?_) rfl (by decide +kernel) (by decide +kernel) (by decide +kernel) (fun _ _ _ h => h) (Or.inl ⟨by rfl, ?_⟩) (by assumption) ?_
       rotate_left
       ·
        (intro w hSw; (try dsimp only at hSw); go_simp <;> (try with_reducible rfl))
       (try simp only [Act.put, List.setIfInBounds_toArray, List.set_cons_zero, List.set_cons_succ])
       refine wpAnyH_take (i := 1) (oi := Oper.mk (some 51) _ _ _ _ _) (v := ?_) rfl (by decide +kernel) (by decide +kernel) (by decide +kernel) (fun _ _ _ h => h) (Or.inl ⟨by rfl, ?_⟩) (by assumption) ?_
       rotate_left
       ·
        (intro w hSw; (try dsimp only at hSw); go_simp <;> (try with_reducible rfl))
       (try simp only [Act.put, List.setIfInBounds_toArray, List.set_cons_zero, List.set_cons_succ])
       refine wpAnyH_take (i := 2) (oi := Oper.mk (some 52) _ _ _ _ _) (v := ?_) rfl (by decide +kernel) (by decide +kernel) (by decide +kernel) (fun _ _ _ h => h) (Or.inl ⟨by rfl, ?_⟩) (by assumption) ?_
       rotate_left
       ·
        (intro w hSw; (try dsimp only at hSw); go_simp <;> (try with_reducible rfl))
       (try simp only [Act.put, List.setIfInBounds_toArray, List.set_cons_zero, List.set_cons_succ])
       refine wpAnyH_take (i := 3) (oi := Oper.mk (some 53) _ _ _ _ _) (v := ?_) rfl (by decide +kernel) (by decide +kernel) (by decide +kernel) (fun _ _ _ h => h) (Or.inl ⟨by rfl, ?_⟩) (by assumption) ?_
       rotate_left
       ·
        (intro w hSw; (try dsimp only at hSw); go_simp <;> (try with_reducible rfl))
       (try simp only [Act.put, List.setIfInBounds_toArray, List.set_cons_zero, List.set_cons_succ])
       refine wpAnyH_take (i := 4) (oi := Oper.mk (some 54) _ _ _ _ _) (v := ?_) rfl (by decide +kernel) (by decide +kernel) (by decide +kernel) (fun _ _ _ h => h) (Or.inl ⟨by rfl, ?_⟩) (by assumption) ?_
       rotate_left
       ·
        (intro w hSw; (try dsimp only at hSw); go_simp <;> (try with_reducible rfl))
       (try simp only [Act.put, List.setIfInBounds_toArray, List.set_cons_zero, List.set_cons_succ])
       refine wpAnyH_take (i := 5) (oi := Oper.mk (some 55) _ _ _ _ _) (v := ?_) rfl (by decide +kernel) (by decide +kernel) (by decide +kernel) (fun _ _ _ h => h) (Or.inl ⟨by rfl, ?_⟩) (by assumption) ?_
       rotate_left
       ·
        (intro w hSw; (try dsimp only at hSw); go_simp <;> (try with_reducible rfl))
       (try simp only [Act.put, List.setIfInBounds_toArray, List.set_cons_zero, List.set_cons_succ])
       refine wpAnyH_take (i := 6) (oi := Oper.mk (some 56) _ _ _ _ _) (v := ?_) rfl (by decide +kernel) (by decide +kernel) (by decide +kernel) (fun _ _ _ h => h) (Or.inl ⟨by rfl, ?_⟩) (by assumption) ?_
       rotate_left
       ·
        (intro w hSw; (try dsimp only at hSw); go_simp <;> (try with_reducible rfl))
       (try simp only [Act.put, List.setIfInBounds_toArray, List.set_cons_zero, List.set_cons_succ])
       refine wpAnyH_take (i := 7) (oi := Oper.mk (some 57) _ _ _ _ _) (v := ?_) rfl (by decide +kernel) (by decide +kernel) (by decide +kernel) (fun _ _ _ h => h) (Or.inl ⟨by rfl, ?_⟩) (by assumption) ?_
       rotate_left
       ·
        (intro w hSw; (try dsimp only at hSw); go_simp <;> (try with_reducible rfl))
       (try simp only [Act.put, List.setIfInBounds_toArray, List.set_cons_zero, List.set_cons_succ])
       refine wpAnyH_take (i := 8) (oi := Oper.mk (some 58) _ _ _ _ _) (v := ?_) rfl (by decide +kernel) (by decide +kernel) (by decide +kernel) (fun _ _ _ h => h) (Or.inl ⟨by rfl, ?_⟩) (by assumption) ?_
       rotate_left
       ·
        (intro w hSw; (try dsimp only at hSw); go_simp <;> (try with_reducible rfl))
       (try simp only [Act.put, List.setIfInBounds_toArray, List.set_cons_zero, List.set_cons_succ])
       refine wpAnyH_take (i := 9) (oi := Oper.mk (some 59) _ _ _ _ _) (v := ?_) rfl (by decide +kernel) (by decide +kernel) (by decide +kernel) (fun _ _ _ h => h) (Or.inl ⟨by rfl, ?_⟩) (by assumption) ?_
       rotate_left
       ·
        (intro w hSw; (try dsimp only at hSw); go_simp <;> (try with_reducible rfl))
       (try simp only [Act.put, List.setIfInBounds_toArray, List.set_cons_zero, List.set_cons_succ])
       refine wpAnyH_take (i := 10) (oi := Oper.mk (some 60) _ _ _ _ _) (v := ?_) rfl (by decide +kernel) (by decide +kernel) (by decide +kernel) (fun _ _ _ h => h) (Or.inl ⟨by rfl, ?_⟩) (by assumption) ?_
       rotate_left
       ·
        (intro w hSw; (try dsimp only at hSw); go_simp <;> (try with_reducible rfl))
       (try simp only [Act.put, List.setIfInBounds_toArray, List.set_cons_zero, List.set_cons_succ])
       refine wpAnyH_ready (rs := [11]) (by decide +kernel) (by simp) ?_
       refine AllReadyH.cons (o := Oper.mk none _ _ _ _ _) rfl (fun K hK => ?_) AllReadyH.nil
       go_simp
       clear hHeld
       refine hK.out _ _ (by (try dsimp only); exact K2.out _ _ _ _) (fun hHeld => ?_)
       clear hK K
       (try simp only [Act.put, List.setIfInBounds_toArray, List.set_cons_zero, List.set_cons_succ])
       refine wpAnyH_done (by decide +kernel) ?_ _
       refine NoPanic.normal ?_
       go_wp2
       go_roundw
       case rel =>
        have hwg : w.heap.size ≤ g := by have := HB.out.1; have := HB.out.2.1; omega
        rw [show at_ + l1 - at_ = l1 by omega]
        exact ⟨j + 1, at_ + l1, l.set j (dig p j), by omega, by go_num, by go_num, HI.out.2.symm, ((H4.out.2.2.2.1.setCell (p := ⟨g, j * 2, none⟩) hwg _).setCell (p := ⟨g, j * 2 + 1, none⟩) hwg _).drew, by (have := H4.out.2.2.2.2.1; simp; omega), (H4.out.1.put hkl.out H4.out.2.2.2.2.2).drew (by rw [List.length_set]; have := hkl.out; omega), HS.out.2.2.1.step (by rw [← HLEN.out]; exact hlt), room_set H4.out.2.1 (Nat.ne_of_lt HB.out.2.1), (H4.out.2.2.1.put H4.out.1 (by rw [HLEN.out, HS.out.2.2.1.1]) hlt).kept rfl⟩
       case measure => simp [intOf]; omega
     ·
      obtain rfl : j = k := by omega
      have HE : Hid (l = p) := CpSt.done (by have := HS.out.2.2.1; rw [HLEN.out] at this; exact this)
      go_wp2
      go_ret
      refine Or.inr ⟨by rw [← HLEN.out]; exact HP.out, g, by show _ = _; rw [← HLEN.out]; rfl, ?_, Nat.le_trans HB.out.1 (Nat.le_of_lt HB.out.2.1), hgl, hbel⟩
      have := HS.out.2.1; rw [HE.out] at this; exact this
end Go.Proofs.YtpbkonafojemiaaGreatDoor
