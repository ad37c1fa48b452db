/-
  A pack of walks and facts: KD.
-/
import Derived.Test.YthjkdnlbdhhmbaaGreatDoorPV08
import Derived.Laws.BitsAllLaws
import Derived.Deep.RegionHeld3
set_option maxRecDepth 100000
set_option maxHeartbeats 40000000
set_option linter.unusedVariables false
set_option linter.unusedSimpArgs false
namespace Go.Proofs.YthjkdnlbdhhmbaaGreatDoor
open Go.RowKit
structure Chg (F : Nat → Nat → Prop) (w w' : World) : Prop where
 os : w'.os = w.os
 tape : w'.tape = w.tape
 output : w'.output = w.output
 size : w.heap.size ≤ w'.heap.size
 other : ∀ g, g < w.heap.size → (∀ j, ¬ F g j) → w'.heap[g]? = w.heap[g]?
 cell : ∀ b j, b < w.heap.size → ¬ F b j → w'.cell? ⟨b, j, none⟩ = w.cell? ⟨b, j, none⟩
 blk : ∀ g L, Blk w g .u64 60 L → Wd 18446744073709551616 L → ∃ L', Blk w' g .u64 60 L' ∧ L'.length = L.length ∧ Wd 18446744073709551616 L'
def Fr (g off n : Nat) : Nat → Nat → Prop := fun b j => b = g ∧ off ≤ j ∧ j < off + n
theorem Chg.refl (F : Nat → Nat → Prop) (w : World) : Chg F w w := ⟨rfl, rfl, rfl, Nat.le_refl _, fun _ _ _ => rfl, fun _ _ _ _ => rfl, fun _ L h k => ⟨L, h, rfl, k⟩⟩
theorem Chg.trans {F : Nat → Nat → Prop} {a b c : World} (h : Chg F a b) (k : Chg F b c) : Chg F a c := by
 refine ⟨k.os.trans h.os, k.tape.trans h.tape, k.output.trans h.output, Nat.le_trans h.size k.size, fun g hg hF => ?_, fun x j hx hF => ?_, fun g L hb hw => ?_⟩
 ·
  have := h.size
  exact (k.other g (by omega) hF).trans (h.other g hg hF)
 ·
  have := h.size
  exact (k.cell x j (by omega) hF).trans (h.cell x j hx hF)
 ·
  obtain ⟨L1, b1, l1, w1⟩ := h.blk g L hb hw
  obtain ⟨L2, b2, l2, w2⟩ := k.blk g L1 b1 w1
  exact ⟨L2, b2, l2.trans l1, w2⟩
theorem Chg.mono {F G : Nat → Nat → Prop} {a b : World} (h : Chg F a b) (hF : ∀ x j, F x j → G x j) : Chg G a b :=
 ⟨h.os, h.tape, h.output, h.size, fun g hg hG => h.other g hg fun j hj => hG j (hF g j hj), fun x j hx hG => h.cell x j hx fun hj => hG (hF x j hj), h.blk⟩
theorem Chg.drew {F : Nat → Nat → Prop} {a b : World} (h : Chg F a b) : Chg F a b.drew := ⟨h.os, h.tape, h.output, h.size, h.other, h.cell, h.blk⟩
theorem Chg.drewN {F : Nat → Nat → Prop} {a b : World} (h : Chg F a b) (n : Nat) : Chg F a (b.drewN n) := ⟨h.os, h.tape, h.output, h.size, h.other, h.cell, h.blk⟩
theorem Chg.below {F : Nat → Nat → Prop} {a b : World} (h : Below a.heap.size a b) : Chg F a b :=
 ⟨h.os, h.tape, h.output, h.size, fun g hg _ => h.block g hg, fun x j hx _ => h.cell (p := ⟨x, j, none⟩) hx, fun g L hb hw => ⟨L, hb.all h, rfl, hw⟩⟩
theorem Chg.toBelow {F : Nat → Nat → Prop} {a b : World} {B : Nat} (h : Chg F a b) (hB : B ≤ a.heap.size) (hF : ∀ g j, g < B → ¬ F g j) : Below B a b :=
 ⟨h.os, h.tape, h.output, h.size, fun k hk => h.other k (by omega) fun j => hF k j hk⟩
theorem Blk.inj {w : World} {g : Nat} {k : IntKind} {t : TypeId} {L M : List Int} (h : Blk w g k t L) (h' : Blk w g k t M) : L = M := by
 unfold Blk at h h'
 rw [h] at h'
 simp only [Option.some.injEq, Obj.cells.injEq] at h'
 have := congrArg Array.toList h'.1
 simp only at this
 exact List.map_inj_right (by intro x y e; simpa using e) |>.1 this
theorem Blk.none {w : World} {g : Nat} {k : IntKind} {t : TypeId} {L : List Int} (h : Blk w g k t L) {j : Nat} (hj : L.length ≤ j) : w.cell? ⟨g, j, none⟩ = none := by
 unfold Blk at h
 simp [World.cell?, h, List.getElem?_eq_none hj]
theorem Chg.ofTouch {g off n : Nat} {w w' : World} {L L' : List Int} (ht : Touch g w w') (hb : Blk w g .u64 60 L) (hb' : Blk w' g .u64 60 L') (hl : L'.length = L.length) (hW : Wd 18446744073709551616 L') (hout : ∀ j, j < off ∨ off + n ≤ j → dig L' j = dig L j) : Chg (Fr g off n) w w' := by
 refine ⟨ht.os, ht.tape, ht.output, Nat.le_of_eq ht.size.symm, fun x hx hF => ?_, fun x j hx hF => ?_, fun x M hM hw => ?_⟩
 ·
  by_cases e : x = g
  ·
   subst e
   have hn : n = 0 := by
    by_cases h0 : n = 0
    ·
     exact h0
    ·
     exact absurd ⟨rfl, Nat.le_refl _, by omega⟩ (hF off)
   subst hn
   have : L' = L := List.ext_getElem hl fun i h1 h2 => by
    have := hout i (by omega)
    simpa [dig, h1, h2] using this
   subst this
   unfold Blk at hb hb'
   rw [hb, hb']
  ·
   exact ht.block x e
 ·
  by_cases e : x = g
  ·
   subst e
   by_cases hj : j < L.length
   ·
    rw [hb.cell hj, hb'.cell (by omega), hout j (by
     by_cases h1 : j < off
     ·
      exact Or.inl h1
     ·
      by_cases h2 : off + n ≤ j
      ·
       exact Or.inr h2
      ·
       exact absurd ⟨rfl, by omega, by omega⟩ hF)]
   ·
    rw [hb.none (by omega), hb'.none (by omega)]
  ·
   exact World.cell?_of_block (w := w) (ht.block x e)
 ·
  by_cases e : x = g
  ·
   subst e
   exact ⟨L', hb', by rw [hl, hM.inj hb], hW⟩
  ·
   refine ⟨M, ?_, rfl, hw⟩
   unfold Blk at hM ⊢
   rw [ht.block x e]; exact hM
def RowV (w : World) (ao : Option Addr) (len cap : Nat) (v : Int) : Prop := ∃ zs, RowAt w .u64 ao len cap zs ∧ Wd 18446744073709551616 zs ∧ val 18446744073709551616 zs = v
def Room (w : World) (g off n : Nat) : Prop := ∃ L, Blk w g .u64 60 L ∧ Wd 18446744073709551616 L ∧ off + n ≤ L.length
theorem RowV.nonneg {w : World} {ao : Option Addr} {len cap : Nat} {v : Int} (h : RowV w ao len cap v) : 0 ≤ v := by
 obtain ⟨zs, _, h2, rfl⟩ := h; exact val_nonneg (by decide) h2
theorem RowV.lt {w : World} {ao : Option Addr} {len cap : Nat} {v : Int} (h : RowV w ao len cap v) : v < 18446744073709551616 ^ len := by
 obtain ⟨zs, h1, h2, rfl⟩ := h; rw [h1.hlen]; exact val_lt (by decide) h2
theorem RowV.cells {w : World} {b o len cap : Nat} {zs : List Int} (h : RowAt w .u64 (some ⟨b, o, none⟩) len cap zs) (hp : 0 < len) : b < w.heap.size ∧ ∀ t, t < len → w.cell? ⟨b, o + t, none⟩ = some (.int .u64 (dig zs t)) := by
 obtain ⟨b', o', e, h1, h2⟩ := h.get hp
 cases e
 exact ⟨h1, h2⟩
theorem RowV.later {F : Nat → Nat → Prop} {w w' : World} {b o len cap : Nat} {v : Int} (h : RowV w (some ⟨b, o, none⟩) len cap v) (hc : Chg F w w') (hF : ∀ t, t < len → ¬ F b (o + t)) : RowV w' (some ⟨b, o, none⟩) len cap v := by
 obtain ⟨zs, h1, h2⟩ := h
 refine ⟨zs, ⟨h1.hlen, h1.hcap, h1.hnil, ?_⟩, h2⟩
 by_cases hp : 0 < len
 ·
  obtain ⟨k1, k2⟩ := RowV.cells h1 hp
  refine Or.inr ⟨b, o, rfl, Nat.lt_of_lt_of_le k1 hc.size, fun t ht => ?_⟩
  rw [hc.cell b (o + t) k1 (hF t ht)]; exact k2 t ht
 ·
  exact Or.inl (by omega)
theorem Room.later {F : Nat → Nat → Prop} {w w' : World} {g off n : Nat} (h : Room w g off n) (hc : Chg F w w') : Room w' g off n := by
 obtain ⟨L, h1, h2, h3⟩ := h
 obtain ⟨L', k1, k2, k3⟩ := hc.blk g L h1 h2
 exact ⟨L', k1, k3, by omega⟩
theorem Room.part {w : World} {g off n off' n' : Nat} (h : Room w g off n) (h1 : off' + n' ≤ off + n) : Room w g off' n' := by
 obtain ⟨L, a, b, c⟩ := h; exact ⟨L, a, b, by omega⟩
theorem Room.lt {w : World} {g off n : Nat} (h : Room w g off n) : g < w.heap.size := by
 obtain ⟨L, a, _⟩ := h; exact a.lt
theorem Room.row {w : World} {g off n cap : Nat} (h : Room w g off n) (hc : n ≤ cap) : ∃ v, RowV w (some ⟨g, off, none⟩) n cap v := by
 obtain ⟨L, hb, hW, hl⟩ := h
 refine ⟨_, (L.drop off).take n, ⟨by simp; omega, hc, fun e => (by cases e), ?_⟩, (hW.drop off).take n, rfl⟩
 refine Or.inr ⟨g, off, rfl, hb.lt, fun t ht => ?_⟩
 rw [hb.cell (by omega), dig_drop_take ht]
theorem Room.open_ {w : World} {g off n cap : Nat} {v : Int} (h : Room w g off n) (hv : RowV w (some ⟨g, off, none⟩) n cap v) : ∃ L, Blk w g .u64 60 L ∧ Wd 18446744073709551616 L ∧ off + n ≤ L.length ∧ V 18446744073709551616 L off n = v := by
 obtain ⟨L, hb, hW, hl⟩ := h
 obtain ⟨zs, h1, h2, rfl⟩ := hv
 refine ⟨L, hb, hW, hl, ?_⟩
 unfold V
 congr 1
 apply List.ext_getElem (by simp [← h1.hlen]; omega)
 intro i i1 i2
 have hi : i < n := by simp at i1; omega
 have := (RowV.cells h1 (by omega)).2 i hi
 rw [hb.cell (by omega)] at this
 simp only [Option.some.injEq, Value.int.injEq, true_and] at this
 have hL : off + i < L.length := by omega
 simpa [dig, i1, i2, hL] using this
theorem RowV.ofBlk {w : World} {g off n cap : Nat} {L : List Int} (hb : Blk w g .u64 60 L) (hW : Wd 18446744073709551616 L) (hl : off + n ≤ L.length) (hc : n ≤ cap) : RowV w (some ⟨g, off, none⟩) n cap (V 18446744073709551616 L off n) := by
 refine ⟨(L.drop off).take n, ⟨by simp; omega, hc, fun e => (by cases e), Or.inr ⟨g, off, rfl, hb.lt, fun t ht => ?_⟩⟩, (hW.drop off).take n, rfl⟩
 rw [hb.cell (by omega), dig_drop_take ht]
theorem RowV.split {w : World} {b o len cap : Nat} {v : Int} (h : RowV w (some ⟨b, o, none⟩) len cap v) {k : Nat} (hk : k ≤ len) :
  ∃ v0 v1, RowV w (some ⟨b, o, none⟩) k cap v0 ∧ RowV w (some ⟨b, o + k, none⟩) (len - k) (cap - k) v1 ∧ v = v0 + 18446744073709551616 ^ k * v1 := by
 obtain ⟨zs, h1, h2, rfl⟩ := h
 have hl := h1.hlen
 have hcap := h1.hcap
 refine ⟨_, _, ⟨zs.take k, h1.take hk, h2.take k, rfl⟩, ⟨zs.drop k, ⟨by simp; omega, by omega, fun e => (by cases e), ?_⟩, h2.drop k, rfl⟩, val_take_drop _ _ _ (by omega)⟩
 by_cases hp : 0 < len - k
 ·
  obtain ⟨k1, k2⟩ := RowV.cells h1 (by omega)
  refine Or.inr ⟨b, o + k, rfl, k1, fun t ht => ?_⟩
  rw [dig_drop, Nat.add_assoc]; exact k2 _ (by omega)
 ·
  exact Or.inl (by omega)
theorem RowV.join {w : World} {b o k m cap cap' c : Nat} {v0 v1 : Int} (h : RowV w (some ⟨b, o, none⟩) k cap v0) (h' : RowV w (some ⟨b, o + k, none⟩) m cap' v1) (hc : k + m ≤ c) : RowV w (some ⟨b, o, none⟩) (k + m) c (v0 + 18446744073709551616 ^ k * v1) := by
 obtain ⟨zs, h1, h2, rfl⟩ := h
 obtain ⟨ys, h3, h4, rfl⟩ := h'
 have e1 := h1.hlen
 have e2 := h3.hlen
 refine ⟨zs ++ ys, ⟨by simp; omega, hc, fun e => (by cases e), ?_⟩, h2.append h4, by rw [val_append, ← e1]⟩
 by_cases hp : 0 < k + m
 ·
  refine Or.inr ⟨b, o, rfl, ?_, fun t ht => ?_⟩
  ·
   by_cases h0 : 0 < k
   ·
    exact (RowV.cells h1 h0).1
   ·
    exact (RowV.cells h3 (by omega)).1
  ·
   by_cases h0 : t < k
   ·
    rw [(RowV.cells h1 (by omega)).2 t h0]
    simp [dig, List.getElem?_append, show t < zs.length by omega]
   ·
    have := (RowV.cells h3 (by omega)).2 (t - k) (by omega)
    rw [show o + k + (t - k) = o + t by omega] at this
    rw [this]
    simp [dig, List.getElem?_append, show ¬ t < zs.length by omega, e1]
 ·
  exact Or.inl (by omega)
theorem apart_of {b o m g off n : Nat} (h : b = g → o + m ≤ off ∨ off + n ≤ o) : Apart (some ⟨b, o, none⟩) m g off n := fun b' o' e t ht k hk e' => by
 cases e; have := h e'; omega
theorem addInto_reg (g off n cap b o m cb : Nat) (x y : Int) (w : World) (hr : Room w g off n) (hx : RowV w (some ⟨g, off, none⟩) n cap x) (hcap : cap ≤ 4611686018427387904) (hy : RowV w (some ⟨b, o, none⟩) m cb y) (hm : m ≤ n) (hap : b = g → o + m ≤ off ∨ off + n ≤ o) :
  Calls Tryz.prog 133 #[.slice (some ⟨g, off, none⟩) n cap, .slice (some ⟨b, o, none⟩) m cb] w fun e w' => ∃ c x', e = .returned (.int .u64 c) ∧ 0 ≤ c ∧ c ≤ 1 ∧ Chg (Fr g off n) w w' ∧ RowV w' (some ⟨g, off, none⟩) n cap x' ∧ x' + c * 18446744073709551616 ^ n = x + y := by
 obtain ⟨L, hb, hW, hl, hv⟩ := hr.open_ hx
 obtain ⟨ys, hy1, hy2, hy3⟩ := hy
 obtain ⟨zs, hz1, _⟩ := hx
 refine (addInto_any g off n cap (some ⟨b, o, none⟩) m cb L ys w hb hW hl hz1.hcap hcap hy1 hy2 hm (apart_of hap)).mono ?_
 rintro e w' ⟨c, L', he, hb', hl', hW', hout, hc0, hc1, hV, ht⟩
 refine ⟨c, _, he, hc0, hc1, Chg.ofTouch ht hb hb' hl' hW' hout, RowV.ofBlk hb' hW' (by omega) hz1.hcap, ?_⟩
 rw [hv, hy3] at hV; omega
theorem subInto_reg (g off n cap b o m cb : Nat) (x y : Int) (w : World) (hr : Room w g off n) (hx : RowV w (some ⟨g, off, none⟩) n cap x) (hcap : cap ≤ 4611686018427387904) (hy : RowV w (some ⟨b, o, none⟩) m cb y) (hm : m ≤ n) (hap : b = g → o + m ≤ off ∨ off + n ≤ o) :
  Calls Tryz.prog 134 #[.slice (some ⟨g, off, none⟩) n cap, .slice (some ⟨b, o, none⟩) m cb] w fun e w' => ∃ c x', e = .returned (.int .u64 c) ∧ 0 ≤ c ∧ c ≤ 1 ∧ Chg (Fr g off n) w w' ∧ RowV w' (some ⟨g, off, none⟩) n cap x' ∧ x' - c * 18446744073709551616 ^ n = x - y := by
 obtain ⟨L, hb, hW, hl, hv⟩ := hr.open_ hx
 obtain ⟨ys, hy1, hy2, hy3⟩ := hy
 obtain ⟨zs, hz1, _⟩ := hx
 refine (subInto_any g off n cap (some ⟨b, o, none⟩) m cb L ys w hb hW hl hz1.hcap hcap hy1 hy2 hm (apart_of hap)).mono ?_
 rintro e w' ⟨c, L', he, hb', hl', hW', hout, hc0, hc1, hV, ht⟩
 refine ⟨c, _, he, hc0, hc1, Chg.ofTouch ht hb hb' hl' hW' hout, RowV.ofBlk hb' hW' (by omega) hz1.hcap, ?_⟩
 rw [hv, hy3] at hV; omega
theorem timesPlain_reg (g off lz cap b o n cb b' o' m cb' : Nat) (x y : Int) (w : World) (hlz : lz = n + m) (hr : Room w g off lz) (hlc : lz ≤ cap) (hcap : cap ≤ 4611686018427387904) (hx : RowV w (some ⟨b, o, none⟩) n cb x) (hy : RowV w (some ⟨b', o', none⟩) m cb' y) (hn : 0 < n)
  (hap : b = g → o + n ≤ off ∨ off + lz ≤ o) (hap' : b' = g → o' + m ≤ off ∨ off + lz ≤ o') :
  Calls Tryz.prog 119 #[.slice (some ⟨g, off, none⟩) lz cap, .slice (some ⟨b, o, none⟩) n cb, .slice (some ⟨b', o', none⟩) m cb'] w fun e w' => e = .returned (.tuple #[]) ∧ Chg (Fr g off lz) w w' ∧ RowV w' (some ⟨g, off, none⟩) lz cap (x * y) := by
 subst hlz
 obtain ⟨L, hb, hW, hl⟩ := hr
 obtain ⟨xs, hx1, hx2, hx3⟩ := hx
 obtain ⟨ys, hy1, hy2, hy3⟩ := hy
 refine (timesPlain_any g off cap (some ⟨b, o, none⟩) n cb (some ⟨b', o', none⟩) m cb' L xs ys w hb hW hl hlc hcap hx1 hx2 hy1 hy2 hn (apart_of hap) (apart_of hap')).mono ?_
 rintro e w' ⟨L', he, hb', hl', hW', hout, hV, ht⟩
 refine ⟨he, Chg.ofTouch ht hb hb' hl' hW' hout, ?_⟩
 have := RowV.ofBlk (n := n + m) (off := off) hb' hW' (by omega) hlc
 rw [hV, hx3, hy3] at this
 exact this
theorem wpList_copy_reg {P : Program} {w : World} {ops : Array Oper} {rest : List Oper} {o : Oper} {a : Act} {Q : Exit → Act → World → Prop} (hgd : o.guard = none) (d s : Operand) (dT sT : TypeId)
  (ho : o.op = .call { callee := .builtin .copy, args := #[d, s], argTypes := #[dT, sT] }) (elem : TypeId) (hu : P.underlying dT = some (.slice elem)) (hsz : (P.info? elem).map (·.size) = some 1)
  (g off n cap b o' cb : Nat) (v : Int) (hd : a.eval d = .slice (some ⟨g, off, none⟩) n cap) (hs : a.eval s = .slice (some ⟨b, o', none⟩) n cb) (hn : 0 < n) (hr : Room w g off n) (hc : n ≤ cap) (hv : RowV w (some ⟨b, o', none⟩) n cb v)
  (h : ∀ w', Hid (Chg (Fr g off n) w w' ∧ RowV w' (some ⟨g, off, none⟩) n cap v) → wpList P ops Q rest (a.put o.dst (goInt n)) w') : wpList P ops Q (o :: rest) a w := by
 obtain ⟨L, hb, hW, hl⟩ := hr
 obtain ⟨zs, h1, h2, rfl⟩ := hv
 have e1 := h1.hlen
 obtain ⟨ad, e, hsrc⟩ := h1.src hn
 cases e
 refine wpList_copy_own hgd d s dT sT ho elem hu hsz g off n cap ⟨b, o', none⟩ n cb hd hs (L.map (Value.int .u64)).toArray 60 hb (zs.map (Value.int .u64)) (by simp [← e1]) hsrc (by simp [← e1]; omega) (ints_oneCell _ _) ?_
 rw [List.length_map, ← e1]
 refine h _ ?_
 have hB : Blk (w.setRow g ((L.map (Value.int .u64)).toArray.toList.take off ++ (zs.map (Value.int .u64) ++ (L.map (Value.int .u64)).toArray.toList.drop (off + n))).toArray) g .u64 60 (splice L off zs) := by
  unfold Blk
  rw [setRow_heap w g _ _ _ _ hb]
  congr 2
  simp [splice, List.map_append, List.map_take, List.map_drop, e1]
 have hd' := fun j => dig_splice (L := L) (cs := zs) (off := off) (by omega) j
 have hsl : (splice L off zs).length = L.length := length_splice _ _ _ (by omega)
 have hC : Chg (Fr g off n) w _ := Chg.ofTouch (touch_setRow _) hb hB hsl (wd_splice hW h2) (fun j hj => by
  rw [hd']
  rcases hj with hj | hj
  ·
   rw [if_pos hj]
  ·
   rw [if_neg (by omega), if_neg (by omega)])
 have hR := RowV.ofBlk (n := n) (off := off) (cap := cap) hB (wd_splice hW h2) (by omega) hc
 have hVv : V 18446744073709551616 (splice L off zs) off n = val 18446744073709551616 zs := by
  rw [← V_all _ e1]
  exact V_congr fun j hj => by rw [hd', if_neg (by omega), if_pos (by omega), Nat.zero_add]; congr 1; omega
 rw [hVv] at hR
 exact ⟨hC, hR⟩
structure NegSt (q : Int) (L : List Int) (off k : Nat) (c : Int) (Lk : List Int) : Prop where
 len : Lk.length = L.length
 out : ∀ j, j < off ∨ off + k ≤ j → dig Lk j = dig L j
 wd : Wd q Lk
 c0 : 0 ≤ c
 c1 : c ≤ 1
 eq : V q Lk off k + c * q ^ k = q ^ k - V q L off k
theorem NegSt.start {q : Int} {L : List Int} (off : Nat) (h : Wd q L) : NegSt q L off 0 1 L :=
 ⟨rfl, fun _ _ => rfl, h, by decide, by decide, by simp [V_zero]⟩
theorem NegSt.step {q : Int} {L : List Int} {off k : Nat} {c : Int} {Lk : List Int} (h : NegSt q L off k c Lk) (hk : off + k < L.length) {d c' : Int} (hd : 0 ≤ d ∧ d < q) (hc : 0 ≤ c' ∧ c' ≤ 1)
  (he : d + c' * q = q - 1 - dig L (off + k) + c) : NegSt q L off (k + 1) c' (Lk.set (off + k) d) := by
 have hl : off + k < Lk.length := by rw [h.len]; exact hk
 refine ⟨by simp [h.len], fun j hj => ?_, h.wd.set _ hd, hc.1, hc.2, ?_⟩
 ·
  rw [dig_set _ hl, if_neg (by omega)]; exact h.out j (by omega)
 ·
  have e1 : V q (Lk.set (off + k) d) off k = V q Lk off k := V_congr fun j hj => by rw [dig_set _ hl, if_neg (by omega)]
  rw [V_succ, V_succ, e1, dig_set _ hl, if_pos rfl, Int.pow_succ]
  have h1 := h.eq
  have e2 : q ^ k * (d + c' * q) = q ^ k * (q - 1 - dig L (off + k) + c) := by rw [he]
  grind
theorem not64 (z : Int) (h0 : 0 ≤ z) (h1 : z < 18446744073709551616) : bits .xor .u64 IntKind.u64.max z = 18446744073709551615 - z := by
 obtain ⟨Z, rfl⟩ := Int.eq_ofNat_of_zero_le h0
 have hx : (2 ^ 64 - 1) ^^^ Z = 2 ^ 64 - (Z + 1) := by
  apply Nat.eq_of_testBit_eq
  intro i
  rw [Nat.testBit_xor, Nat.testBit_two_pow_sub_one, Nat.testBit_two_pow_sub_succ (by omega)]
  by_cases hi : i < 64
  ·
   simp [hi]
  ·
   have : Z.testBit i = false := Nat.testBit_lt_two_pow (Nat.lt_of_lt_of_le (show Z < 2 ^ 64 by omega) (Nat.pow_le_pow_right (by decide) (by omega)))
   simp [hi, this]
 have h := u64_xor_nat 18446744073709551615 Z (by decide) (by omega)
 have e : IntKind.u64.max = ((18446744073709551615 : Nat) : Int) := rfl
 rw [e, h]
 have hx' : (18446744073709551615 : Nat) ^^^ Z = 18446744073709551616 - (Z + 1) := hx
 rw [hx']; omega
def Dist (w w' : World) (e : Ending) (g off n cap : Nat) (x y : Int) : Prop :=
 ∃ neg d, e = .returned (.bool neg) ∧ Chg (Fr g off n) w w' ∧ RowV w' (some ⟨g, off, none⟩) n cap d ∧ d = (if neg then y - x else x - y)
theorem distance_reg (g off n cap b o cb b' o' m cb' : Nat) (x y : Int) (w : World) (hr : Room w g off n) (hlc : n ≤ cap) (hcap : cap ≤ 4611686018427387904) (hx : RowV w (some ⟨b, o, none⟩) n cb x) (hy : RowV w (some ⟨b', o', none⟩) m cb' y) (hn : 0 < n) (hm : m ≤ n)
  (hap' : b' = g → o' + m ≤ off ∨ off + n ≤ o') :
  Calls Tryz.prog 138 #[.slice (some ⟨g, off, none⟩) n cap, .slice (some ⟨b, o, none⟩) n cb, .slice (some ⟨b', o', none⟩) m cb'] w fun e w' => Dist w w' e g off n cap x y := by
 have HX : Hid (Room w g off n ∧ RowV w (some ⟨b, o, none⟩) n cb x ∧ RowV w (some ⟨b', o', none⟩) m cb' y) := ⟨hr, hx, hy⟩
 have HAp : Hid (b' = g → o' + m ≤ off ∨ off + n ≤ o') := hap'
 clear hr hx hy hap'
 go_enter Tryz.func138, Tryz.ntmps138
 go_wp2_with (first
  | (refine wpList_copy_reg rfl (.tmp 10) (.tmp 11) 25 25 rfl 60 Tryz.underlying25 size64 g off n cap b o cb x rfl rfl hn HX.out.1 hlc HX.out.2.1 ?_; intro w1 HC1)
  | (go_at_call 134; refine (subInto_reg g off n cap b' o' m cb' x y w1 (HX.out.1.later HC1.out.1) HC1.out.2 hcap (HX.out.2.2.later HC1.out.1 (fun t ht hF => (by have h1 := HAp.out hF.1; have h2 := hF.2; omega))) hm HAp.out).mono ?_; rintro e w2 ⟨c, x', rfl, hc0, hc1, hC2, hx2, he2⟩; have HS : Hid (Chg (Fr g off n) w w2 ∧ Room w2 g off n ∧ RowV w2 (some ⟨g, off, none⟩) n cap x' ∧ x' - c * 18446744073709551616 ^ n = x - y) := ⟨HC1.out.1.trans hC2, (HX.out.1.later HC1.out.1).later hC2, hx2, he2⟩; clear hC2 hx2 he2))
 ·
  rename_i hcz
  have hc : c = 0 := by simpa using hcz
  subst hc
  go_ret
  exact ⟨false, x', rfl, HS.out.1, HS.out.2.2.1, by have := HS.out.2.2.2; simp at this ⊢; omega⟩
 ·
  have h2 : (c == 0) = false := by assumption
  have h3 : c ≠ 0 := by simpa using h2
  have HC : Hid (c = 1) := by show _ = _; omega
  clear h2 h3 hc0 hc1
  simp only [show (c == 0) = false by assumption]
  obtain ⟨L, hbL, hWL, hlL, hvL⟩ := HS.out.2.1.open_ HS.out.2.2.1
  have HL : Hid (Blk w2 g .u64 60 L ∧ Wd 18446744073709551616 L ∧ off + n ≤ L.length ∧ V 18446744073709551616 L off n = x') := ⟨hbL, hWL, hlL, hvL⟩
  clear hbL hWL hlL hvL
  go_loopw [7, 19] (fun c i wr => ∃ (k : Nat) (cv : Int) (Lk : List Int), k ≤ n ∧ i = .int .i64 k ∧ c = .int .u64 cv ∧ NegSt 18446744073709551616 L off k cv Lk ∧ Blk wr g .u64 60 Lk ∧ Touch g w2 wr) (fun _ i _ => n - (intOf i).toNat)
  case atStart => exact ⟨0, 1, L, Nat.zero_le _, rfl, rfl, NegSt.start off HL.out.2.1, HL.out.1, Touch.refl _ _⟩
  case round =>
   obtain ⟨k, cv, Lk, hk, rfl, rfl, hst, hbl, hto⟩ := hrel
   have HS2 : Hid (NegSt 18446744073709551616 L off k cv Lk ∧ Blk wr g .u64 60 Lk ∧ Touch g w2 wr) := ⟨hst, hbl, hto⟩
   by_cases hlt : k < n
   ·
    have hcz := hbl.cell (j := off + k) (by have := hst.len; have := HL.out.2.2.1; omega)
    have hfz := hbl.frozen (off + k)
    have hgs : g < wr.heap.size := hbl.lt
    have bz := hst.wd.dig (by decide) (off + k)
    obtain ⟨z, hz⟩ : ∃ z, dig Lk (off + k) = z := ⟨_, rfl⟩
    rw [hz] at hcz bz
    obtain ⟨d, c', hrun, hd, hcc, he⟩ := add64_ex (18446744073709551615 - z) 0 cv (by omega) (by decide) hst.c0 hst.c1
    have HD : Hid ((0 ≤ d ∧ d < 18446744073709551616) ∧ (0 ≤ c' ∧ c' ≤ 1) ∧ d + 1 * (c' * 18446744073709551616) = 18446744073709551615 - z + 1 * (0 + cv) ∧ dig Lk (off + k) = z) := ⟨hd, hcc, he, hz⟩
    obtain ⟨bz1, bz2⟩ := bz
    clear hd hcc he hst hbl hto hz
    have hnot := not64 z bz1 bz2
    go_wp2_with (simp only [hrun])
    go_roundw
    case rel => exact ⟨k + 1, c', Lk.set (off + k) d, by omega, by go_num, rfl, HS2.out.1.step (by have := HL.out.2.2.1; omega) HD.out.1 HD.out.2.1 (by have h1 := HD.out.2.2.1; have h2 := HD.out.2.2.2; rw [HS2.out.1.out (off + k) (by omega)] at h2; omega), HS2.out.2.1.set _ _, HS2.out.2.2.set _ _⟩
    case measure => simp [intOf]; omega
   ·
    obtain rfl : k = n := by omega
    clear hst hbl hto
    go_wp2
    go_ret
    have h1 := HS2.out.1.eq
    rw [HL.out.2.2.2] at h1
    have h2 := HS.out.2.2.2
    rw [HC.out] at h2
    have hR := RowV.ofBlk (n := k) (off := off) (cap := cap) HS2.out.2.1 HS2.out.1.wd (by rw [HS2.out.1.len]; exact HL.out.2.2.1) hlc
    have h3 := HX.out.2.1.nonneg
    have h4 := HX.out.2.2.lt
    have h5 := pow_mono' (q := 18446744073709551616) (by decide) hm
    have h6 := hR.nonneg
    have h7 := HS2.out.1.c0
    have h8 := HS2.out.1.c1
    obtain ⟨P, hP⟩ : ∃ P : Int, (18446744073709551616 : Int) ^ k = P := ⟨_, rfl⟩
    rw [hP] at h1 h2 h5
    have hcv : cv = 0 := by
     rcases (show cv = 0 ∨ cv = 1 by omega) with h | h
     ·
      exact h
     ·
      subst h; omega
    subst hcv
    refine ⟨true, _, rfl, HS.out.1.trans (Chg.ofTouch HS2.out.2.2 HL.out.1 HS2.out.2.1 HS2.out.1.len HS2.out.1.wd HS2.out.1.out), hR, ?_⟩
    simp only [if_true]
    omega
def hroomsIn : Nat → Nat → Nat
 | 0, _ => 0
 | k + 1, n => if n < 40 then 0 else 4 * ((n + 1) / 2) + hroomsIn k ((n + 1) / 2)
def hrooms (n : Nat) : Nat := hroomsIn n n
theorem hroomsIn_eq (k : Nat) : ∀ (m n : Nat), n ≤ k → n ≤ m → hroomsIn k n = hroomsIn m n := by
 induction k with
 | zero =>
  intro m n h1 h2
  obtain rfl : n = 0 := by omega
  cases m with
  | zero => rfl
  | succ m => rfl
 | succ k ih =>
  intro m n h1 h2
  cases m with
  | zero =>
   obtain rfl : n = 0 := by omega
   rfl
  | succ m =>
   show (if n < 40 then 0 else 4 * ((n + 1) / 2) + hroomsIn k ((n + 1) / 2)) = (if n < 40 then 0 else 4 * ((n + 1) / 2) + hroomsIn m ((n + 1) / 2))
   by_cases h : n < 40
   ·
    rw [if_pos h, if_pos h]
   ·
    rw [if_neg h, if_neg h, ih m ((n + 1) / 2) (by omega) (by omega)]
theorem hrooms_small {n : Nat} (h : n < 40) : hrooms n = 0 := by
 cases n with
 | zero => rfl
 | succ n => exact if_pos h
theorem hrooms_great {n : Nat} (h : ¬ n < 40) : hrooms n = 4 * ((n + 1) / 2) + hrooms ((n + 1) / 2) := by
 cases n with
 | zero => exact absurd (by decide) h
 | succ n =>
  show (if n + 1 < 40 then 0 else 4 * ((n + 1 + 1) / 2) + hroomsIn n ((n + 1 + 1) / 2)) = _
  rw [if_neg h, hroomsIn_eq n ((n + 1 + 1) / 2) ((n + 1 + 1) / 2) (by omega) (Nat.le_refl _)]
  rfl
theorem hrooms_le (n : Nat) : hrooms n ≤ 5 * n := by
 induction n using Nat.strongRecOn with
 | ind n ih =>
  by_cases h : n < 40
  ·
   rw [hrooms_small h]; omega
  ·
   rw [hrooms_great h]
   have := ih ((n + 1) / 2) (by omega)
   omega
theorem hrooms_mono {n m : Nat} (h : m ≤ n) : hrooms m ≤ hrooms n := by
 induction n using Nat.strongRecOn generalizing m with
 | ind n ih =>
  by_cases h1 : m < 40
  ·
   rw [hrooms_small h1]; omega
  ·
   rw [hrooms_great h1, hrooms_great (n := n) (by omega)]
   have := @ih ((n + 1) / 2) (by omega) ((m + 1) / 2) (by omega)
   omega
theorem halvesRoom_any (n : Nat) (w : World) (hn : n ≤ 4294967296) :
  Calls Tryz.prog 121 #[.int .i64 (n : Int)] w fun e w' => e = .returned (.int .i64 (hrooms n : Int)) ∧ w' = w := by
 go_enter Tryz.func121, Tryz.ntmps121
 go_wp2
 go_loopw [0, 3] (fun i r wr => ∃ k s : Nat, k ≤ n ∧ i = .int .i64 k ∧ r = .int .i64 s ∧ Hid (s + hrooms k = hrooms n) ∧ wr = w) (fun i _ _ => (intOf i).toNat)
 case atStart => exact ⟨n, 0, Nat.le_refl _, rfl, rfl, by show _ = _; omega, rfl⟩
 case round =>
  obtain ⟨k, s, hk, rfl, rfl, HR, rfl⟩ := hrel
  have hle := hrooms_le n
  by_cases hlt : k < 40
  ·
   have HE : Hid (s = hrooms n) := by (have := HR.out; rw [hrooms_small hlt] at this; show _ = _; omega)
   have hlt' : (k : Int) < 40 := by omega
   go_wp2
   go_ret
   exact ⟨by rw [HE.out]; rfl, rfl⟩
  ·
   have hge : (40 : Int) ≤ k := by omega
   obtain ⟨h, hh⟩ : ∃ h, (k + 1) / 2 = h := ⟨_, rfl⟩
   have HE : Hid (s + (4 * h + hrooms h) = hrooms n) := by (have := HR.out; rw [hrooms_great hlt, hh] at this; exact this)
   have hsn : s ≤ hrooms n := by (have := HE.out; omega)
   have h4 : s + 4 * h ≤ hrooms n := by (have := HE.out; omega)
   have htd : ((k : Int) + 1).tdiv 2 = (h : Int) := by rw [Int.tdiv_eq_ediv_of_nonneg (by omega)]; omega
   have hhk : h < k := by omega
   clear hh HR
   go_wp2
   go_roundw
   case rel => exact ⟨h, s + 4 * h, by omega, rfl, by go_num, by (have := HE.out; show _ = _; omega), by trivial⟩
   case measure => simp [intOf]; omega
theorem add_part {P R Z Zl Zh Zh' m c T : Int} (hZ : Z = Zl + P * Zh) (he : Zh' + c * R = Zh + m) (hc0 : 0 ≤ c) (hc1 : c ≤ 1) (hT : Z + P * m ≤ T) (hlt : T < P * R) (hl : 0 ≤ Zl) (hh : 0 ≤ Zh') (hP : 0 < P) : Zl + P * Zh' = Z + P * m := by
 have e : P * (Zh' + c * R) = P * (Zh + m) := by rw [he]
 have h1 := Int.mul_nonneg (Int.le_of_lt hP) hh
 rcases (show c = 0 ∨ c = 1 by omega) with rfl | rfl
 ·
  rw [Int.mul_add, Int.mul_add] at e
  simp at e
  omega
 ·
  rw [Int.mul_add, Int.mul_add, Int.one_mul] at e
  omega
theorem kara_mid {x0 x1 y0 y1 dx dy : Int} {nx ny : Bool} (hx : dx = if nx then x1 - x0 else x0 - x1) (hy : dy = if ny then y1 - y0 else y0 - y1) : x0 * y1 + x1 * y0 = x0 * y0 + x1 * y1 - (if nx = ny then dx * dy else -(dx * dy)) := by
 subst hx hy
 cases nx <;> cases ny <;> simp <;> grind
theorem kara_all {Q x y x0 x1 y0 y1 : Int} (hx : x = x0 + Q * x1) (hy : y = y0 + Q * y1) : x * y = x0 * y0 + Q * Q * (x1 * y1) + Q * (x0 * y1 + x1 * y0) := by
 subst hx hy; grind
def F2 (gz oz lz gr orr R : Nat) : Nat → Nat → Prop := fun b j => (b = gz ∧ oz ≤ j ∧ j < oz + lz) ∨ (b = gr ∧ orr ≤ j ∧ j < orr + R)
def Ap (b o m g off n : Nat) : Prop := b = g → o + m ≤ off ∨ off + n ≤ o
def HalvesOk (n : Nat) : Prop := ∀ (gz oz lz cz bx ox nx cx b2 oy ny cy gr orr R cr : Nat) (ro : Option Addr) (x y : Int) (w : World),
 Hid (lz = n + n ∧ nx = n ∧ ny = n ∧ (R = 0 ∨ ro = some ⟨gr, orr, none⟩)) → lz ≤ cz → cz ≤ 4611686018427387904 → hrooms n ≤ R → R ≤ cr → cr ≤ 4611686018427387904 → 
 Hid (Room w gz oz lz ∧ Room w gr orr R ∧ RowV w (some ⟨bx, ox, none⟩) nx cx x ∧ RowV w (some ⟨b2, oy, none⟩) ny cy y) →
 Hid (Ap gz oz lz gr orr R ∧ Ap bx ox nx gz oz lz ∧ Ap bx ox nx gr orr R ∧ Ap b2 oy ny gz oz lz ∧ Ap b2 oy ny gr orr R) →
 Calls Tryz.prog 120 #[.slice (some ⟨gz, oz, none⟩) lz cz, .slice (some ⟨bx, ox, none⟩) nx cx, .slice (some ⟨b2, oy, none⟩) ny cy, .slice ro R cr] w fun e w' => e = .returned (.tuple #[]) ∧ Chg (F2 gz oz lz gr orr R) w w' ∧ RowV w' (some ⟨gz, oz, none⟩) lz cz (x * y)
theorem RowV.cap {w : World} {ao : Option Addr} {len cap : Nat} {v : Int} (h : RowV w ao len cap v) : len ≤ cap := by
 obtain ⟨zs, h1, _⟩ := h; exact h1.hcap
theorem halves_small (n : Nat) (hn : 0 < n) (h40 : n < 40) : HalvesOk n := by
 intro gz oz lz cz bx ox nx cx b2 oy ny cy gr orr R cr ro x y w HL hlc hcz hR hRc hcr HM HA
 obtain ⟨hlz, rfl, rfl, hro⟩ := HL.out
 have HZ : Hid (lz = ny + ny) := hlz
 have h40' : (ny : Int) < 40 := by omega
 clear HL hlz hro
 go_enter Tryz.func120, Tryz.ntmps120
 go_wp2_with (go_at_call 119; refine (timesPlain_reg gz oz lz cz bx ox ny cx b2 oy ny cy x y _ HZ.out HM.out.1 hlc hcz HM.out.2.2.1 HM.out.2.2.2 hn HA.out.2.1 HA.out.2.2.2.1).mono ?_; rintro e w1 ⟨rfl, hC, hV⟩; have HC : Hid (Chg (Fr gz oz lz) w w1 ∧ RowV w1 (some ⟨gz, oz, none⟩) lz cz (x * y)) := ⟨hC, hV⟩; clear hC hV)
 (try simp only [Exit.inBlock, Exit.then]); refine bodyPost_ret (results_none rfl _ _ _) rfl ?_
 exact ⟨rfl, HC.out.1.mono fun b j h => Or.inl h, HC.out.2⟩
theorem halves_rows {n h lz cz gz oz bx ox cx b2 oy cy gr orr R : Nat} {x y : Int} {w : World} (hh : h ≤ n) (hlc : lz ≤ cz)
  (HM : Hid (Room w gz oz lz ∧ Room w gr orr R ∧ RowV w (some ⟨bx, ox, none⟩) n cx x ∧ RowV w (some ⟨b2, oy, none⟩) n cy y)) (HA : Hid (Ap gz oz lz gr orr R ∧ Ap bx ox n gz oz lz ∧ Ap bx ox n gr orr R ∧ Ap b2 oy n gz oz lz ∧ Ap b2 oy n gr orr R)) :
  ∃ x0 x1 y0 y1, (x = x0 + 18446744073709551616 ^ h * x1 ∧ y = y0 + 18446744073709551616 ^ h * y1) ∧ ∀ w', Chg (F2 gz oz lz gr orr R) w w' → Room w' gz oz lz ∧ Room w' gr orr R ∧ RowV w' (some ⟨bx, ox, none⟩) h cx x0 ∧ RowV w' (some ⟨bx, ox + h, none⟩) (n - h) (cx - h) x1 ∧ RowV w' (some ⟨b2, oy, none⟩) h cy y0 ∧ RowV w' (some ⟨b2, oy + h, none⟩) (n - h) (cy - h) y1 := by
 obtain ⟨x0, x1, hx0, hx1, hx⟩ := HM.out.2.2.1.split hh
 obtain ⟨y0, y1, hy0, hy1, hy⟩ := HM.out.2.2.2.split hh
 obtain ⟨a1, a2, a3, a4, a5⟩ := HA.out
 refine ⟨x0, x1, y0, y1, ⟨hx, hy⟩, fun w' hC => ⟨HM.out.1.later hC, HM.out.2.1.later hC, hx0.later hC ?_, hx1.later hC ?_, hy0.later hC ?_, hy1.later hC ?_⟩⟩ <;>
  (intro t ht hF; unfold Ap at a2 a3 a4 a5; rcases hF with ⟨e1, e2, e3⟩ | ⟨e1, e2, e3⟩)
 ·
  have := a2 e1; omega
 ·
  have := a3 e1; omega
 ·
  have := a2 e1; omega
 ·
  have := a3 e1; omega
 ·
  have := a4 e1; omega
 ·
  have := a5 e1; omega
 ·
  have := a4 e1; omega
 ·
  have := a5 e1; omega
theorem chg_fr {g off n : Nat} {F : Nat → Nat → Prop} {a b c : World} (h : Chg F a b) (k : Chg (Fr g off n) b c) (hF : ∀ j, off ≤ j → j < off + n → F g j) : Chg F a c := h.trans (k.mono fun x j hj => by obtain ⟨e, h1, h2⟩ := hj; subst e; exact hF j h1 h2)
theorem chg_f2 {gz oz lz gr orr R : Nat} {F : Nat → Nat → Prop} {a b c : World} (h : Chg F a b) (k : Chg (F2 gz oz lz gr orr R) b c) (hF : ∀ j, oz ≤ j → j < oz + lz → F gz j) (hF2 : ∀ j, orr ≤ j → j < orr + R → F gr j) : Chg F a c := h.trans (k.mono fun x j hj => by
 rcases hj with ⟨e, h1, h2⟩ | ⟨e, h1, h2⟩
 ·
  subst e; exact hF j h1 h2
 ·
  subst e; exact hF2 j h1 h2)
theorem Chg.pre {F : Nat → Nat → Prop} {a b : World} (h : Chg F a.drew b) : Chg F a b := ⟨h.os, h.tape, h.output, h.size, h.other, h.cell, h.blk⟩
theorem RowV.drew {w : World} {ao : Option Addr} {len cap : Nat} {v : Int} (h : RowV w ao len cap v) : RowV w.drew ao len cap v := by
 obtain ⟨zs, h1, h2⟩ := h; exact ⟨zs, ⟨h1.hlen, h1.hcap, h1.hnil, h1.hat⟩, h2⟩
theorem RowV.recut {w : World} {g o a l c c' b : Nat} {v0 v1 : Int} (h0 : RowV w (some ⟨g, o, none⟩) a c v0) (h1 : RowV w (some ⟨g, o + a, none⟩) (l - a) c' v1) (ha : a ≤ l) (hl : l ≤ c) (hb : b ≤ l) :
  ∃ u0 u1, RowV w (some ⟨g, o, none⟩) b c u0 ∧ RowV w (some ⟨g, o + b, none⟩) (l - b) (c - b) u1 ∧ v0 + 18446744073709551616 ^ a * v1 = u0 + 18446744073709551616 ^ b * u1 := by
 have := h0.join h1 (c := c) (by omega)
 rw [show a + (l - a) = l by omega] at this
 exact this.split hb
theorem top_sub {c1 c2 m1 m2 Q M z i : Int} (h1 : m1 + c1 * Q = z) (h2 : m2 - c2 * Q = m1 - i) (hM : M = z - i) (h0 : 0 ≤ M) (hm : 0 ≤ m2) (hq : m2 < Q) (hc1 : 0 ≤ c1) (hc1' : c1 ≤ 1) (hc2 : 0 ≤ c2) (hc2' : c2 ≤ 1) : 0 ≤ c1 - c2 ∧ m2 + (c1 - c2) * Q = M := by
 have a1 : c1 = 0 ∨ c1 = 1 := by omega
 have a2 : c2 = 0 ∨ c2 = 1 := by omega
 rcases a1 with rfl | rfl <;> rcases a2 with rfl | rfl <;> simp at h1 h2 ⊢ <;> omega
theorem top_add {c1 c2 m1 m2 Q M z i : Int} (h1 : m1 + c1 * Q = z) (h2 : m2 + c2 * Q = m1 + i) (hM : M = z + i) : m2 + (c1 + c2) * Q = M := by
 rw [Int.add_mul]; omega
theorem pow_two_h (h : Nat) : (18446744073709551616 : Int) ^ (2 * h) = 18446744073709551616 ^ h * 18446744073709551616 ^ h := by rw [Nat.two_mul, Int.pow_add]
theorem pow_three_h (h : Nat) : (18446744073709551616 : Int) ^ (3 * h) = 18446744073709551616 ^ h * (18446744073709551616 ^ h * 18446744073709551616 ^ h) := by rw [show 3 * h = h + (h + h) by omega, Int.pow_add, Int.pow_add]
theorem pow_parts2 {a l : Nat} (h : a ≤ l) : (18446744073709551616 : Int) ^ l = 18446744073709551616 ^ a * 18446744073709551616 ^ (l - a) := by rw [← Int.pow_add]; congr 1; omega
theorem prod_lt {x y : Int} {n l : Nat} (hx0 : 0 ≤ x) (hx : x < 18446744073709551616 ^ n) (hy0 : 0 ≤ y) (hy : y < 18446744073709551616 ^ n) (hl : l = n + n) : x * y < 18446744073709551616 ^ l := by
 rw [hl, Int.pow_add]
 have hp := pow_pos' (q := 18446744073709551616) (by decide) n
 have h1 : x * y ≤ x * 18446744073709551616 ^ n := Int.mul_le_mul_of_nonneg_left (Int.le_of_lt hy) hx0
 have h2 : x * 18446744073709551616 ^ n < 18446744073709551616 ^ n * 18446744073709551616 ^ n := Int.mul_lt_mul_of_pos_right hx hp
 omega
theorem step15 {x y x0 x1 y0 y1 Zl Zh Zh' m t c : Int} {h l : Nat} (hx : x = x0 + 18446744073709551616 ^ h * x1) (hy : y = y0 + 18446744073709551616 ^ h * y1) (hl : h ≤ l) (hlt : x * y < 18446744073709551616 ^ l)
  (hZ : x0 * y0 + 18446744073709551616 ^ (2 * h) * (x1 * y1) = Zl + 18446744073709551616 ^ h * Zh) (hm : m + t * 18446744073709551616 ^ (2 * h) = x0 * y1 + x1 * y0) (ht : 0 ≤ t) (he : Zh' + c * 18446744073709551616 ^ (l - h) = Zh + m) (hc0 : 0 ≤ c) (hc1 : c ≤ 1) (h0 : 0 ≤ Zl) (h1 : 0 ≤ Zh') :
  Zl + 18446744073709551616 ^ h * Zh' = x * y - 18446744073709551616 ^ (3 * h) * t := by
 have hk := kara_all hx hy
 have hp := pow_pos' (q := 18446744073709551616) (by decide) h
 rw [pow_two_h] at hZ hm
 rw [pow_parts2 hl] at hlt
 rw [pow_three_h]
 obtain ⟨Q, hQ⟩ : ∃ Q : Int, (18446744073709551616 : Int) ^ h = Q := ⟨_, rfl⟩
 rw [hQ] at hk hp hZ hm hlt ⊢
 have e1 : x * y = (Zl + Q * Zh) + Q * m + Q * (Q * Q) * t := by rw [hk, ← hm, ← hZ]; grind
 have h2 : 0 ≤ Q * (Q * Q) * t := Int.mul_nonneg (Int.mul_nonneg (by omega) (Int.mul_nonneg (by omega) (by omega))) ht
 have := add_part (P := Q) (R := 18446744073709551616 ^ (l - h)) (Z := Zl + Q * Zh) (T := x * y) rfl he hc0 hc1 (by omega) hlt h0 h1 hp
 omega
theorem step16 {T Zl Zh Zh' U t c : Int} {a l : Nat} (hl : a ≤ l) (hlt : T < 18446744073709551616 ^ l) (hU : U = T - 18446744073709551616 ^ a * t) (hZ : U = Zl + 18446744073709551616 ^ a * Zh) (he : Zh' + c * 18446744073709551616 ^ (l - a) = Zh + t) (hc0 : 0 ≤ c) (hc1 : c ≤ 1) (h0 : 0 ≤ Zl) (h1 : 0 ≤ Zh') :
  Zl + 18446744073709551616 ^ a * Zh' = T := by
 rw [pow_parts2 hl] at hlt
 have := add_part (T := T) hZ he hc0 hc1 (by omega) hlt h0 h1 (pow_pos' (q := 18446744073709551616) (by decide) a)
 omega
theorem mid_nonneg {x0 x1 y0 y1 : Int} (h0 : 0 ≤ x0) (h1 : 0 ≤ x1) (h2 : 0 ≤ y0) (h3 : 0 ≤ y1) : 0 ≤ x0 * y1 + x1 * y0 := Int.add_nonneg (Int.mul_nonneg h0 h3) (Int.mul_nonneg h1 h2)
theorem new_word {w : World} {t : Int} (h0 : 0 ≤ t) (h1 : t < 18446744073709551616) : RowV (w.alloc (.cells #[.int .u64 t] 60)) (some ⟨w.heap.size, 0, none⟩) 1 1 t := by
 have hb : Blk (w.alloc (.cells #[.int .u64 t] 60)) w.heap.size .u64 60 [t] := Blk.new w .u64 60 [t]
 have := RowV.ofBlk (off := 0) (n := 1) (cap := 1) hb (Wd.one ⟨h0, h1⟩) (by simp) (Nat.le_refl _)
 rw [V_all _ (by simp)] at this
 simpa [val] using this
theorem not_f2 {gz oz lz gr orr R b j : Nat} (hF : F2 gz oz lz gr orr R b j) (h1 : b = gz → j < oz ∨ oz + lz ≤ j) (h2 : b = gr → j < orr ∨ orr + R ≤ j) : False := by
 rcases hF with ⟨e1, e2, e3⟩ | ⟨e1, e2, e3⟩
 ·
  have := h1 e1; omega
 ·
  have := h2 e1; omega
theorem distance_len (g off l n cap b o cb b' o' m cb' : Nat) (x y : Int) (w : World) (hl : Hid (l = n)) (hr : Room w g off l) (hlc : l ≤ cap) (hcap : cap ≤ 4611686018427387904) (hx : RowV w (some ⟨b, o, none⟩) n cb x) (hy : RowV w (some ⟨b', o', none⟩) m cb' y) (hn : 0 < n) (hm : m ≤ n)
  (hap' : b' = g → o' + m ≤ off ∨ off + l ≤ o') :
  Calls Tryz.prog 138 #[.slice (some ⟨g, off, none⟩) l cap, .slice (some ⟨b, o, none⟩) n cb, .slice (some ⟨b', o', none⟩) m cb'] w fun e w' => Dist w w' e g off l cap x y := by
 obtain rfl : l = n := hl.out
 exact distance_reg g off l cap b o cb b' o' m cb' x y w hr hlc hcap hx hy hn hm hap'
theorem halves_great (n h : Nat) (hh : h = (n + 1) / 2) (h40 : 40 ≤ n) (ih1 : HalvesOk h) (ih2 : HalvesOk (n - h)) : HalvesOk n := by
 intro gz oz lz cz bx ox nx cx b2 oy ny cy gr orr R cr ro x y w HL hlc hcz hR hRc hcr HM HA
 obtain ⟨hlz, rfl, rfl, hro⟩ := HL.out
 have h40' : ¬ (ny : Int) < 40 := by omega
 have hr4 : hrooms ny = 4 * h + hrooms h := by rw [hrooms_great (by omega), ← hh]
 have hr5 := hrooms_mono (n := h) (m := ny - h) (by omega)
 have htd : ((ny : Int) + 1).tdiv 2 = (h : Int) := by rw [Int.tdiv_eq_ediv_of_nonneg (by omega)]; omega
 have hh1 : h + h ≤ ny + 1 := by omega
 have hh2 : ny ≤ h + h := by omega
 have hz1 : lz ≤ ny + ny := by omega
 have hz2 : ny + ny ≤ lz := by omega
 have HIH : Hid (HalvesOk h ∧ HalvesOk (ny - h)) := ⟨ih1, ih2⟩
 have HH : Hid (hrooms ny = 4 * h + hrooms h ∧ hrooms (ny - h) ≤ hrooms h) := ⟨hr4, hr5⟩
 have hR4 : 4 * h ≤ R := by omega
 have hcx : ny ≤ cx := HM.out.2.2.1.cap
 have hcy : ny ≤ cy := HM.out.2.2.2.cap
 have hcx' : cx ≠ h := by omega
 have hcy' : cy ≠ h := by omega
 have hcz' : cz ≠ 2 * h := by omega
 have hcz3 : cz ≠ h := by omega
 have hcz4 : cz ≠ 3 * h := by omega
 have hcr' : cr ≠ h := by omega
 have i1 : (0 : Int) ≤ (h : Int) := by omega
 have i2 : (h : Int) ≤ (cr : Int) := by omega
 have i3 : (h : Int) ≤ (cx : Int) := by omega
 have i4 : (h : Int) ≤ (ny : Int) := by omega
 have i5 : (h : Int) ≤ (cy : Int) := by omega
 have i6 : (h : Int) ≤ ((2 * h : Nat) : Int) := by omega
 have i6' : (h : Int) ≤ 2 * (h : Int) := by omega
 have i7 : (0 : Int) ≤ 2 * (h : Int) := by omega
 have i8 : 2 * (h : Int) ≤ (cz : Int) := by omega
 have i9 : 2 * (h : Int) ≤ (lz : Int) := by omega
 have itn : (2 * (h : Int)).toNat = 2 * h := by omega
 have iw : IntKind.i64.wrap (2 * (h : Int)) = 2 * (h : Int) := by rw [IntKind.wrap_i64]; omega
 rcases hro with hro | hro
 ·
  omega
 subst hro
 obtain ⟨re, hre⟩ : ∃ re : Option Addr, (if cr = 4 * h then some ⟨gr, orr, none⟩ else some ⟨gr, orr + 4 * h, none⟩) = re := ⟨_, rfl⟩
 have HRE : Hid (R - 4 * h = 0 ∨ re = some ⟨gr, orr + 4 * h, none⟩) := by
  show _ ∨ _
  by_cases e : cr = 4 * h
  ·
   left; omega
  ·
   right; rw [← hre, if_neg e]
 obtain ⟨x0, x1, y0, y1, hxy, hXL⟩ := halves_rows (h := h) (by omega) hlc HM HA
 have HXY : Hid (x = x0 + 18446744073709551616 ^ h * x1 ∧ y = y0 + 18446744073709551616 ^ h * y1) := hxy
 have HXL : Hid (∀ w', Chg (F2 gz oz lz gr orr R) w w' → Room w' gz oz lz ∧ Room w' gr orr R ∧ RowV w' (some ⟨bx, ox, none⟩) h cx x0 ∧ RowV w' (some ⟨bx, ox + h, none⟩) (ny - h) (cx - h) x1 ∧ RowV w' (some ⟨b2, oy, none⟩) h cy y0 ∧ RowV w' (some ⟨b2, oy + h, none⟩) (ny - h) (cy - h) y1) := hXL
 have HLT : Hid (x * y < 18446744073709551616 ^ lz) := prod_lt HM.out.2.2.1.nonneg HM.out.2.2.1.lt HM.out.2.2.2.nonneg HM.out.2.2.2.lt hlz
 have HC0 : Hid (∀ k, Chg (F2 gz oz lz gr orr R) w (w.drewN k)) := fun k => (Chg.refl _ _).drewN k
 clear hh ih1 ih2 hr4 hr5 HL hlz hxy hXL
 go_enter Tryz.func120, Tryz.ntmps120
 go_wp2
 go_quiet (fail)
 simp only [hre]
 clear hre
 go_wp2
 go_region_held3 (fun w9 => Hid True) (first | (show True; trivial)) (first | (go_at_call 138; refine (distance_len gr orr h h cr bx ox cx bx (ox + h) (ny - h) (cx - h) x0 x1 _ rfl ((HXL.out _ (HC0.out _)).2.1.part (by omega)) (by omega) hcr (HXL.out _ (HC0.out _)).2.2.1 (HXL.out _ (HC0.out _)).2.2.2.1 (by omega) (by omega) (fun e => (by have := HA.out.2.2.1 e; omega))).mono ?_; rintro e w1 ⟨sx, dx, rfl, hC, hV, hd⟩; have HS1 : Hid (Chg (F2 gz oz lz gr orr R) w w1 ∧ RowV w1 (some ⟨gr, orr, none⟩) h cr dx ∧ dx = if sx then x1 - x0 else x0 - x1) := ⟨chg_fr (HC0.out _) hC (fun j h1 h2 => Or.inr ⟨rfl, by omega, by omega⟩), hV, hd⟩; clear hC hV hd))
 go_wp2
 go_region_held3 (fun w9 => Hid True) (first | (show True; trivial)) (first | (go_at_call 138; refine (distance_len gr (orr + h) (2 * h - h) h (cr - h) b2 oy cy b2 (oy + h) (ny - h) (cy - h) y0 y1 _ (by show _ = _; omega) ((HXL.out _ HS1.out.1.drew).2.1.part (by omega)) (by omega) (by omega) (HXL.out _ HS1.out.1.drew).2.2.2.2.1 (HXL.out _ HS1.out.1.drew).2.2.2.2.2 (by omega) (by omega) (fun e => (by have := HA.out.2.2.2.2 e; omega))).mono ?_; rintro e w2 ⟨sy, dy, rfl, hC, hV, hd⟩; have HS2 : Hid (Chg (F2 gz oz lz gr orr R) w w2 ∧ RowV w2 (some ⟨gr, orr, none⟩) h cr dx ∧ RowV w2 (some ⟨gr, (orr + h), none⟩) (2 * h - h) (cr - h) dy ∧ dy = if sy then y1 - y0 else y0 - y1) := ⟨chg_fr HS1.out.1.drew hC (fun j h1 h2 => Or.inr ⟨rfl, by omega, by omega⟩), HS1.out.2.1.later hC.pre (fun t ht hF => (by have := hF.2; omega)), hV, hd⟩; clear hC hV hd))
 go_wp2
 go_region_held3 (fun w9 => Hid True) (first | (show True; trivial)) (first | (go_at_call 120; refine (HIH.out.1 gr (orr + 2 * h) (4 * h - 2 * h) (cr - 2 * h) gr orr h cr gr (orr + h) (2 * h - h) (cr - h) gr (orr + 4 * h) (R - 4 * h) (cr - 4 * h) re dx dy _ ⟨by omega, rfl, by omega, HRE.out⟩ (by omega) (by omega) (by have := HH.out.1; omega) (by omega) (by omega) ⟨(HXL.out _ HS2.out.1.drew).2.1.part (by omega), (HXL.out _ HS2.out.1.drew).2.1.part (by omega), HS2.out.2.1.drew, HS2.out.2.2.1.drew⟩ ⟨fun _ => (by omega), fun _ => (by omega), fun _ => (by omega), fun _ => (by omega), fun _ => (by omega)⟩).mono ?_; rintro e w3 ⟨rfl, hC, hV⟩; have HS3 : Hid (Chg (F2 gz oz lz gr orr R) w w3 ∧ RowV w3 (some ⟨gr, (orr + 2 * h), none⟩) (4 * h - 2 * h) (cr - 2 * h) (dx * dy)) := ⟨chg_f2 HS2.out.1.drew hC (fun j h1 h2 => Or.inr ⟨rfl, by omega, by omega⟩) (fun j h1 h2 => Or.inr ⟨rfl, by omega, by omega⟩), hV⟩; clear hC hV))
 go_wp2
 go_region_held3 (fun w9 => Hid True) (first | (show True; trivial)) (first | (go_at_call 120; refine (HIH.out.1 gz oz (2 * h) cz bx ox h cx b2 oy h cy gr (orr + 4 * h) (R - 4 * h) (cr - 4 * h) re x0 y0 _ ⟨by omega, rfl, rfl, HRE.out⟩ (by omega) (by omega) (by have := HH.out.1; omega) (by omega) (by omega) ⟨(HXL.out _ HS3.out.1.drew).1.part (by omega), (HXL.out _ HS3.out.1.drew).2.1.part (by omega), (HXL.out _ HS3.out.1.drew).2.2.1, (HXL.out _ HS3.out.1.drew).2.2.2.2.1⟩ ⟨fun e => (by have := HA.out.1 e; omega), fun e => (by have := HA.out.2.1 e; omega), fun e => (by have := HA.out.2.2.1 e; omega), fun e => (by have := HA.out.2.2.2.1 e; omega), fun e => (by have := HA.out.2.2.2.2 e; omega)⟩).mono ?_; rintro e w4 ⟨rfl, hC, hV⟩; have HS4 : Hid (Chg (F2 gz oz lz gr orr R) w w4 ∧ RowV w4 (some ⟨gr, (orr + 2 * h), none⟩) (4 * h - 2 * h) (cr - 2 * h) (dx * dy) ∧ RowV w4 (some ⟨gz, oz, none⟩) (2 * h) cz (x0 * y0)) := ⟨chg_f2 HS3.out.1.drew hC (fun j h1 h2 => Or.inl ⟨rfl, by omega, by omega⟩) (fun j h1 h2 => Or.inr ⟨rfl, by omega, by omega⟩), HS3.out.2.later hC.pre (fun t ht hF => (not_f2 hF (fun e1 => (by have := HA.out.1 e1.symm; omega)) (fun e1 => (by omega)))), hV⟩; clear hC hV))
 go_wp2
 go_region_held3 (fun w9 => Hid True) (first | (show True; trivial)) (first | (go_at_call 120; refine (HIH.out.2 gz (oz + 2 * h) (lz - 2 * h) (cz - 2 * h) bx (ox + h) (ny - h) (cx - h) b2 (oy + h) (ny - h) (cy - h) gr (orr + 4 * h) (R - 4 * h) (cr - 4 * h) re x1 y1 _ ⟨by omega, rfl, rfl, HRE.out⟩ (by omega) (by omega) (by have h1 := HH.out.1; have h2 := HH.out.2; omega) (by omega) (by omega) ⟨(HXL.out _ HS4.out.1.drew).1.part (by omega), (HXL.out _ HS4.out.1.drew).2.1.part (by omega), (HXL.out _ HS4.out.1.drew).2.2.2.1, (HXL.out _ HS4.out.1.drew).2.2.2.2.2⟩ ⟨fun e => (by have := HA.out.1 e; omega), fun e => (by have := HA.out.2.1 e; omega), fun e => (by have := HA.out.2.2.1 e; omega), fun e => (by have := HA.out.2.2.2.1 e; omega), fun e => (by have := HA.out.2.2.2.2 e; omega)⟩).mono ?_; rintro e w5 ⟨rfl, hC, hV⟩; have HS5 : Hid (Chg (F2 gz oz lz gr orr R) w w5 ∧ RowV w5 (some ⟨gr, (orr + 2 * h), none⟩) (4 * h - 2 * h) (cr - 2 * h) (dx * dy) ∧ RowV w5 (some ⟨gz, oz, none⟩) (2 * h) cz (x0 * y0) ∧ RowV w5 (some ⟨gz, (oz + 2 * h), none⟩) (lz - 2 * h) (cz - 2 * h) (x1 * y1)) := ⟨chg_f2 HS4.out.1.drew hC (fun j h1 h2 => Or.inl ⟨rfl, by omega, by omega⟩) (fun j h1 h2 => Or.inr ⟨rfl, by omega, by omega⟩), HS4.out.2.1.later hC.pre (fun t ht hF => (not_f2 hF (fun e1 => (by have := HA.out.1 e1.symm; omega)) (fun e1 => (by omega)))), HS4.out.2.2.later hC.pre (fun t ht hF => (not_f2 hF (fun e1 => (by omega)) (fun e1 => (by have := HA.out.1 e1; omega)))), hV⟩; clear hC hV))
 have HN : Hid (0 ≤ x0 ∧ 0 ≤ x1 ∧ 0 ≤ y0 ∧ 0 ≤ y1) := ⟨(HXL.out _ HS5.out.1).2.2.1.nonneg, (HXL.out _ HS5.out.1).2.2.2.1.nonneg, (HXL.out _ HS5.out.1).2.2.2.2.1.nonneg, (HXL.out _ HS5.out.1).2.2.2.2.2.nonneg⟩
 have HD : Hid ((dx = if sx then x1 - x0 else x0 - x1) ∧ (dy = if sy then y1 - y0 else y0 - y1)) := ⟨HS1.out.2.2, HS2.out.2.2.2⟩
 clear HS1 HS2 HS3 HS4 HIH HH HRE HC0 hR
 cases hsxy : (sx == sy)
 ·
  go_wp2_with (first
  | (refine wpList_copy_reg rfl (.tmp 94) (.tmp 98) 25 25 rfl 60 Tryz.underlying25 size64 gr orr (2 * h) cr gz oz cz (x0 * y0) rfl rfl (by omega) ((HXL.out _ HS5.out.1).2.1.part (by omega)) (by omega) HS5.out.2.2.1 ?_; intro w6 HC6; have HS6 : Hid (Chg (F2 gz oz lz gr orr R) w w6 ∧ RowV w6 (some ⟨gr, (orr + 2 * h), none⟩) (4 * h - 2 * h) (cr - 2 * h) (dx * dy) ∧ RowV w6 (some ⟨gz, oz, none⟩) (2 * h) cz (x0 * y0) ∧ RowV w6 (some ⟨gz, (oz + 2 * h), none⟩) (lz - 2 * h) (cz - 2 * h) (x1 * y1) ∧ RowV w6 (some ⟨gr, orr, none⟩) (2 * h) cr (x0 * y0)) := ⟨chg_fr HS5.out.1 HC6.out.1 (fun j h1 h2 => Or.inr ⟨rfl, by omega, by omega⟩), HS5.out.2.1.later HC6.out.1 (fun t ht hF => (by have := hF.2; omega)), HS5.out.2.2.1.later HC6.out.1 (fun t ht hF => (by have h1 := HA.out.1 hF.1; have h2 := hF.2; omega)), HS5.out.2.2.2.later HC6.out.1 (fun t ht hF => (by have h1 := HA.out.1 hF.1; have h2 := hF.2; omega)), HC6.out.2⟩; clear HC6 HS5)
  | (go_at_call 133; have _t := HS6; refine (addInto_reg gr orr (2 * h) cr gz (oz + 2 * h) (lz - 2 * h) (cz - 2 * h) (x0 * y0) (x1 * y1) w6 ((HXL.out _ HS6.out.1).2.1.part (by omega)) HS6.out.2.2.2.2 hcr HS6.out.2.2.2.1 (by omega) (fun e => (by have := HA.out.1 e; omega))).mono ?_; rintro e w7 ⟨c1, m1, rfl, hc10, hc11, hC, hV, he⟩; have HS7 : Hid ((Chg (F2 gz oz lz gr orr R) w w7 ∧ RowV w7 (some ⟨gr, (orr + 2 * h), none⟩) (4 * h - 2 * h) (cr - 2 * h) (dx * dy) ∧ RowV w7 (some ⟨gz, oz, none⟩) (2 * h) cz (x0 * y0) ∧ RowV w7 (some ⟨gz, (oz + 2 * h), none⟩) (lz - 2 * h) (cz - 2 * h) (x1 * y1) ∧ RowV w7 (some ⟨gr, orr, none⟩) (2 * h) cr m1) ∧ m1 + c1 * 18446744073709551616 ^ (2 * h) = x0 * y0 + x1 * y1) := ⟨⟨chg_fr HS6.out.1 hC (fun j h1 h2 => Or.inr ⟨rfl, by omega, by omega⟩), HS6.out.2.1.later hC (fun t ht hF => (by have := hF.2; omega)), HS6.out.2.2.1.later hC (fun t ht hF => (by have h1 := HA.out.1 hF.1; have h2 := hF.2; omega)), HS6.out.2.2.2.1.later hC (fun t ht hF => (by have h1 := HA.out.1 hF.1; have h2 := hF.2; omega)), hV⟩, he⟩; clear hC hV he HS6)
  | (go_at_call 133; have _t := HS7; refine (addInto_reg gr orr (2 * h) cr gr (orr + 2 * h) (4 * h - 2 * h) (cr - 2 * h) m1 (dx * dy) w7 ((HXL.out _ HS7.out.1.1).2.1.part (by omega)) HS7.out.1.2.2.2.2 hcr HS7.out.1.2.1 (by omega) (fun e => (by omega))).mono ?_; rintro e w8 ⟨c2, m2, rfl, hc20, hc21, hC, hV, he⟩; have hts := top_add (M := x0 * y1 + x1 * y0) HS7.out.2 he (by have h1 := kara_mid (nx := sx) (ny := sy) HD.out.1 HD.out.2; rw [if_neg (by simpa using hsxy)] at h1; omega); have ht0 : 0 ≤ c1 + c2 := (by omega); have ht1 : c1 + c2 ≤ 18446744073709551615 := (by omega); have HS8 : Hid ((Chg (F2 gz oz lz gr orr R) w w8 ∧ RowV w8 (some ⟨gz, oz, none⟩) (2 * h) cz (x0 * y0) ∧ RowV w8 (some ⟨gz, (oz + 2 * h), none⟩) (lz - 2 * h) (cz - 2 * h) (x1 * y1) ∧ RowV w8 (some ⟨gr, orr, none⟩) (2 * h) cr m2) ∧ m2 + (c1 + c2) * 18446744073709551616 ^ (2 * h) = x0 * y1 + x1 * y0) := ⟨⟨chg_fr HS7.out.1.1 hC (fun j h1 h2 => Or.inr ⟨rfl, by omega, by omega⟩), HS7.out.1.2.2.1.later hC (fun t ht hF => (by have h1 := HA.out.1 hF.1; have h2 := hF.2; omega)), HS7.out.1.2.2.2.1.later hC (fun t ht hF => (by have h1 := HA.out.1 hF.1; have h2 := hF.2; omega)), hV⟩, hts⟩; clear hC hV he hts HS7)
  | (go_at_call 133; have _t := HS8; obtain ⟨Zl, Zh, hzl, hzh, hze⟩ := HS8.out.1.2.1.recut (l := lz) (b := h) HS8.out.1.2.2.1 (by omega) hlc (by omega); refine (addInto_reg gz (oz + h) (lz - h) (cz - h) gr orr (2 * h) cr Zh m2 w8 ((HXL.out _ HS8.out.1.1).1.part (by omega)) hzh (by omega) HS8.out.1.2.2.2 (by omega) (fun e => (by have := HA.out.1 e.symm; omega))).mono ?_; rintro e w9 ⟨c3, Zh2, rfl, hc30, hc31, hC, hV, he⟩; have HS9 : Hid (Chg (F2 gz oz lz gr orr R) w w9 ∧ RowV w9 (some ⟨gz, oz, none⟩) h cz Zl ∧ RowV w9 (some ⟨gz, (oz + h), none⟩) (lz - h) (cz - h) Zh2 ∧ Zl + 18446744073709551616 ^ h * Zh2 = x * y - 18446744073709551616 ^ (3 * h) * (c1 + c2)) := ⟨chg_fr HS8.out.1.1 hC (fun j h1 h2 => Or.inl ⟨rfl, by omega, by omega⟩), hzl.later hC (fun t ht hF => (by have := hF.2; omega)), hV, step15 HXY.out.1 HXY.out.2 (by omega) HLT.out hze HS8.out.2 ht0 he hc30 hc31 hzl.nonneg hV.nonneg⟩; clear hC hV he hzl hzh hze HS8)
  | (go_at_call 133; have _t := HS9; obtain ⟨Yl, Yh, hyl, hyh, hye⟩ := HS9.out.2.1.recut (l := lz) (b := 3 * h) HS9.out.2.2.1 (by omega) hlc (by omega); have hCa : Chg (F2 gz oz lz gr orr R) w9 (w9.alloc (.cells #[.int .u64 (c1 + c2)] 60)) := Chg.below ((Below.refl _ _).alloc (Nat.le_refl _) _); have hCb : Chg (Fr w9.heap.size 0 0) w9 (w9.alloc (.cells #[.int .u64 (c1 + c2)] 60)) := Chg.below ((Below.refl _ _).alloc (Nat.le_refl _) _); refine (addInto_reg gz (oz + 3 * h) (lz - 3 * h) (cz - 3 * h) w9.heap.size 0 1 1 Yh (c1 + c2) _ ((HXL.out _ (HS9.out.1.trans hCa)).1.part (by omega)) (hyh.later hCb (fun t ht hF => (by have := hF.2; omega))) (by omega) (new_word ht0 (by omega)) (by omega) (fun e => (by have := (HXL.out _ HS9.out.1).1.lt; omega))).mono ?_; rintro e wA ⟨c4, Yh2, rfl, hc40, hc41, hC, hV, he⟩; have HSA : Hid (Chg (F2 gz oz lz gr orr R) w wA ∧ RowV wA (some ⟨gz, oz, none⟩) lz cz (x * y)) := ⟨chg_fr (HS9.out.1.trans hCa) hC (fun j h1 h2 => Or.inl ⟨rfl, by omega, by omega⟩), (by have hj := ((hyl.later hCb (fun t ht hF => (by have := hF.2; omega))).later hC (fun t ht hF => (by have := hF.2; omega))).join hV (c := cz) (by omega); rw [step16 (by omega) HLT.out HS9.out.2.2.2 hye he hc40 hc41 hyl.nonneg hV.nonneg, show 3 * h + (lz - 3 * h) = lz by omega] at hj; exact hj)⟩; clear hC hV he hyl hyh hye HS9 hCa hCb))
  go_end0
  exact ⟨rfl, HSA.out.1, HSA.out.2⟩
 ·
  go_wp2_with (first
  | (refine wpList_copy_reg rfl (.tmp 94) (.tmp 98) 25 25 rfl 60 Tryz.underlying25 size64 gr orr (2 * h) cr gz oz cz (x0 * y0) rfl rfl (by omega) ((HXL.out _ HS5.out.1).2.1.part (by omega)) (by omega) HS5.out.2.2.1 ?_; intro w6 HC6; have HS6 : Hid (Chg (F2 gz oz lz gr orr R) w w6 ∧ RowV w6 (some ⟨gr, (orr + 2 * h), none⟩) (4 * h - 2 * h) (cr - 2 * h) (dx * dy) ∧ RowV w6 (some ⟨gz, oz, none⟩) (2 * h) cz (x0 * y0) ∧ RowV w6 (some ⟨gz, (oz + 2 * h), none⟩) (lz - 2 * h) (cz - 2 * h) (x1 * y1) ∧ RowV w6 (some ⟨gr, orr, none⟩) (2 * h) cr (x0 * y0)) := ⟨chg_fr HS5.out.1 HC6.out.1 (fun j h1 h2 => Or.inr ⟨rfl, by omega, by omega⟩), HS5.out.2.1.later HC6.out.1 (fun t ht hF => (by have := hF.2; omega)), HS5.out.2.2.1.later HC6.out.1 (fun t ht hF => (by have h1 := HA.out.1 hF.1; have h2 := hF.2; omega)), HS5.out.2.2.2.later HC6.out.1 (fun t ht hF => (by have h1 := HA.out.1 hF.1; have h2 := hF.2; omega)), HC6.out.2⟩; clear HC6 HS5)
  | (go_at_call 133; have _t := HS6; refine (addInto_reg gr orr (2 * h) cr gz (oz + 2 * h) (lz - 2 * h) (cz - 2 * h) (x0 * y0) (x1 * y1) w6 ((HXL.out _ HS6.out.1).2.1.part (by omega)) HS6.out.2.2.2.2 hcr HS6.out.2.2.2.1 (by omega) (fun e => (by have := HA.out.1 e; omega))).mono ?_; rintro e w7 ⟨c1, m1, rfl, hc10, hc11, hC, hV, he⟩; have HS7 : Hid ((Chg (F2 gz oz lz gr orr R) w w7 ∧ RowV w7 (some ⟨gr, (orr + 2 * h), none⟩) (4 * h - 2 * h) (cr - 2 * h) (dx * dy) ∧ RowV w7 (some ⟨gz, oz, none⟩) (2 * h) cz (x0 * y0) ∧ RowV w7 (some ⟨gz, (oz + 2 * h), none⟩) (lz - 2 * h) (cz - 2 * h) (x1 * y1) ∧ RowV w7 (some ⟨gr, orr, none⟩) (2 * h) cr m1) ∧ m1 + c1 * 18446744073709551616 ^ (2 * h) = x0 * y0 + x1 * y1) := ⟨⟨chg_fr HS6.out.1 hC (fun j h1 h2 => Or.inr ⟨rfl, by omega, by omega⟩), HS6.out.2.1.later hC (fun t ht hF => (by have := hF.2; omega)), HS6.out.2.2.1.later hC (fun t ht hF => (by have h1 := HA.out.1 hF.1; have h2 := hF.2; omega)), HS6.out.2.2.2.1.later hC (fun t ht hF => (by have h1 := HA.out.1 hF.1; have h2 := hF.2; omega)), hV⟩, he⟩; clear hC hV he HS6)
  | (go_at_call 134; have _t := HS7; refine (subInto_reg gr orr (2 * h) cr gr (orr + 2 * h) (4 * h - 2 * h) (cr - 2 * h) m1 (dx * dy) w7 ((HXL.out _ HS7.out.1.1).2.1.part (by omega)) HS7.out.1.2.2.2.2 hcr HS7.out.1.2.1 (by omega) (fun e => (by omega))).mono ?_; rintro e w8 ⟨c2, m2, rfl, hc20, hc21, hC, hV, he⟩; have hts := top_sub (M := x0 * y1 + x1 * y0) HS7.out.2 he (by have h1 := kara_mid (nx := sx) (ny := sy) HD.out.1 HD.out.2; rw [if_pos (by simpa using hsxy)] at h1; omega) (mid_nonneg HN.out.1 HN.out.2.1 HN.out.2.2.1 HN.out.2.2.2) hV.nonneg hV.lt hc10 hc11 hc20 hc21; have ht0 : 0 ≤ c1 - c2 := hts.1; have ht1 : c1 - c2 ≤ 18446744073709551615 := (by omega); have HS8 : Hid ((Chg (F2 gz oz lz gr orr R) w w8 ∧ RowV w8 (some ⟨gz, oz, none⟩) (2 * h) cz (x0 * y0) ∧ RowV w8 (some ⟨gz, (oz + 2 * h), none⟩) (lz - 2 * h) (cz - 2 * h) (x1 * y1) ∧ RowV w8 (some ⟨gr, orr, none⟩) (2 * h) cr m2) ∧ m2 + (c1 - c2) * 18446744073709551616 ^ (2 * h) = x0 * y1 + x1 * y0) := ⟨⟨chg_fr HS7.out.1.1 hC (fun j h1 h2 => Or.inr ⟨rfl, by omega, by omega⟩), HS7.out.1.2.2.1.later hC (fun t ht hF => (by have h1 := HA.out.1 hF.1; have h2 := hF.2; omega)), HS7.out.1.2.2.2.1.later hC (fun t ht hF => (by have h1 := HA.out.1 hF.1; have h2 := hF.2; omega)), hV⟩, hts.2⟩; clear hC hV he hts HS7)
  | (go_at_call 133; have _t := HS8; obtain ⟨Zl, Zh, hzl, hzh, hze⟩ := HS8.out.1.2.1.recut (l := lz) (b := h) HS8.out.1.2.2.1 (by omega) hlc (by omega); refine (addInto_reg gz (oz + h) (lz - h) (cz - h) gr orr (2 * h) cr Zh m2 w8 ((HXL.out _ HS8.out.1.1).1.part (by omega)) hzh (by omega) HS8.out.1.2.2.2 (by omega) (fun e => (by have := HA.out.1 e.symm; omega))).mono ?_; rintro e w9 ⟨c3, Zh2, rfl, hc30, hc31, hC, hV, he⟩; have HS9 : Hid (Chg (F2 gz oz lz gr orr R) w w9 ∧ RowV w9 (some ⟨gz, oz, none⟩) h cz Zl ∧ RowV w9 (some ⟨gz, (oz + h), none⟩) (lz - h) (cz - h) Zh2 ∧ Zl + 18446744073709551616 ^ h * Zh2 = x * y - 18446744073709551616 ^ (3 * h) * (c1 - c2)) := ⟨chg_fr HS8.out.1.1 hC (fun j h1 h2 => Or.inl ⟨rfl, by omega, by omega⟩), hzl.later hC (fun t ht hF => (by have := hF.2; omega)), hV, step15 HXY.out.1 HXY.out.2 (by omega) HLT.out hze HS8.out.2 ht0 he hc30 hc31 hzl.nonneg hV.nonneg⟩; clear hC hV he hzl hzh hze HS8)
  | (go_at_call 133; have _t := HS9; obtain ⟨Yl, Yh, hyl, hyh, hye⟩ := HS9.out.2.1.recut (l := lz) (b := 3 * h) HS9.out.2.2.1 (by omega) hlc (by omega); have hCa : Chg (F2 gz oz lz gr orr R) w9 (w9.alloc (.cells #[.int .u64 (c1 - c2)] 60)) := Chg.below ((Below.refl _ _).alloc (Nat.le_refl _) _); have hCb : Chg (Fr w9.heap.size 0 0) w9 (w9.alloc (.cells #[.int .u64 (c1 - c2)] 60)) := Chg.below ((Below.refl _ _).alloc (Nat.le_refl _) _); refine (addInto_reg gz (oz + 3 * h) (lz - 3 * h) (cz - 3 * h) w9.heap.size 0 1 1 Yh (c1 - c2) _ ((HXL.out _ (HS9.out.1.trans hCa)).1.part (by omega)) (hyh.later hCb (fun t ht hF => (by have := hF.2; omega))) (by omega) (new_word ht0 (by omega)) (by omega) (fun e => (by have := (HXL.out _ HS9.out.1).1.lt; omega))).mono ?_; rintro e wA ⟨c4, Yh2, rfl, hc40, hc41, hC, hV, he⟩; have HSA : Hid (Chg (F2 gz oz lz gr orr R) w wA ∧ RowV wA (some ⟨gz, oz, none⟩) lz cz (x * y)) := ⟨chg_fr (HS9.out.1.trans hCa) hC (fun j h1 h2 => Or.inl ⟨rfl, by omega, by omega⟩), (by have hj := ((hyl.later hCb (fun t ht hF => (by have := hF.2; omega))).later hC (fun t ht hF => (by have := hF.2; omega))).join hV (c := cz) (by omega); rw [step16 (by omega) HLT.out HS9.out.2.2.2 hye he hc40 hc41 hyl.nonneg hV.nonneg, show 3 * h + (lz - 3 * h) = lz by omega] at hj; exact hj)⟩; clear hC hV he hyl hyh hye HS9 hCa hCb))
  go_end0
  exact ⟨rfl, HSA.out.1, HSA.out.2⟩
theorem halves_all (n : Nat) : 0 < n → HalvesOk n := by
 induction n using Nat.strongRecOn with
 | ind n ih =>
  intro hn
  by_cases h40 : n < 40
  ·
   exact halves_small n hn h40
  ·
   exact halves_great n ((n + 1) / 2) rfl (by omega) (ih _ (by omega) (by omega)) (ih _ (by omega) (by omega))
end Go.Proofs.YthjkdnlbdhhmbaaGreatDoor
