/-
  A pack of walks and facts: YE.
-/
import Derived.Test.YtgcahkhpbcklfaaGreatDoorPJ24
set_option maxRecDepth 100000
set_option maxHeartbeats 40000000
set_option linter.unusedVariables false
set_option linter.unusedSimpArgs false
namespace Go.Proofs.YtgcahkhpbcklfaaGreatDoor
open Go.RowKit
theorem CoefAt.off {w : World} {b o g j : Nat} {v : Int} {u : Value} (h : CoefAt w b o v) (hne : b ≠ g) (e : w.cell? ⟨g, j, none⟩ = some u) (hu : ∀ z, u ≠ .int .u64 z) (x : Value) : CoefAt (w.setCell ⟨g, j, none⟩ x) b o v := by
 obtain ⟨n, ao, l, c, ⟨h0, h1⟩, hi⟩ := h
 exact ⟨n, ao, l, c, ⟨by rw [cell_off hne]; exact h0, by rw [cell_off hne]; exact h1⟩, hi.cellKept e hu x⟩
theorem PolyAt.off {w : World} {ao : Option Addr} {len cap g j : Nat} {p : List Int} {u : Value} (h : PolyAt w ao len cap p) (hne : ∀ a : Addr, ao = some a → a.block ≠ g) (e : w.cell? ⟨g, j, none⟩ = some u) (hu : ∀ z, u ≠ .int .u64 z) (x : Value) : PolyAt (w.setCell ⟨g, j, none⟩ x) ao len cap p := by
 refine ⟨h.hlen, h.hcap, h.hnil, ?_⟩
 rcases h.hat with h0 | ⟨b, o, h1, h2⟩
 ·
  exact Or.inl h0
 ·
  exact Or.inr ⟨b, o, h1, fun t ht => (h2 t ht).off (hne _ h1) e hu x⟩
theorem PBlk.off {w : World} {g g' j : Nat} {p : List Int} {u : Value} (h : PBlk w g p) (hne : g ≠ g') (e : w.cell? ⟨g', j, none⟩ = some u) (hu : ∀ z, u ≠ .int .u64 z) (x : Value) : PBlk (w.setCell ⟨g', j, none⟩ x) g p :=
 ⟨fun i => by rw [soft_far]; exact h.soft i, fun t ht => (h.coef t ht).off hne e hu x⟩
structure PS (B : Nat) (w : World) (g gq gd gp : Nat) (bo : Option Addr) (lb cb k : Nat) (b P r q : List Int) : Prop where
 ord : B ≤ gq ∧ gq < gd ∧ gd < g ∧ g < w.heap.size ∧ gp < B
 d0 : w.cell? ⟨gd, 0, none⟩ = some (.slice bo lb cb)
 d1 : w.cell? ⟨gd, 1, none⟩ = some (.slice (some ⟨gp, 0, none⟩) k k)
 d2 : w.cell? ⟨gd, 2, none⟩ = some (.slice (some ⟨gq, 0, none⟩) k k)
 hb : PolyAt w bo lb cb b
 far : ∀ a : Addr, bo = some a → a.block < B
 hP : PolyAt w (some ⟨gp, 0, none⟩) k k P
 hr : PBlk w g r
 hq : PBlk w gq q
theorem PS.later {B : Nat} {w w' : World} {g gq gd gp : Nat} {bo : Option Addr} {lb cb k : Nat} {b P r q : List Int} (h : PS B w g gq gd gp bo lb cb k b P r q) (hb : Below w.heap.size w w') : PS B w' g gq gd gp bo lb cb k b P r q := by
 obtain ⟨o1, o2, o3, o4, o5⟩ := h.ord
 exact ⟨⟨o1, o2, o3, Nat.lt_of_lt_of_le o4 hb.size, o5⟩, (hb.cell (p := ⟨gd, 0, none⟩) (by show gd < _; omega)).trans h.d0, (hb.cell (p := ⟨gd, 1, none⟩) (by show gd < _; omega)).trans h.d1, (hb.cell (p := ⟨gd, 2, none⟩) (by show gd < _; omega)).trans h.d2, h.hb.later hb, h.far, h.hP.later hb, h.hr.later hb o4, h.hq.later hb (by omega)⟩
theorem PS.putR {B : Nat} {w : World} {g gq gd gp : Nat} {bo : Option Addr} {lb cb k t l c : Nat} {b P r q : List Int} {n : Bool} {ao : Option Addr} {v : Int} (h : PS B w g gq gd gp bo lb cb k b P r q) (ht : t < r.length) (hi : IntAt w n ao l c v) : PS B ((w.setCell ⟨g, t * 2, none⟩ (.bool n)).setCell ⟨g, t * 2 + 1, none⟩ (.slice ao l c)) g gq gd gp bo lb cb k b P (r.set t v) q := by
 obtain ⟨o1, o2, o3, o4, o5⟩ := h.ord
 obtain ⟨n0, ao0, l0, c0, ⟨e0, e1⟩, _⟩ := h.hr.coef t ht
 have e1' : (w.setCell ⟨g, t * 2, none⟩ (.bool n)).cell? ⟨g, t * 2 + 1, none⟩ = some (.slice ao0 l0 c0) := by simp [go_sem, e0, e1]
 have hd : gd ≠ g := by omega
 have hfar : ∀ a : Addr, bo = some a → a.block ≠ g := fun a ha => by have := h.far a ha; omega
 have hpfar : ∀ a : Addr, (some ⟨gp, 0, none⟩ : Option Addr) = some a → a.block ≠ g := fun a ha => by cases ha; show gp ≠ g; omega
 exact ⟨⟨o1, o2, o3, by simp; exact o4, o5⟩, by rw [cell_off hd, cell_off hd]; exact h.d0, by rw [cell_off hd, cell_off hd]; exact h.d1, by rw [cell_off hd, cell_off hd]; exact h.d2, (h.hb.off hfar e0 (fun z e => by cases e) _).off hfar e1' (fun z e => by cases e) _, h.far, (h.hP.off hpfar e0 (fun z e => by cases e) _).off hpfar e1' (fun z e => by cases e) _, h.hr.put ht hi, (h.hq.off (by omega) e0 (fun z e => by cases e) _).off (by omega) e1' (fun z e => by cases e) _⟩
theorem PS.putQ {B : Nat} {w : World} {g gq gd gp : Nat} {bo : Option Addr} {lb cb k t l c : Nat} {b P r q : List Int} {n : Bool} {ao : Option Addr} {v : Int} (h : PS B w g gq gd gp bo lb cb k b P r q) (ht : t < q.length) (hi : IntAt w n ao l c v) : PS B ((w.setCell ⟨gq, t * 2, none⟩ (.bool n)).setCell ⟨gq, t * 2 + 1, none⟩ (.slice ao l c)) g gq gd gp bo lb cb k b P r (q.set t v) := by
 obtain ⟨o1, o2, o3, o4, o5⟩ := h.ord
 obtain ⟨n0, ao0, l0, c0, ⟨e0, e1⟩, _⟩ := h.hq.coef t ht
 have e1' : (w.setCell ⟨gq, t * 2, none⟩ (.bool n)).cell? ⟨gq, t * 2 + 1, none⟩ = some (.slice ao0 l0 c0) := by simp [go_sem, e0, e1]
 have hd : gd ≠ gq := by omega
 have hfar : ∀ a : Addr, bo = some a → a.block ≠ gq := fun a ha => by have := h.far a ha; omega
 have hpfar : ∀ a : Addr, (some ⟨gp, 0, none⟩ : Option Addr) = some a → a.block ≠ gq := fun a ha => by cases ha; show gp ≠ gq; omega
 exact ⟨⟨o1, o2, o3, by simp; exact o4, o5⟩, by rw [cell_off hd, cell_off hd]; exact h.d0, by rw [cell_off hd, cell_off hd]; exact h.d1, by rw [cell_off hd, cell_off hd]; exact h.d2, (h.hb.off hfar e0 (fun z e => by cases e) _).off hfar e1' (fun z e => by cases e) _, h.far, (h.hP.off hpfar e0 (fun z e => by cases e) _).off hpfar e1' (fun z e => by cases e) _, (h.hr.off (by omega) e0 (fun z e => by cases e) _).off (by omega) e1' (fun z e => by cases e) _, h.hq.put ht hi⟩
theorem step_any (B g gq gd gp bb off cb k m i M : Nat) (b P r q r1 : List Int) (L top : Int) (w : World) (h : PS B w g gq gd gp (some ⟨bb, off, none⟩) (m + 1) cb k b P r q)
  (hi : i < k) (hrl : r.length = m + k) (hql : q.length = k) (hPt : ∀ t, t < k → dig P t = L ^ t) (hbl : b.length = m + 1) (hL : dig b m = L) (hr1 : r1 = r.set i (dig r i * L ^ (k - 1 - i))) (htop : top = dig r1 (i + m))
  (hM : Lim M r1) (hM0 : Lim M r) (hMM : M ≤ 1000000) (hK : Lim 1000 b) (hPL : Lim 100000 P) (hm : m ≤ 64) (hk : k ≤ 64) :
  Calls Tryz.prog 72 #[.pointer (some ⟨gd, 0, none⟩), .slice (some ⟨g, i * 2, none⟩) (m + 1) (m + 1), .int .i64 (i : Int)] w fun e w' => e = .returned (.bool true) ∧ Below B w w' ∧ ∃ l, PdSt r1 b top L i m l ∧ PS B w' g gq gd gp (some ⟨bb, off, none⟩) (m + 1) cb k b P l (q.set i (top * L ^ i)) := by
 obtain ⟨ex, hex⟩ : ∃ ex, ex = k - 1 - i := ⟨_, rfl⟩
 rw [← hex] at hr1
 have HP : Hid (PS B w g gq gd gp (some ⟨bb, off, none⟩) (m + 1) cb k b P r q) := h
 have HLen : Hid (i < r.length ∧ i + m < r.length ∧ r1.length = r.length ∧ i < q.length) := ⟨by omega, by omega, by rw [hr1, List.length_set], by omega⟩
 have HB : Hid (B ≤ g ∧ B ≤ gq ∧ g < w.heap.size ∧ B ≤ w.heap.size) := by have := h.ord; exact ⟨by omega, by omega, by omega, by omega⟩
 have HV1 : Hid (r1 = r.set i (dig r i * L ^ ex) ∧ top = dig r1 (i + m) ∧ dig b m = L ∧ (∀ t, t < k → dig P t = L ^ t) ∧ b.length = m + 1 ∧ Lim 1000 b ∧ Lim M r1 ∧ M ≤ 1000000 ∧ r.length = m + k) := ⟨hr1, htop, hL, hPt, hbl, hK, hM, hMM, hrl⟩
 obtain ⟨gp', off6, n6, o6, l6, c6, he6, f0, f1, hi6⟩ := h.hP.at (show ex < k by omega)
 cases he6
 rw [Nat.zero_add] at f0 f1
 rw [hPt ex (by omega)] at hi6
 obtain ⟨n5, o5, l5, c5, ⟨q0, q1⟩, hi5⟩ := h.hr.coef i HLen.out.1
 have hl5 : l5 ≤ 1000000 := by rw [hi5.lim]; have := hM0 i; omega
 have hl6 : l6 ≤ 100000 := by rw [hi6.lim, ← hPt ex (by omega)]; exact hPL ex
 have HI : Hid (IntAt w n5 o5 l5 c5 (dig r i) ∧ IntAt w n6 o6 l6 c6 (L ^ ex)) := ⟨hi5, hi6⟩
 have KS : Hid (∀ w', Below w.heap.size w w' → w'.cell? ⟨gd, 0, none⟩ = some (.slice (some ⟨bb, off, none⟩) (m + 1) cb) ∧ w'.cell? ⟨gd, 1, none⟩ = some (.slice (some ⟨gp, 0, none⟩) k k) ∧ w'.cell? ⟨gd, 2, none⟩ = some (.slice (some ⟨gq, 0, none⟩) k k) ∧ w'.cell? ⟨gp, ex * 2, none⟩ = some (.bool n6) ∧ w'.cell? ⟨gp, ex * 2 + 1, none⟩ = some (.slice o6 l6 c6)) := fun w' hb => by
  have h2 := HP.out.later hb
  exact ⟨h2.d0, h2.d1, h2.d2, (hb.cell (p := ⟨gp, ex * 2, none⟩) (cell_lt f0)).trans f0, (hb.cell (p := ⟨gp, ex * 2 + 1, none⟩) (cell_lt f1)).trans f1⟩
 have HNE : Hid (gd ≠ g ∧ gp ≠ g ∧ gd ≠ gq ∧ gp ≠ gq) := by have := h.ord; exact ⟨by omega, by omega, by omega, by omega⟩
 have K2 : Hid (∀ (w' : World) (z : Nat) (x : Value), (w'.cell? ⟨gd, 0, none⟩ = some (.slice (some ⟨bb, off, none⟩) (m + 1) cb) ∧ w'.cell? ⟨gd, 1, none⟩ = some (.slice (some ⟨gp, 0, none⟩) k k) ∧ w'.cell? ⟨gd, 2, none⟩ = some (.slice (some ⟨gq, 0, none⟩) k k) ∧ w'.cell? ⟨gp, ex * 2, none⟩ = some (.bool n6) ∧ w'.cell? ⟨gp, ex * 2 + 1, none⟩ = some (.slice o6 l6 c6)) → ((w'.setCell ⟨g, z, none⟩ x).cell? ⟨gd, 0, none⟩ = some (.slice (some ⟨bb, off, none⟩) (m + 1) cb) ∧ (w'.setCell ⟨g, z, none⟩ x).cell? ⟨gd, 1, none⟩ = some (.slice (some ⟨gp, 0, none⟩) k k) ∧ (w'.setCell ⟨g, z, none⟩ x).cell? ⟨gd, 2, none⟩ = some (.slice (some ⟨gq, 0, none⟩) k k) ∧ (w'.setCell ⟨g, z, none⟩ x).cell? ⟨gp, ex * 2, none⟩ = some (.bool n6) ∧ (w'.setCell ⟨g, z, none⟩ x).cell? ⟨gp, ex * 2 + 1, none⟩ = some (.slice o6 l6 c6))) := fun w' z x h => ⟨by rw [cell_off HNE.out.1]; exact h.1, by rw [cell_off HNE.out.1]; exact h.2.1, by rw [cell_off HNE.out.1]; exact h.2.2.1, by rw [cell_off HNE.out.2.1]; exact h.2.2.2.1, by rw [cell_off HNE.out.2.1]; exact h.2.2.2.2⟩
 have z0 : (k : Int) - 1 - (i : Int) = (ex : Int) := by omega
 have zk : IntKind.i64.wrap ((k : Int) - 1) = (k : Int) - 1 := by rw [IntKind.wrap_i64]; omega
 have z1 : (0 : Int) ≤ (ex : Int) := by omega
 have z2 : (ex : Int) < (k : Int) := by omega
 have z3 : IntKind.i64.wrap (ex : Int) = (ex : Int) := by rw [IntKind.wrap_i64]; omega
 have z4 : ((m + 1 : Nat) : Int) - 1 = (m : Int) := by omega
 have z5 : IntKind.i64.wrap (m : Int) = (m : Int) := by rw [IntKind.wrap_i64]; omega
 have z6 : (0 : Int) < ((m + 1 : Nat) : Int) := by omega
 have z7 : (0 : Int) < (m : Int) + 1 := by omega
 have HPL : Hid (Lim 100000 P) := hPL
 clear h hi5 hi6 f0 f1 hr1 htop hL hPt hbl hK hM hM0 hPL hrl hql hex
 go_enter Tryz.func72, Tryz.ntmps72
 go_wp2
 refine wp_region_noPanic ?_
 refine wp_region_held_drew (S := fun w' => (w'.cell? ⟨gd, 0, none⟩ = some (.slice (some ⟨bb, off, none⟩) (m + 1) cb) ∧ w'.cell? ⟨gd, 1, none⟩ = some (.slice (some ⟨gp, 0, none⟩) k k) ∧ w'.cell? ⟨gd, 2, none⟩ = some (.slice (some ⟨gq, 0, none⟩) k k) ∧ w'.cell? ⟨gp, ex * 2, none⟩ = some (.bool n6) ∧ w'.cell? ⟨gp, ex * 2 + 1, none⟩ = some (.slice o6 l6 c6))) (by kernel_rfl) (by (try dsimp only); exact KS.out _ (Below.refl _ _).drew) (fun hHeld => ?_)
 refine wpAnyH_take (i := 0) (oi := Oper.mk (some 14) _ _ _ _ _) (v := ?_) rfl (by decide +kernel) (by decide +kernel) (by decide +kernel) (fun _ _ _ h => h) (Or.inl ⟨by rfl, ?_⟩) (by assumption) ?_
 rotate_left
 ·
  (intro w hSw; (try dsimp only at hSw); go_simp <;> (try with_reducible rfl))
 (try simp only [Act.put, List.setIfInBounds_toArray, List.set_cons_zero, List.set_cons_succ])
 refine wpAnyH_take (i := 1) (oi := Oper.mk (some 15) _ _ _ _ _) (v := ?_) rfl (by decide +kernel) (by decide +kernel) (by decide +kernel) (fun _ _ _ h => h) (Or.inl ⟨by rfl, ?_⟩) (by assumption) ?_
 rotate_left
 ·
  (intro w hSw; (try dsimp only at hSw); go_simp <;> (try with_reducible rfl))
 (try simp only [Act.put, List.setIfInBounds_toArray, List.set_cons_zero, List.set_cons_succ])
 refine wpAnyH_take (i := 2) (oi := Oper.mk (some 16) _ _ _ _ _) (v := ?_) rfl (by decide +kernel) (by decide +kernel) (by decide +kernel) (fun _ _ _ h => h) (Or.inl ⟨by rfl, ?_⟩) (by assumption) ?_
 rotate_left
 ·
  (intro w hSw; (try dsimp only at hSw); go_simp <;> (try with_reducible rfl))
 (try simp only [Act.put, List.setIfInBounds_toArray, List.set_cons_zero, List.set_cons_succ])
 refine wpAnyH_take (i := 4) (oi := Oper.mk (some 18) _ _ _ _ _) (v := ?_) rfl (by decide +kernel) (by decide +kernel) (by decide +kernel) (fun _ _ _ h => h) (Or.inl ⟨by rfl, ?_⟩) (by assumption) ?_
 rotate_left
 ·
  (intro w hSw; (try dsimp only at hSw); go_simp <;> (try with_reducible rfl))
 (try simp only [Act.put, List.setIfInBounds_toArray, List.set_cons_zero, List.set_cons_succ])
 refine wpAnyH_take (i := 5) (oi := Oper.mk (some 19) _ _ _ _ _) (v := ?_) rfl (by decide +kernel) (by decide +kernel) (by decide +kernel) (fun _ _ _ h => h) (Or.inl ⟨by rfl, ?_⟩) (by assumption) ?_
 rotate_left
 ·
  (intro w hSw; (try dsimp only at hSw); go_simp <;> (try with_reducible rfl))
 (try simp only [Act.put, List.setIfInBounds_toArray, List.set_cons_zero, List.set_cons_succ])
 refine wpAnyH_take (i := 6) (oi := Oper.mk (some 20) _ _ _ _ _) (v := ?_) rfl (by decide +kernel) (by decide +kernel) (by decide +kernel) (fun _ _ _ h => h) (Or.inl ⟨by rfl, ?_⟩) (by assumption) ?_
 rotate_left
 ·
  (intro w hSw; (try dsimp only at hSw); go_simp <;> (try with_reducible rfl))
 (try simp only [Act.put, List.setIfInBounds_toArray, List.set_cons_zero, List.set_cons_succ])
 refine wpAnyH_take (i := 7) (oi := Oper.mk (some 21) _ _ _ _ _) (v := ?_) rfl (by decide +kernel) (by decide +kernel) (by decide +kernel) (fun _ _ _ h => h) (Or.inl ⟨by rfl, ?_⟩) (by assumption) ?_
 rotate_left
 ·
  (intro w hSw; (try dsimp only at hSw); go_simp <;> (try with_reducible rfl))
 (try simp only [Act.put, List.setIfInBounds_toArray, List.set_cons_zero, List.set_cons_succ])
 refine wpAnyH_take (i := 8) (oi := Oper.mk (some 22) _ _ _ _ _) (v := ?_) rfl (by decide +kernel) (by decide +kernel) (by decide +kernel) (fun _ _ _ h => h) (Or.inl ⟨by rfl, ?_⟩) (by assumption) ?_
 rotate_left
 ·
  (intro w hSw; (try dsimp only at hSw); go_simp <;> (try with_reducible rfl))
 (try simp only [Act.put, List.setIfInBounds_toArray, List.set_cons_zero, List.set_cons_succ])
 refine wpAnyH_take (i := 9) (oi := Oper.mk (some 23) _ _ _ _ _) (v := ?_) rfl (by decide +kernel) (by decide +kernel) (by decide +kernel) (fun _ _ _ h => h) (Or.inl ⟨by rfl, ?_⟩) (by assumption) ?_
 rotate_left
 ·
  (intro w hSw; (try dsimp only at hSw); go_simp <;> (try with_reducible rfl))
 (try simp only [Act.put, List.setIfInBounds_toArray, List.set_cons_zero, List.set_cons_succ])
 refine wpAnyH_take (i := 10) (oi := Oper.mk (some 24) _ _ _ _ _) (v := ?_) rfl (by decide +kernel) (by decide +kernel) (by decide +kernel) (fun _ _ _ h => h) (Or.inl ⟨by rfl, ?_⟩) (by assumption) ?_
 rotate_left
 ·
  (intro w hSw; (try dsimp only at hSw); go_simp <;> (try with_reducible rfl))
 (try simp only [Act.put, List.setIfInBounds_toArray, List.set_cons_zero, List.set_cons_succ])
 refine wpAnyH_take (i := 11) (oi := Oper.mk (some 25) _ _ _ _ _) (v := ?_) rfl (by decide +kernel) (by decide +kernel) (by decide +kernel) (fun _ _ _ h => h) (Or.inl ⟨by rfl, ?_⟩) (by assumption) ?_
 rotate_left
 ·
  (intro w hSw; (try dsimp only at hSw); go_simp <;> (try with_reducible rfl))
 (try simp only [Act.put, List.setIfInBounds_toArray, List.set_cons_zero, List.set_cons_succ])
 refine wpAnyH_take (i := 12) (oi := Oper.mk (some 26) _ _ _ _ _) (v := ?_) rfl (by decide +kernel) (by decide +kernel) (by decide +kernel) (fun _ _ _ h => h) (Or.inl ⟨by rfl, ?_⟩) (by assumption) ?_
 rotate_left
 ·
  (intro w hSw; (try dsimp only at hSw); go_simp <;> (try with_reducible rfl))
 (try simp only [Act.put, List.setIfInBounds_toArray, List.set_cons_zero, List.set_cons_succ])
 refine wpAnyH_take (i := 13) (oi := Oper.mk (some 27) _ _ _ _ _) (v := ?_) rfl (by decide +kernel) (by decide +kernel) (by decide +kernel) (fun _ _ _ h => h) (Or.inl ⟨by rfl, ?_⟩) (by assumption) ?_
 rotate_left
 ·
  (intro w hSw; (try dsimp only at hSw); go_simp <;> (try with_reducible rfl))
 (try simp only [Act.put, List.setIfInBounds_toArray, List.set_cons_zero, List.set_cons_succ])
 refine wpAnyH_take (i := 14) (oi := Oper.mk (some 28) _ _ _ _ _) (v := ?_) rfl (by decide +kernel) (by decide +kernel) (by decide +kernel) (fun _ _ _ h => h) (Or.inl ⟨by rfl, ?_⟩) (by assumption) ?_
 rotate_left
 ·
  (intro w hSw; (try dsimp only at hSw); go_simp <;> (try with_reducible rfl))
 (try simp only [Act.put, List.setIfInBounds_toArray, List.set_cons_zero, List.set_cons_succ])
 refine wpAnyH_take (i := 15) (oi := Oper.mk (some 29) _ _ _ _ _) (v := ?_) rfl (by decide +kernel) (by decide +kernel) (by decide +kernel) (fun _ _ _ h => h) (Or.inl ⟨by rfl, ?_⟩) (by assumption) ?_
 rotate_left
 ·
  (intro w hSw; (try dsimp only at hSw); go_simp <;> (try with_reducible rfl))
 (try simp only [Act.put, List.setIfInBounds_toArray, List.set_cons_zero, List.set_cons_succ])
 refine wpAnyH_take (i := 16) (oi := Oper.mk (some 30) _ _ _ _ _) (v := ?_) rfl (by decide +kernel) (by decide +kernel) (by decide +kernel) (fun _ _ _ h => h) (Or.inl ⟨by rfl, ?_⟩) (by assumption) ?_
 rotate_left
 ·
  (intro w hSw; (try dsimp only at hSw); go_simp <;> (try with_reducible rfl))
 (try simp only [Act.put, List.setIfInBounds_toArray, List.set_cons_zero, List.set_cons_succ])
 refine wpAnyH_take (i := 17) (oi := Oper.mk (some 31) _ _ _ _ _) (v := ?_) rfl (by decide +kernel) (by decide +kernel) (by decide +kernel) (fun _ _ _ h => h) (Or.inl ⟨by rfl, ?_⟩) (by assumption) ?_
 rotate_left
 ·
  (intro w hSw; (try dsimp only at hSw); go_simp <;> (try with_reducible rfl))
 (try simp only [Act.put, List.setIfInBounds_toArray, List.set_cons_zero, List.set_cons_succ])
 refine wpAnyH_ready (rs := [3]) (by decide +kernel) (by simp) ?_
 refine AllReadyH.cons (o := Oper.mk (some 17) _ _ _ _ _) rfl (fun K hK => ?_) AllReadyH.nil
 go_simp
 clear hHeld
 refine hK.out _ _ (by (try dsimp only); exact KS.out _ (Below.refl _ _).drew) (fun hHeld => ?_)
 clear hK K
 (try simp only [Act.put, List.setIfInBounds_toArray, List.set_cons_zero, List.set_cons_succ])
 refine wpAnyH_ready (rs := [18]) (by decide +kernel) (by simp) ?_
 refine AllReadyH.cons (o := Oper.mk (some 32) _ _ _ _ _) rfl (fun K hK => ?_) AllReadyH.nil
 go_simp
 (go_at_call 58; refine (pltimes_any n5 n6 o5 o6 l5 c5 l6 c6 (dig r i) (L ^ ex) _ (HI.out.1.later (Below.refl _ _).drew) (HI.out.2.later (Below.refl _ _).drew) (by omega) (by omega)).mono ?_; rintro e w4 ⟨n7, o7, l7, c7, rfl, hs7, ho7, hb'⟩; have hb4 : Below w.heap.size w w4 := bnext (Below.refl _ _).drew hb'; have H7 : Hid (PS B w4 g gq gd gp (some ⟨bb, off, none⟩) (m + 1) cb k b P r q ∧ IntAt w4 n7 o7 l7 c7 (dig r i * L ^ ex)) := ⟨HP.out.later hb4, ho7.int hs7⟩; clear hs7 ho7 hb'; have hfz := H7.out.1.hr.soft; obtain ⟨m0, p0, k0, d0, ⟨r0, r1'⟩, _⟩ := H7.out.1.hr.coef i HLen.out.1)
 (try go_wp2_with fail)
 clear hHeld
 refine hK.out _ _ (by (try dsimp only); exact KS.out _ hb4) (fun hHeld => ?_)
 clear hK K
 (try simp only [Act.put, List.setIfInBounds_toArray, List.set_cons_zero, List.set_cons_succ])
 refine wpAnyH_take (i := 19) (oi := Oper.mk (some 33) _ _ _ _ _) (v := ?_) rfl (by decide +kernel) (by decide +kernel) (by decide +kernel) (fun _ _ _ h => h) (Or.inl ⟨by rfl, ?_⟩) (by assumption) ?_
 rotate_left
 ·
  (intro w hSw; (try dsimp only at hSw); go_simp <;> (try with_reducible rfl))
 (try simp only [Act.put, List.setIfInBounds_toArray, List.set_cons_zero, List.set_cons_succ])
 refine wpAnyH_ready (rs := [20]) (by decide +kernel) (by simp) ?_
 refine AllReadyH.cons (o := Oper.mk none _ _ _ _ _) rfl (fun K hK => ?_) AllReadyH.nil
 go_simp
 clear hHeld
 refine hK.out _ _ (by (try dsimp only); exact K2.out _ _ _ (K2.out _ _ _ (KS.out _ hb4))) (fun hHeld => ?_)
 clear hK K
 (try simp only [Act.put, List.setIfInBounds_toArray, List.set_cons_zero, List.set_cons_succ])
 refine wpAnyH_done (by decide +kernel) ?_ _
 refine NoPanic.normal ?_
 obtain ⟨V, hV⟩ : ∃ V, V = (w4.setCell ⟨g, i * 2, none⟩ (.bool n7)).setCell ⟨g, i * 2 + 1, none⟩ (.slice o7 l7 c7) := ⟨_, rfl⟩
 rw [← hV]
 have HV : Hid (PS B V g gq gd gp (some ⟨bb, off, none⟩) (m + 1) cb k b P r1 q ∧ Below B w V) := by
  have h1 := H7.out.1.putR HLen.out.1 H7.out.2
  rw [← HV1.out.1, ← hV] at h1
  refine ⟨h1, ?_⟩
  rw [hV]; exact ((hb4.mono HB.out.2.2.2).setCell (p := ⟨g, i * 2, none⟩) HB.out.1 _).setCell (p := ⟨g, i * 2 + 1, none⟩) HB.out.1 _
 clear hV hHeld r0 r1' hfz H7 hb4 q0 q1 KS K2 HI hl5 hl6
 obtain ⟨nT, oT, lT, cT, ⟨q0', q1'⟩, hiT⟩ := HV.out.1.hr.coef (i + m) (by have := HLen.out; omega)
 obtain ⟨q0, q1⟩ : V.cell? ⟨g, i * 2 + m * 2, none⟩ = some (.bool nT) ∧ V.cell? ⟨g, i * 2 + m * 2 + 1, none⟩ = some (.slice oT lT cT) := by rw [show i * 2 + m * 2 = (i + m) * 2 by omega]; exact ⟨q0', q1'⟩
 rw [← HV1.out.2.1] at hiT
 have hlT : lT ≤ 1000000 := by rw [hiT.lim, HV1.out.2.1]; have := HV1.out.2.2.2.2.2.2.1 (i + m); have := HV1.out.2.2.2.2.2.2.2.1; omega
 obtain ⟨rT, hrT⟩ : ∃ r, r = V.heap.size := ⟨_, rfl⟩
 obtain ⟨Y, hY⟩ : ∃ Y, Y = V.alloc (.cells #[.bool nT, .slice oT lT cT] 28) := ⟨_, rfl⟩
 have HY : Hid (PS B Y g gq gd gp (some ⟨bb, off, none⟩) (m + 1) cb k b P r1 q ∧ Below B w Y ∧ rT < Y.heap.size ∧ (Y.cell? ⟨rT, 0, none⟩ = some (.bool nT) ∧ Y.cell? ⟨rT, 1, none⟩ = some (.slice oT lT cT)) ∧ IntAt Y nT oT lT cT top ∧ g < rT ∧ gq < rT ∧ B ≤ rT) := by
  have hb : Below V.heap.size V Y := by rw [hY]; exact (Below.refl _ _).alloc (Nat.le_refl _) _
  have ho := HV.out.1.ord
  refine ⟨HV.out.1.later hb, HV.out.2.trans (hb.mono (by omega)), by rw [hY, hrT]; simp, ?_, hiT.later hb, by omega, by omega, by omega⟩
  rw [hY, hrT]; exact ⟨by simp [go_sem], by simp [go_sem]⟩
 have y0 := (HY.out.1).d0
 have hcb : (m : Int) ≤ (cb : Int) := by have := HY.out.1.hb.hcap; omega
 have zm : (0 : Int) ≤ (m : Int) := by omega
 have zm1 : (m : Int) < (m : Int) + 1 := by omega
 have hd0V := HV.out.1.d0
 have hYd : ∀ z : Nat, z = z := fun z => rfl
 clear q0' q1' hiT
 rw [hY] at y0
 go_wp2
 rw [← hY, ← hrT]
 clear hY hrT y0 hd0V q0 q1 hYd HV
 go_loopw [45] (fun jj wr => ∃ (j : Nat) (l : List Int), j ≤ m ∧ jj = .int .i64 (j : Int) ∧ PS B wr g gq gd gp (some ⟨bb, off, none⟩) (m + 1) cb k b P l q ∧ PdSt r1 b top L i j l ∧ Below B w wr ∧ rT < wr.heap.size ∧ (wr.cell? ⟨rT, 0, none⟩ = some (.bool nT) ∧ wr.cell? ⟨rT, 1, none⟩ = some (.slice oT lT cT)) ∧ IntAt wr nT oT lT cT top) (fun jj _ => m - (intOf jj).toNat)
 case atStart => exact ⟨0, r1, Nat.zero_le _, rfl, HY.out.1, PdSt.start _ _ _ _ _, HY.out.2.1, HY.out.2.2.1, HY.out.2.2.2.1, HY.out.2.2.2.2.1⟩
 case round =>
  obtain ⟨j, lj, hjm, rfl, hps, hst, hbel, hrT, ⟨hc0, hc1⟩, hit⟩ := hrel
  have HT : Hid (PS B wr g gq gd gp (some ⟨bb, off, none⟩) (m + 1) cb k b P lj q ∧ PdSt r1 b top L i j lj ∧ Below B w wr ∧ IntAt wr nT oT lT cT top) := ⟨hps, hst, hbel, hit⟩
  have HRT : Hid (rT < wr.heap.size ∧ (wr.cell? ⟨rT, 0, none⟩ = some (.bool nT) ∧ wr.cell? ⟨rT, 1, none⟩ = some (.slice oT lT cT)) ∧ B ≤ wr.heap.size) := ⟨hrT, ⟨hc0, hc1⟩, by have := hps.ord; omega⟩
  have HNT : Hid (rT ≠ g ∧ rT ≠ gq) := by have := HY.out.2.2.2.2.2; exact ⟨by omega, by omega⟩
  by_cases hlt : j < m
  ·
   obtain ⟨bb', off', nc, oc, lc, cc, he, f0, f1, hic⟩ := hps.hb.at (show j < m + 1 by omega)
   cases he
   obtain ⟨X, hX⟩ : ∃ X, X = wr.alloc (.cells #[.bool nc, .slice oc lc cc] 28) := ⟨_, rfl⟩
   have hXb : Below wr.heap.size wr X := by rw [hX]; exact (Below.refl _ _).alloc (Nat.le_refl _) _
   obtain ⟨rC, hrC⟩ : ∃ r, r = wr.heap.size := ⟨_, rfl⟩
   have HPX : Hid (PS B X g gq gd gp (some ⟨bb, off, none⟩) (m + 1) cb k b P lj q) := hps.later hXb
   have HGX : Hid (g < X.heap.size) := HPX.out.ord.2.2.2.1
   have HBX : Hid (B ≤ X.heap.size) := by have := HPX.out.ord; show B ≤ _; omega
   obtain ⟨n5, o5, l5, c5, ⟨e0, e1⟩, hi5⟩ := HPX.out.hr.coef (i + j) (by rw [hst.1]; have := HLen.out; omega)
   have HRJ : Hid (dig lj (i + j) = dig r1 (i + j)) := hst.at (by have := HLen.out; omega)
   rw [HRJ.out] at hi5
   have HCX : Hid (X.cell? ⟨g, i * 2 + j * 2, none⟩ = some (.bool n5) ∧ X.cell? ⟨g, i * 2 + j * 2 + 1, none⟩ = some (.slice o5 l5 c5)) := by show _ ∧ _; rw [show i * 2 + j * 2 = (i + j) * 2 by omega]; exact ⟨e0, e1⟩
   obtain ⟨x0, x1⟩ := HCX.out
   have HRC : Hid ((X.cell? ⟨rC, 0, none⟩ = some (.bool nc) ∧ X.cell? ⟨rC, 1, none⟩ = some (.slice oc lc cc)) ∧ rC < X.heap.size ∧ rC ≠ g) := by
    have := hps.ord
    rw [hrC, hX]; exact ⟨⟨by simp [go_sem], by simp [go_sem]⟩, by simp, by omega⟩
   have HI2 : Hid (IntAt X n5 o5 l5 c5 (dig r1 (i + j)) ∧ IntAt X nT oT lT cT top ∧ IntAt X nc oc lc cc (dig b j)) := ⟨hi5, hit.later hXb, hic.later hXb⟩
   have hl5 : l5 ≤ 1000000 := by rw [hi5.lim]; have := HV1.out.2.2.2.2.2.2.1 (i + j); have := HV1.out.2.2.2.2.2.2.2.1; omega
   have hlc : lc ≤ 1000 := by rw [hic.lim]; exact HV1.out.2.2.2.2.2.1 j
   have HLM : Hid (lim (dig r1 (i + j) * L) ≤ 2000000 ∧ lim (top * dig b j) ≤ 2000000) := by
    have a1 := lim_mul (dig r1 (i + j)) L
    have a2 := lim_mul top (dig b j)
    have a3 := hi5.lim
    have a4 := hic.lim
    have a5 := hit.lim
    have a6 : lim L ≤ 1000 := by rw [← HV1.out.2.2.1]; exact HV1.out.2.2.2.2.2.1 m
    exact ⟨by omega, by omega⟩
   have KS7 : Hid (∀ w', Below X.heap.size X w' → w'.cell? ⟨gd, 0, none⟩ = some (.slice (some ⟨bb, off, none⟩) (m + 1) cb) ∧ w'.cell? ⟨gd, 1, none⟩ = some (.slice (some ⟨gp, 0, none⟩) k k) ∧ w'.cell? ⟨gd, 2, none⟩ = some (.slice (some ⟨gq, 0, none⟩) k k) ∧ w'.cell? ⟨rT, 0, none⟩ = some (.bool nT) ∧ w'.cell? ⟨rT, 1, none⟩ = some (.slice oT lT cT) ∧ w'.cell? ⟨rC, 0, none⟩ = some (.bool nc) ∧ w'.cell? ⟨rC, 1, none⟩ = some (.slice oc lc cc)) := fun w' hb => by
    have h2 := HPX.out.later hb
    have hrx := Nat.lt_of_lt_of_le HRT.out.1 hXb.size
    exact ⟨h2.d0, h2.d1, h2.d2, (hb.cell (p := ⟨rT, 0, none⟩) hrx).trans ((hXb.cell (p := ⟨rT, 0, none⟩) HRT.out.1).trans HRT.out.2.1.1), (hb.cell (p := ⟨rT, 1, none⟩) hrx).trans ((hXb.cell (p := ⟨rT, 1, none⟩) HRT.out.1).trans HRT.out.2.1.2), (hb.cell (p := ⟨rC, 0, none⟩) HRC.out.2.1).trans HRC.out.1.1, (hb.cell (p := ⟨rC, 1, none⟩) HRC.out.2.1).trans HRC.out.1.2⟩
   have K7 : Hid (∀ (w' : World) (z : Nat) (x : Value), (w'.cell? ⟨gd, 0, none⟩ = some (.slice (some ⟨bb, off, none⟩) (m + 1) cb) ∧ w'.cell? ⟨gd, 1, none⟩ = some (.slice (some ⟨gp, 0, none⟩) k k) ∧ w'.cell? ⟨gd, 2, none⟩ = some (.slice (some ⟨gq, 0, none⟩) k k) ∧ w'.cell? ⟨rT, 0, none⟩ = some (.bool nT) ∧ w'.cell? ⟨rT, 1, none⟩ = some (.slice oT lT cT) ∧ w'.cell? ⟨rC, 0, none⟩ = some (.bool nc) ∧ w'.cell? ⟨rC, 1, none⟩ = some (.slice oc lc cc)) → ((w'.setCell ⟨g, z, none⟩ x).cell? ⟨gd, 0, none⟩ = some (.slice (some ⟨bb, off, none⟩) (m + 1) cb) ∧ (w'.setCell ⟨g, z, none⟩ x).cell? ⟨gd, 1, none⟩ = some (.slice (some ⟨gp, 0, none⟩) k k) ∧ (w'.setCell ⟨g, z, none⟩ x).cell? ⟨gd, 2, none⟩ = some (.slice (some ⟨gq, 0, none⟩) k k) ∧ (w'.setCell ⟨g, z, none⟩ x).cell? ⟨rT, 0, none⟩ = some (.bool nT) ∧ (w'.setCell ⟨g, z, none⟩ x).cell? ⟨rT, 1, none⟩ = some (.slice oT lT cT) ∧ (w'.setCell ⟨g, z, none⟩ x).cell? ⟨rC, 0, none⟩ = some (.bool nc) ∧ (w'.setCell ⟨g, z, none⟩ x).cell? ⟨rC, 1, none⟩ = some (.slice oc lc cc))) := fun w' z x h => ⟨by rw [cell_off HNE.out.1]; exact h.1, by rw [cell_off HNE.out.1]; exact h.2.1, by rw [cell_off HNE.out.1]; exact h.2.2.1, by rw [cell_off HNT.out.1]; exact h.2.2.2.1, by rw [cell_off HNT.out.1]; exact h.2.2.2.2.1, by rw [cell_off HRC.out.2.2]; exact h.2.2.2.2.2.1, by rw [cell_off HRC.out.2.2]; exact h.2.2.2.2.2.2⟩
   have y1 : (0 : Int) ≤ (j : Int) := by omega
   have y2 : (j : Int) < (m : Int) := by omega
   have y3 : (j : Int) < (m : Int) + 1 := by omega
   clear hps hst hbel hit hi5 hic e0 e1 hc0 hc1 hrT
   go_wp2
   rw [← hX, ← hrC]
   clear hX hrC f0 f1
   refine wp_region_noPanic ?_
   refine wp_region_held_drew (S := fun w' => (w'.cell? ⟨gd, 0, none⟩ = some (.slice (some ⟨bb, off, none⟩) (m + 1) cb) ∧ w'.cell? ⟨gd, 1, none⟩ = some (.slice (some ⟨gp, 0, none⟩) k k) ∧ w'.cell? ⟨gd, 2, none⟩ = some (.slice (some ⟨gq, 0, none⟩) k k) ∧ w'.cell? ⟨rT, 0, none⟩ = some (.bool nT) ∧ w'.cell? ⟨rT, 1, none⟩ = some (.slice oT lT cT) ∧ w'.cell? ⟨rC, 0, none⟩ = some (.bool nc) ∧ w'.cell? ⟨rC, 1, none⟩ = some (.slice oc lc cc))) (by kernel_rfl) (by (try dsimp only); exact KS7.out _ (Below.refl _ _).drew) (fun hHeld => ?_)
   refine wpAnyH_take (i := 0) (oi := Oper.mk (some 50) _ _ _ _ _) (v := ?_) rfl (by decide +kernel) (by decide +kernel) (by decide +kernel) (fun _ _ _ h => h) (Or.inl ⟨by rfl, ?_⟩) (by assumption) ?_
   rotate_left
   ·
    (intro w hSw; (try dsimp only at hSw); go_simp <;> (try with_reducible rfl))
   (try simp only [Act.put, List.setIfInBounds_toArray, List.set_cons_zero, List.set_cons_succ])
   refine wpAnyH_take (i := 1) (oi := Oper.mk (some 51) _ _ _ _ _) (v := ?_) rfl (by decide +kernel) (by decide +kernel) (by decide +kernel) (fun _ _ _ h => h) (Or.inl ⟨by rfl, ?_⟩) (by assumption) ?_
   rotate_left
   ·
    (intro w hSw; (try dsimp only at hSw); go_simp <;> (try with_reducible rfl))
   (try simp only [Act.put, List.setIfInBounds_toArray, List.set_cons_zero, List.set_cons_succ])
   refine wpAnyH_take (i := 2) (oi := Oper.mk (some 52) _ _ _ _ _) (v := ?_) rfl (by decide +kernel) (by decide +kernel) (by decide +kernel) (fun _ _ _ h => h) (Or.inl ⟨by rfl, ?_⟩) (by assumption) ?_
   rotate_left
   ·
    (intro w hSw; (try dsimp only at hSw); go_simp <;> (try with_reducible rfl))
   (try simp only [Act.put, List.setIfInBounds_toArray, List.set_cons_zero, List.set_cons_succ])
   refine wpAnyH_take (i := 3) (oi := Oper.mk (some 53) _ _ _ _ _) (v := ?_) rfl (by decide +kernel) (by decide +kernel) (by decide +kernel) (fun _ _ _ h => h) (Or.inl ⟨by rfl, ?_⟩) (by assumption) ?_
   rotate_left
   ·
    (intro w hSw; (try dsimp only at hSw); go_simp <;> (try with_reducible rfl))
   (try simp only [Act.put, List.setIfInBounds_toArray, List.set_cons_zero, List.set_cons_succ])
   refine wpAnyH_take (i := 4) (oi := Oper.mk (some 54) _ _ _ _ _) (v := ?_) rfl (by decide +kernel) (by decide +kernel) (by decide +kernel) (fun _ _ _ h => h) (Or.inl ⟨by rfl, ?_⟩) (by assumption) ?_
   rotate_left
   ·
    (intro w hSw; (try dsimp only at hSw); go_simp <;> (try with_reducible rfl))
   (try simp only [Act.put, List.setIfInBounds_toArray, List.set_cons_zero, List.set_cons_succ])
   refine wpAnyH_take (i := 6) (oi := Oper.mk (some 56) _ _ _ _ _) (v := ?_) rfl (by decide +kernel) (by decide +kernel) (by decide +kernel) (fun _ _ _ h => h) (Or.inl ⟨by rfl, ?_⟩) (by assumption) ?_
   rotate_left
   ·
    (intro w hSw; (try dsimp only at hSw); go_simp <;> (try with_reducible rfl))
   (try simp only [Act.put, List.setIfInBounds_toArray, List.set_cons_zero, List.set_cons_succ])
   refine wpAnyH_take (i := 7) (oi := Oper.mk (some 57) _ _ _ _ _) (v := ?_) rfl (by decide +kernel) (by decide +kernel) (by decide +kernel) (fun _ _ _ h => h) (Or.inl ⟨by rfl, ?_⟩) (by assumption) ?_
   rotate_left
   ·
    (intro w hSw; (try dsimp only at hSw); go_simp <;> (try with_reducible rfl))
   (try simp only [Act.put, List.setIfInBounds_toArray, List.set_cons_zero, List.set_cons_succ])
   refine wpAnyH_take (i := 8) (oi := Oper.mk (some 58) _ _ _ _ _) (v := ?_) rfl (by decide +kernel) (by decide +kernel) (by decide +kernel) (fun _ _ _ h => h) (Or.inl ⟨by rfl, ?_⟩) (by assumption) ?_
   rotate_left
   ·
    (intro w hSw; (try dsimp only at hSw); go_simp <;> (try with_reducible rfl))
   (try simp only [Act.put, List.setIfInBounds_toArray, List.set_cons_zero, List.set_cons_succ])
   refine wpAnyH_take (i := 9) (oi := Oper.mk (some 59) _ _ _ _ _) (v := ?_) rfl (by decide +kernel) (by decide +kernel) (by decide +kernel) (fun _ _ _ h => h) (Or.inl ⟨by rfl, ?_⟩) (by assumption) ?_
   rotate_left
   ·
    (intro w hSw; (try dsimp only at hSw); go_simp <;> (try with_reducible rfl))
   (try simp only [Act.put, List.setIfInBounds_toArray, List.set_cons_zero, List.set_cons_succ])
   refine wpAnyH_take (i := 12) (oi := Oper.mk (some 62) _ _ _ _ _) (v := ?_) rfl (by decide +kernel) (by decide +kernel) (by decide +kernel) (fun _ _ _ h => h) (Or.inl ⟨by rfl, ?_⟩) (by assumption) ?_
   rotate_left
   ·
    (intro w hSw; (try dsimp only at hSw); go_simp <;> (try with_reducible rfl))
   (try simp only [Act.put, List.setIfInBounds_toArray, List.set_cons_zero, List.set_cons_succ])
   refine wpAnyH_take (i := 13) (oi := Oper.mk (some 63) _ _ _ _ _) (v := ?_) rfl (by decide +kernel) (by decide +kernel) (by decide +kernel) (fun _ _ _ h => h) (Or.inl ⟨by rfl, ?_⟩) (by assumption) ?_
   rotate_left
   ·
    (intro w hSw; (try dsimp only at hSw); go_simp <;> (try with_reducible rfl))
   (try simp only [Act.put, List.setIfInBounds_toArray, List.set_cons_zero, List.set_cons_succ])
   refine wpAnyH_ready (rs := [5, 10]) (by decide +kernel) (by simp) ?_
   refine AllReadyH.cons (o := Oper.mk (some 55) _ _ _ _ _) rfl (fun K hK => ?_) (AllReadyH.cons (o := Oper.mk (some 60) _ _ _ _ _) rfl (fun K hK => ?_) AllReadyH.nil)
   ·
    go_simp
    clear hHeld
    refine hK.out _ _ (by (try dsimp only); exact KS7.out _ (Below.refl _ _).drew) (fun hHeld => ?_)
    clear hK K
    (try simp only [Act.put, List.setIfInBounds_toArray, List.set_cons_zero, List.set_cons_succ])
    refine wpAnyH_ready (rs := [10]) (by decide +kernel) (by simp) ?_
    refine AllReadyH.cons (o := Oper.mk (some 60) _ _ _ _ _) rfl (fun K hK => ?_) AllReadyH.nil
    go_simp
    (go_at_call 70; refine (pllead0_any (some ⟨bb, off, none⟩) m cb b _ (HPX.out.later (Below.refl _ _).drew).hb (by omega)).mono ?_; rintro e w4 ⟨n4, o4, l4, c4, rfl, hi4, hb'⟩; rw [HV1.out.2.2.1] at hi4; have hb4 : Below X.heap.size X w4 := bnext (Below.refl _ _).drew hb'; have H4 : Hid (IntAt w4 n4 o4 l4 c4 L) := hi4; have hl4 : l4 ≤ 1000 := (by rw [hi4.lim, ← HV1.out.2.2.1]; exact HV1.out.2.2.2.2.2.1 m); clear hi4 hb'; obtain ⟨t0, t1⟩ : w4.cell? ⟨g, i * 2 + j * 2, none⟩ = some (.bool n5) ∧ w4.cell? ⟨g, i * 2 + j * 2 + 1, none⟩ = some (.slice o5 l5 c5) := ⟨(hb4.cell (p := ⟨g, i * 2 + j * 2, none⟩) HGX.out).trans HCX.out.1, (hb4.cell (p := ⟨g, i * 2 + j * 2 + 1, none⟩) HGX.out).trans HCX.out.2⟩)
    (try go_wp2_with fail)
    clear hHeld
    refine hK.out _ _ (by (try dsimp only); exact KS7.out _ hb4) (fun hHeld => ?_)
    clear hK K
    (try simp only [Act.put, List.setIfInBounds_toArray, List.set_cons_zero, List.set_cons_succ])
    refine wpAnyH_ready (rs := [11]) (by decide +kernel) (by simp) ?_
    refine AllReadyH.cons (o := Oper.mk (some 61) _ _ _ _ _) rfl (fun K hK => ?_) AllReadyH.nil
    go_simp
    (go_at_call 58; (fail_if_success (have _g := hb5)); refine (pltimes_any n5 n4 o5 o4 l5 c5 l4 c4 (dig r1 (i + j)) L _ (HI2.out.1.later hb4) H4.out (by omega) (by omega)).mono ?_; rintro e w5 ⟨n7, o7, l7, c7, rfl, hs7, ho7, hb'⟩; have hb5 : Below X.heap.size X w5 := bnext hb4 hb'; have H7' : Hid (IntAt w5 n7 o7 l7 c7 (dig r1 (i + j) * L)) := ho7.int hs7; have hl7 : l7 ≤ 2000000 := (by rw [H7'.out.lim]; exact HLM.out.1); clear hs7 ho7 hb' t0 t1)
    (try go_wp2_with fail)
    clear hHeld
    refine hK.out _ _ (by (try dsimp only); exact KS7.out _ hb5) (fun hHeld => ?_)
    clear hK K
    (try simp only [Act.put, List.setIfInBounds_toArray, List.set_cons_zero, List.set_cons_succ])
    refine wpAnyH_ready (rs := [14]) (by decide +kernel) (by simp) ?_
    refine AllReadyH.cons (o := Oper.mk (some 64) _ _ _ _ _) rfl (fun K hK => ?_) AllReadyH.nil
    go_simp
    (go_at_call 58; have _g := hb5; refine (pltimes_any nT nc oT oc lT cT lc cc top (dig b j) _ (HI2.out.2.1.later hb5) (HI2.out.2.2.later hb5) (by omega) (by omega)).mono ?_; rintro e w6 ⟨n8, o8, l8, c8, rfl, hs8, ho8, hb'⟩; have hb6 : Below X.heap.size X w6 := bnext hb5 hb'; have H8 : Hid (IntAt w6 n8 o8 l8 c8 (top * dig b j) ∧ IntAt w6 n7 o7 l7 c7 (dig r1 (i + j) * L)) := ⟨ho8.int hs8, H7'.out.later hb'⟩; have hl8 : l8 ≤ 2000000 := (by rw [H8.out.1.lim]; exact HLM.out.2); clear hs8 ho8 hb')
    (try go_wp2_with fail)
    clear hHeld
    refine hK.out _ _ (by (try dsimp only); exact KS7.out _ hb6) (fun hHeld => ?_)
    clear hK K
    (try simp only [Act.put, List.setIfInBounds_toArray, List.set_cons_zero, List.set_cons_succ])
    refine wpAnyH_ready (rs := [15]) (by decide +kernel) (by simp) ?_
    refine AllReadyH.cons (o := Oper.mk (some 65) _ _ _ _ _) rfl (fun K hK => ?_) AllReadyH.nil
    go_simp
    (go_at_call 89; refine (plminus_any n7 n8 o7 o8 l7 c7 l8 c8 (dig r1 (i + j) * L) (top * dig b j) _ H8.out.2 H8.out.1 (by omega) (by omega)).mono ?_; rintro e w7 ⟨n9, o9, l9, c9, rfl, hs9, ho9, hb'⟩; have hb7 : Below X.heap.size X w7 := bnext hb6 hb'; have H9 : Hid (IntAt w7 n9 o9 l9 c9 (dig r1 (i + j) * L - top * dig b j)) := ho9.int hs9; clear hs9 ho9 hb'; have hfz := (HPX.out.later hb7).hr.soft; obtain ⟨t0, t1⟩ : w7.cell? ⟨g, i * 2 + j * 2, none⟩ = some (.bool n5) ∧ w7.cell? ⟨g, i * 2 + j * 2 + 1, none⟩ = some (.slice o5 l5 c5) := ⟨(hb7.cell (p := ⟨g, i * 2 + j * 2, none⟩) HGX.out).trans HCX.out.1, (hb7.cell (p := ⟨g, i * 2 + j * 2 + 1, none⟩) HGX.out).trans HCX.out.2⟩)
    (try go_wp2_with fail)
    clear hHeld
    refine hK.out _ _ (by (try dsimp only); exact KS7.out _ hb7) (fun hHeld => ?_)
    clear hK K
    (try simp only [Act.put, List.setIfInBounds_toArray, List.set_cons_zero, List.set_cons_succ])
    refine wpAnyH_take (i := 16) (oi := Oper.mk (some 66) _ _ _ _ _) (v := ?_) rfl (by decide +kernel) (by decide +kernel) (by decide +kernel) (fun _ _ _ h => h) (Or.inl ⟨by rfl, ?_⟩) (by assumption) ?_
    rotate_left
    ·
     (intro w hSw; (try dsimp only at hSw); go_simp <;> (try with_reducible rfl))
    (try simp only [Act.put, List.setIfInBounds_toArray, List.set_cons_zero, List.set_cons_succ])
    refine wpAnyH_ready (rs := [17]) (by decide +kernel) (by simp) ?_
    refine AllReadyH.cons (o := Oper.mk none _ _ _ _ _) rfl (fun K hK => ?_) AllReadyH.nil
    go_simp
    clear hHeld
    refine hK.out _ _ (by (try dsimp only); exact K7.out _ _ _ (K7.out _ _ _ (KS7.out _ hb7))) (fun hHeld => ?_)
    clear hK K
    (try simp only [Act.put, List.setIfInBounds_toArray, List.set_cons_zero, List.set_cons_succ])
    refine wpAnyH_done (by decide +kernel) ?_ _
    refine NoPanic.normal ?_
    go_wp2
    go_roundw
    case rel =>
     refine ⟨j + 1, lj.set (i + j) (dig lj (i + j) * L - top * dig b j), by omega, by go_num, ?_, HT.out.2.1.step (by have := HLen.out; omega), ((HT.out.2.2.1.trans (hXb.mono HRT.out.2.2)).trans (hb7.mono HBX.out)).setCell (p := ⟨g, i * 2 + j * 2, none⟩) HB.out.1 _ |>.setCell (p := ⟨g, i * 2 + j * 2 + 1, none⟩) HB.out.1 _, by (have := hb7.size; have := hXb.size; have := HRT.out.1; simp; omega), ?_, ?_⟩
     ·
      have h9 := H9.out
      rw [← HRJ.out] at h9
      have h := (HPX.out.later hb7).putR (t := i + j) (by rw [HT.out.2.1.1]; have := HLen.out; omega) h9
      rw [show (i + j) * 2 = i * 2 + j * 2 by omega] at h
      exact h
     ·
      exact ⟨by rw [cell_off HNT.out.1, cell_off HNT.out.1]; exact (KS7.out _ hb7).2.2.2.1, by rw [cell_off HNT.out.1, cell_off HNT.out.1]; exact (KS7.out _ hb7).2.2.2.2.1⟩
     ·
      exact ((HI2.out.2.1.later hb7).cellKept t0 (fun z e => by cases e) _).cellKept (u := .slice o5 l5 c5) (by simp [go_sem, t0, t1]) (fun z e => by cases e) _
    case measure => simp [intOf]; omega
   ·
    go_simp
    (go_at_call 70; refine (pllead0_any (some ⟨bb, off, none⟩) m cb b _ (HPX.out.later (Below.refl _ _).drew).hb (by omega)).mono ?_; rintro e w4 ⟨n4, o4, l4, c4, rfl, hi4, hb'⟩; rw [HV1.out.2.2.1] at hi4; have hb4 : Below X.heap.size X w4 := bnext (Below.refl _ _).drew hb'; have H4 : Hid (IntAt w4 n4 o4 l4 c4 L) := hi4; have hl4 : l4 ≤ 1000 := (by rw [hi4.lim, ← HV1.out.2.2.1]; exact HV1.out.2.2.2.2.2.1 m); clear hi4 hb'; obtain ⟨t0, t1⟩ : w4.cell? ⟨g, i * 2 + j * 2, none⟩ = some (.bool n5) ∧ w4.cell? ⟨g, i * 2 + j * 2 + 1, none⟩ = some (.slice o5 l5 c5) := ⟨(hb4.cell (p := ⟨g, i * 2 + j * 2, none⟩) HGX.out).trans HCX.out.1, (hb4.cell (p := ⟨g, i * 2 + j * 2 + 1, none⟩) HGX.out).trans HCX.out.2⟩)
    (try go_wp2_with fail)
    clear hHeld
    refine hK.out _ _ (by (try dsimp only); exact KS7.out _ hb4) (fun hHeld => ?_)
    clear hK K
    (try simp only [Act.put, List.setIfInBounds_toArray, List.set_cons_zero, List.set_cons_succ])
    refine wpAnyH_ready (rs := [5]) (by decide +kernel) (by simp) ?_
    refine AllReadyH.cons (o := Oper.mk (some 55) _ _ _ _ _) rfl (fun K hK => ?_) AllReadyH.nil
    go_simp
    clear hHeld
    refine hK.out _ _ (by (try dsimp only); exact KS7.out _ hb4) (fun hHeld => ?_)
    clear hK K
    (try simp only [Act.put, List.setIfInBounds_toArray, List.set_cons_zero, List.set_cons_succ])
    refine wpAnyH_ready (rs := [11]) (by decide +kernel) (by simp) ?_
    refine AllReadyH.cons (o := Oper.mk (some 61) _ _ _ _ _) rfl (fun K hK => ?_) AllReadyH.nil
    go_simp
    (go_at_call 58; (fail_if_success (have _g := hb5)); refine (pltimes_any n5 n4 o5 o4 l5 c5 l4 c4 (dig r1 (i + j)) L _ (HI2.out.1.later hb4) H4.out (by omega) (by omega)).mono ?_; rintro e w5 ⟨n7, o7, l7, c7, rfl, hs7, ho7, hb'⟩; have hb5 : Below X.heap.size X w5 := bnext hb4 hb'; have H7' : Hid (IntAt w5 n7 o7 l7 c7 (dig r1 (i + j) * L)) := ho7.int hs7; have hl7 : l7 ≤ 2000000 := (by rw [H7'.out.lim]; exact HLM.out.1); clear hs7 ho7 hb' t0 t1)
    (try go_wp2_with fail)
    clear hHeld
    refine hK.out _ _ (by (try dsimp only); exact KS7.out _ hb5) (fun hHeld => ?_)
    clear hK K
    (try simp only [Act.put, List.setIfInBounds_toArray, List.set_cons_zero, List.set_cons_succ])
    refine wpAnyH_ready (rs := [14]) (by decide +kernel) (by simp) ?_
    refine AllReadyH.cons (o := Oper.mk (some 64) _ _ _ _ _) rfl (fun K hK => ?_) AllReadyH.nil
    go_simp
    (go_at_call 58; have _g := hb5; refine (pltimes_any nT nc oT oc lT cT lc cc top (dig b j) _ (HI2.out.2.1.later hb5) (HI2.out.2.2.later hb5) (by omega) (by omega)).mono ?_; rintro e w6 ⟨n8, o8, l8, c8, rfl, hs8, ho8, hb'⟩; have hb6 : Below X.heap.size X w6 := bnext hb5 hb'; have H8 : Hid (IntAt w6 n8 o8 l8 c8 (top * dig b j) ∧ IntAt w6 n7 o7 l7 c7 (dig r1 (i + j) * L)) := ⟨ho8.int hs8, H7'.out.later hb'⟩; have hl8 : l8 ≤ 2000000 := (by rw [H8.out.1.lim]; exact HLM.out.2); clear hs8 ho8 hb')
    (try go_wp2_with fail)
    clear hHeld
    refine hK.out _ _ (by (try dsimp only); exact KS7.out _ hb6) (fun hHeld => ?_)
    clear hK K
    (try simp only [Act.put, List.setIfInBounds_toArray, List.set_cons_zero, List.set_cons_succ])
    refine wpAnyH_ready (rs := [15]) (by decide +kernel) (by simp) ?_
    refine AllReadyH.cons (o := Oper.mk (some 65) _ _ _ _ _) rfl (fun K hK => ?_) AllReadyH.nil
    go_simp
    (go_at_call 89; refine (plminus_any n7 n8 o7 o8 l7 c7 l8 c8 (dig r1 (i + j) * L) (top * dig b j) _ H8.out.2 H8.out.1 (by omega) (by omega)).mono ?_; rintro e w7 ⟨n9, o9, l9, c9, rfl, hs9, ho9, hb'⟩; have hb7 : Below X.heap.size X w7 := bnext hb6 hb'; have H9 : Hid (IntAt w7 n9 o9 l9 c9 (dig r1 (i + j) * L - top * dig b j)) := ho9.int hs9; clear hs9 ho9 hb'; have hfz := (HPX.out.later hb7).hr.soft; obtain ⟨t0, t1⟩ : w7.cell? ⟨g, i * 2 + j * 2, none⟩ = some (.bool n5) ∧ w7.cell? ⟨g, i * 2 + j * 2 + 1, none⟩ = some (.slice o5 l5 c5) := ⟨(hb7.cell (p := ⟨g, i * 2 + j * 2, none⟩) HGX.out).trans HCX.out.1, (hb7.cell (p := ⟨g, i * 2 + j * 2 + 1, none⟩) HGX.out).trans HCX.out.2⟩)
    (try go_wp2_with fail)
    clear hHeld
    refine hK.out _ _ (by (try dsimp only); exact KS7.out _ hb7) (fun hHeld => ?_)
    clear hK K
    (try simp only [Act.put, List.setIfInBounds_toArray, List.set_cons_zero, List.set_cons_succ])
    refine wpAnyH_take (i := 16) (oi := Oper.mk (some 66) _ _ _ _ _) (v := ?_) rfl (by decide +kernel) (by decide +kernel) (by decide +kernel) (fun _ _ _ h => h) (Or.inl ⟨by rfl, ?_⟩) (by assumption) ?_
    rotate_left
    ·
     (intro w hSw; (try dsimp only at hSw); go_simp <;> (try with_reducible rfl))
    (try simp only [Act.put, List.setIfInBounds_toArray, List.set_cons_zero, List.set_cons_succ])
    refine wpAnyH_ready (rs := [17]) (by decide +kernel) (by simp) ?_
    refine AllReadyH.cons (o := Oper.mk none _ _ _ _ _) rfl (fun K hK => ?_) AllReadyH.nil
    go_simp
    clear hHeld
    refine hK.out _ _ (by (try dsimp only); exact K7.out _ _ _ (K7.out _ _ _ (KS7.out _ hb7))) (fun hHeld => ?_)
    clear hK K
    (try simp only [Act.put, List.setIfInBounds_toArray, List.set_cons_zero, List.set_cons_succ])
    refine wpAnyH_done (by decide +kernel) ?_ _
    refine NoPanic.normal ?_
    go_wp2
    go_roundw
    case rel =>
     refine ⟨j + 1, lj.set (i + j) (dig lj (i + j) * L - top * dig b j), by omega, by go_num, ?_, HT.out.2.1.step (by have := HLen.out; omega), ((HT.out.2.2.1.trans (hXb.mono HRT.out.2.2)).trans (hb7.mono HBX.out)).setCell (p := ⟨g, i * 2 + j * 2, none⟩) HB.out.1 _ |>.setCell (p := ⟨g, i * 2 + j * 2 + 1, none⟩) HB.out.1 _, by (have := hb7.size; have := hXb.size; have := HRT.out.1; simp; omega), ?_, ?_⟩
     ·
      have h9 := H9.out
      rw [← HRJ.out] at h9
      have h := (HPX.out.later hb7).putR (t := i + j) (by rw [HT.out.2.1.1]; have := HLen.out; omega) h9
      rw [show (i + j) * 2 = i * 2 + j * 2 by omega] at h
      exact h
     ·
      exact ⟨by rw [cell_off HNT.out.1, cell_off HNT.out.1]; exact (KS7.out _ hb7).2.2.2.1, by rw [cell_off HNT.out.1, cell_off HNT.out.1]; exact (KS7.out _ hb7).2.2.2.2.1⟩
     ·
      exact ((HI2.out.2.1.later hb7).cellKept t0 (fun z e => by cases e) _).cellKept (u := .slice o5 l5 c5) (by simp [go_sem, t0, t1]) (fun z e => by cases e) _
    case measure => simp [intOf]; omega
  ·
   obtain rfl : m = j := by omega
   obtain ⟨gp', off', n3, o3, l3, c3, he, f0, f1, hi3⟩ := hps.hP.at hi
   cases he
   rw [Nat.zero_add] at f0 f1
   rw [HV1.out.2.2.2.1 i hi] at hi3
   have HI9 : Hid (IntAt wr nT oT lT cT top ∧ IntAt wr n3 o3 l3 c3 (L ^ i)) := ⟨hit, hi3⟩
   have hl3 : l3 ≤ 100000 := by rw [hi3.lim, ← HV1.out.2.2.2.1 i hi]; exact HPL.out i
   have KS9 : Hid (∀ w', Below wr.heap.size wr w' → w'.cell? ⟨gd, 0, none⟩ = some (.slice (some ⟨bb, off, none⟩) (m + 1) cb) ∧ w'.cell? ⟨gd, 1, none⟩ = some (.slice (some ⟨gp, 0, none⟩) k k) ∧ w'.cell? ⟨gd, 2, none⟩ = some (.slice (some ⟨gq, 0, none⟩) k k) ∧ w'.cell? ⟨rT, 0, none⟩ = some (.bool nT) ∧ w'.cell? ⟨rT, 1, none⟩ = some (.slice oT lT cT) ∧ w'.cell? ⟨gp, i * 2, none⟩ = some (.bool n3) ∧ w'.cell? ⟨gp, i * 2 + 1, none⟩ = some (.slice o3 l3 c3)) := fun w' hb => by
    have h2 := HT.out.1.later hb
    exact ⟨h2.d0, h2.d1, h2.d2, (hb.cell (p := ⟨rT, 0, none⟩) HRT.out.1).trans HRT.out.2.1.1, (hb.cell (p := ⟨rT, 1, none⟩) HRT.out.1).trans HRT.out.2.1.2, (hb.cell (p := ⟨gp, i * 2, none⟩) (cell_lt f0)).trans f0, (hb.cell (p := ⟨gp, i * 2 + 1, none⟩) (cell_lt f1)).trans f1⟩
   have K9 : Hid (∀ (w' : World) (z : Nat) (x : Value), (w'.cell? ⟨gd, 0, none⟩ = some (.slice (some ⟨bb, off, none⟩) (m + 1) cb) ∧ w'.cell? ⟨gd, 1, none⟩ = some (.slice (some ⟨gp, 0, none⟩) k k) ∧ w'.cell? ⟨gd, 2, none⟩ = some (.slice (some ⟨gq, 0, none⟩) k k) ∧ w'.cell? ⟨rT, 0, none⟩ = some (.bool nT) ∧ w'.cell? ⟨rT, 1, none⟩ = some (.slice oT lT cT) ∧ w'.cell? ⟨gp, i * 2, none⟩ = some (.bool n3) ∧ w'.cell? ⟨gp, i * 2 + 1, none⟩ = some (.slice o3 l3 c3)) → ((w'.setCell ⟨gq, z, none⟩ x).cell? ⟨gd, 0, none⟩ = some (.slice (some ⟨bb, off, none⟩) (m + 1) cb) ∧ (w'.setCell ⟨gq, z, none⟩ x).cell? ⟨gd, 1, none⟩ = some (.slice (some ⟨gp, 0, none⟩) k k) ∧ (w'.setCell ⟨gq, z, none⟩ x).cell? ⟨gd, 2, none⟩ = some (.slice (some ⟨gq, 0, none⟩) k k) ∧ (w'.setCell ⟨gq, z, none⟩ x).cell? ⟨rT, 0, none⟩ = some (.bool nT) ∧ (w'.setCell ⟨gq, z, none⟩ x).cell? ⟨rT, 1, none⟩ = some (.slice oT lT cT) ∧ (w'.setCell ⟨gq, z, none⟩ x).cell? ⟨gp, i * 2, none⟩ = some (.bool n3) ∧ (w'.setCell ⟨gq, z, none⟩ x).cell? ⟨gp, i * 2 + 1, none⟩ = some (.slice o3 l3 c3))) := fun w' z x h => ⟨by rw [cell_off HNE.out.2.2.1]; exact h.1, by rw [cell_off HNE.out.2.2.1]; exact h.2.1, by rw [cell_off HNE.out.2.2.1]; exact h.2.2.1, by rw [cell_off HNT.out.2]; exact h.2.2.2.1, by rw [cell_off HNT.out.2]; exact h.2.2.2.2.1, by rw [cell_off HNE.out.2.2.2]; exact h.2.2.2.2.2.1, by rw [cell_off HNE.out.2.2.2]; exact h.2.2.2.2.2.2⟩
   have y1 : (0 : Int) ≤ (i : Int) := by omega
   have y2 : (i : Int) < (k : Int) := by omega
   clear hps hst hbel hit hi3 f0 f1 hc0 hc1 hrT
   go_wp2
   refine wp_region_noPanic ?_
   refine wp_region_held_drew (S := fun w' => (w'.cell? ⟨gd, 0, none⟩ = some (.slice (some ⟨bb, off, none⟩) (m + 1) cb) ∧ w'.cell? ⟨gd, 1, none⟩ = some (.slice (some ⟨gp, 0, none⟩) k k) ∧ w'.cell? ⟨gd, 2, none⟩ = some (.slice (some ⟨gq, 0, none⟩) k k) ∧ w'.cell? ⟨rT, 0, none⟩ = some (.bool nT) ∧ w'.cell? ⟨rT, 1, none⟩ = some (.slice oT lT cT) ∧ w'.cell? ⟨gp, i * 2, none⟩ = some (.bool n3) ∧ w'.cell? ⟨gp, i * 2 + 1, none⟩ = some (.slice o3 l3 c3))) (by kernel_rfl) (by (try dsimp only); exact KS9.out _ (Below.refl _ _).drew) (fun hHeld => ?_)
   refine wpAnyH_take (i := 0) (oi := Oper.mk (some 68) _ _ _ _ _) (v := ?_) rfl (by decide +kernel) (by decide +kernel) (by decide +kernel) (fun _ _ _ h => h) (Or.inl ⟨by rfl, ?_⟩) (by assumption) ?_
   rotate_left
   ·
    (intro w hSw; (try dsimp only at hSw); go_simp <;> (try with_reducible rfl))
   (try simp only [Act.put, List.setIfInBounds_toArray, List.set_cons_zero, List.set_cons_succ])
   refine wpAnyH_take (i := 1) (oi := Oper.mk (some 69) _ _ _ _ _) (v := ?_) rfl (by decide +kernel) (by decide +kernel) (by decide +kernel) (fun _ _ _ h => h) (Or.inl ⟨by rfl, ?_⟩) (by assumption) ?_
   rotate_left
   ·
    (intro w hSw; (try dsimp only at hSw); go_simp <;> (try with_reducible rfl))
   (try simp only [Act.put, List.setIfInBounds_toArray, List.set_cons_zero, List.set_cons_succ])
   refine wpAnyH_take (i := 2) (oi := Oper.mk (some 70) _ _ _ _ _) (v := ?_) rfl (by decide +kernel) (by decide +kernel) (by decide +kernel) (fun _ _ _ h => h) (Or.inl ⟨by rfl, ?_⟩) (by assumption) ?_
   rotate_left
   ·
    (intro w hSw; (try dsimp only at hSw); go_simp <;> (try with_reducible rfl))
   (try simp only [Act.put, List.setIfInBounds_toArray, List.set_cons_zero, List.set_cons_succ])
   refine wpAnyH_take (i := 3) (oi := Oper.mk (some 71) _ _ _ _ _) (v := ?_) rfl (by decide +kernel) (by decide +kernel) (by decide +kernel) (fun _ _ _ h => h) (Or.inl ⟨by rfl, ?_⟩) (by assumption) ?_
   rotate_left
   ·
    (intro w hSw; (try dsimp only at hSw); go_simp <;> (try with_reducible rfl))
   (try simp only [Act.put, List.setIfInBounds_toArray, List.set_cons_zero, List.set_cons_succ])
   refine wpAnyH_take (i := 4) (oi := Oper.mk (some 72) _ _ _ _ _) (v := ?_) rfl (by decide +kernel) (by decide +kernel) (by decide +kernel) (fun _ _ _ h => h) (Or.inl ⟨by rfl, ?_⟩) (by assumption) ?_
   rotate_left
   ·
    (intro w hSw; (try dsimp only at hSw); go_simp <;> (try with_reducible rfl))
   (try simp only [Act.put, List.setIfInBounds_toArray, List.set_cons_zero, List.set_cons_succ])
   refine wpAnyH_take (i := 5) (oi := Oper.mk (some 73) _ _ _ _ _) (v := ?_) rfl (by decide +kernel) (by decide +kernel) (by decide +kernel) (fun _ _ _ h => h) (Or.inl ⟨by rfl, ?_⟩) (by assumption) ?_
   rotate_left
   ·
    (intro w hSw; (try dsimp only at hSw); go_simp <;> (try with_reducible rfl))
   (try simp only [Act.put, List.setIfInBounds_toArray, List.set_cons_zero, List.set_cons_succ])
   refine wpAnyH_take (i := 6) (oi := Oper.mk (some 74) _ _ _ _ _) (v := ?_) rfl (by decide +kernel) (by decide +kernel) (by decide +kernel) (fun _ _ _ h => h) (Or.inl ⟨by rfl, ?_⟩) (by assumption) ?_
   rotate_left
   ·
    (intro w hSw; (try dsimp only at hSw); go_simp <;> (try with_reducible rfl))
   (try simp only [Act.put, List.setIfInBounds_toArray, List.set_cons_zero, List.set_cons_succ])
   refine wpAnyH_take (i := 7) (oi := Oper.mk (some 75) _ _ _ _ _) (v := ?_) rfl (by decide +kernel) (by decide +kernel) (by decide +kernel) (fun _ _ _ h => h) (Or.inl ⟨by rfl, ?_⟩) (by assumption) ?_
   rotate_left
   ·
    (intro w hSw; (try dsimp only at hSw); go_simp <;> (try with_reducible rfl))
   (try simp only [Act.put, List.setIfInBounds_toArray, List.set_cons_zero, List.set_cons_succ])
   refine wpAnyH_take (i := 8) (oi := Oper.mk (some 76) _ _ _ _ _) (v := ?_) rfl (by decide +kernel) (by decide +kernel) (by decide +kernel) (fun _ _ _ h => h) (Or.inl ⟨by rfl, ?_⟩) (by assumption) ?_
   rotate_left
   ·
    (intro w hSw; (try dsimp only at hSw); go_simp <;> (try with_reducible rfl))
   (try simp only [Act.put, List.setIfInBounds_toArray, List.set_cons_zero, List.set_cons_succ])
   refine wpAnyH_take (i := 9) (oi := Oper.mk (some 77) _ _ _ _ _) (v := ?_) rfl (by decide +kernel) (by decide +kernel) (by decide +kernel) (fun _ _ _ h => h) (Or.inl ⟨by rfl, ?_⟩) (by assumption) ?_
   rotate_left
   ·
    (intro w hSw; (try dsimp only at hSw); go_simp <;> (try with_reducible rfl))
   (try simp only [Act.put, List.setIfInBounds_toArray, List.set_cons_zero, List.set_cons_succ])
   refine wpAnyH_take (i := 10) (oi := Oper.mk (some 78) _ _ _ _ _) (v := ?_) rfl (by decide +kernel) (by decide +kernel) (by decide +kernel) (fun _ _ _ h => h) (Or.inl ⟨by rfl, ?_⟩) (by assumption) ?_
   rotate_left
   ·
    (intro w hSw; (try dsimp only at hSw); go_simp <;> (try with_reducible rfl))
   (try simp only [Act.put, List.setIfInBounds_toArray, List.set_cons_zero, List.set_cons_succ])
   refine wpAnyH_take (i := 11) (oi := Oper.mk (some 79) _ _ _ _ _) (v := ?_) rfl (by decide +kernel) (by decide +kernel) (by decide +kernel) (fun _ _ _ h => h) (Or.inl ⟨by rfl, ?_⟩) (by assumption) ?_
   rotate_left
   ·
    (intro w hSw; (try dsimp only at hSw); go_simp <;> (try with_reducible rfl))
   (try simp only [Act.put, List.setIfInBounds_toArray, List.set_cons_zero, List.set_cons_succ])
   refine wpAnyH_take (i := 12) (oi := Oper.mk (some 80) _ _ _ _ _) (v := ?_) rfl (by decide +kernel) (by decide +kernel) (by decide +kernel) (fun _ _ _ h => h) (Or.inl ⟨by rfl, ?_⟩) (by assumption) ?_
   rotate_left
   ·
    (intro w hSw; (try dsimp only at hSw); go_simp <;> (try with_reducible rfl))
   (try simp only [Act.put, List.setIfInBounds_toArray, List.set_cons_zero, List.set_cons_succ])
   refine wpAnyH_ready (rs := [13]) (by decide +kernel) (by simp) ?_
   refine AllReadyH.cons (o := Oper.mk (some 81) _ _ _ _ _) rfl (fun K hK => ?_) AllReadyH.nil
   go_simp
   (go_at_call 58; refine (pltimes_any nT n3 oT o3 lT cT l3 c3 top (L ^ i) _ (HI9.out.1.later (Below.refl _ _).drew) (HI9.out.2.later (Below.refl _ _).drew) (by omega) (by omega)).mono ?_; rintro e w8 ⟨n9, o9, l9, c9, rfl, hs9, ho9, hb'⟩; have hb8 : Below wr.heap.size wr w8 := bnext (Below.refl _ _).drew hb'; have H9 : Hid (PS B w8 g gq gd gp (some ⟨bb, off, none⟩) (m + 1) cb k b P lj q ∧ IntAt w8 n9 o9 l9 c9 (top * L ^ i)) := ⟨HT.out.1.later hb8, ho9.int hs9⟩; clear hs9 ho9 hb'; have hfz := H9.out.1.hq.soft; obtain ⟨m0, p0, k0, d0, ⟨t0, t1⟩, _⟩ := H9.out.1.hq.coef i HLen.out.2.2.2)
   (try go_wp2_with fail)
   clear hHeld
   refine hK.out _ _ (by (try dsimp only); exact KS9.out _ hb8) (fun hHeld => ?_)
   clear hK K
   (try simp only [Act.put, List.setIfInBounds_toArray, List.set_cons_zero, List.set_cons_succ])
   refine wpAnyH_take (i := 14) (oi := Oper.mk (some 82) _ _ _ _ _) (v := ?_) rfl (by decide +kernel) (by decide +kernel) (by decide +kernel) (fun _ _ _ h => h) (Or.inl ⟨by rfl, ?_⟩) (by assumption) ?_
   rotate_left
   ·
    (intro w hSw; (try dsimp only at hSw); go_simp <;> (try with_reducible rfl))
   (try simp only [Act.put, List.setIfInBounds_toArray, List.set_cons_zero, List.set_cons_succ])
   refine wpAnyH_ready (rs := [15]) (by decide +kernel) (by simp) ?_
   refine AllReadyH.cons (o := Oper.mk none _ _ _ _ _) rfl (fun K hK => ?_) AllReadyH.nil
   go_simp
   clear hHeld
   refine hK.out _ _ (by (try dsimp only); exact K9.out _ _ _ (K9.out _ _ _ (KS9.out _ hb8))) (fun hHeld => ?_)
   clear hK K
   (try simp only [Act.put, List.setIfInBounds_toArray, List.set_cons_zero, List.set_cons_succ])
   refine wpAnyH_done (by decide +kernel) ?_ _
   refine NoPanic.normal ?_
   go_wp2
   go_ret
   exact ⟨rfl, ((HT.out.2.2.1.trans (hb8.mono HRT.out.2.2)).setCell (p := ⟨gq, i * 2, none⟩) HB.out.2.1 _).setCell (p := ⟨gq, i * 2 + 1, none⟩) HB.out.2.1 _, lj, HT.out.2.1, H9.out.1.putQ HLen.out.2.2.2 H9.out.2⟩
end Go.Proofs.YtgcahkhpbcklfaaGreatDoor
