/-
  A pack of walks and facts: YE, TA.
-/
import Derived.Test.YtpbkonafojemiaaGreatDoorPK16
import Derived.Test.YtpbkonafojemiaaGreatDoorPK21
set_option maxRecDepth 100000
set_option maxHeartbeats 40000000
set_option linter.unusedVariables false
set_option linter.unusedSimpArgs false
namespace Go.Proofs.YtpbkonafojemiaaGreatDoor
open Go.RowKit
theorem CoefAt.off {w : World} {b o g j : Nat} {v : Int} {u : Value} (h : CoefAt w b o v) (hne : b ≠ g) (e : w.cell? ⟨g, j, none⟩ = some u) (hu : ∀ z, u ≠ .int .u64 z) (x : Value) : CoefAt (w.setCell ⟨g, j, none⟩ x) b o v := by
 obtain ⟨n, ao, l, c, ⟨h0, h1⟩, hi⟩ := h
 exact ⟨n, ao, l, c, ⟨by rw [cell_off hne]; exact h0, by rw [cell_off hne]; exact h1⟩, hi.cellKept e hu x⟩
theorem PolyAt.off {w : World} {ao : Option Addr} {len cap g j : Nat} {p : List Int} {u : Value} (h : PolyAt w ao len cap p) (hne : ∀ a : Addr, ao = some a → a.block ≠ g) (e : w.cell? ⟨g, j, none⟩ = some u) (hu : ∀ z, u ≠ .int .u64 z) (x : Value) : PolyAt (w.setCell ⟨g, j, none⟩ x) ao len cap p := by
 refine ⟨h.hlen, h.hcap, h.hnil, ?_⟩
 rcases h.hat with h0 | ⟨b, o, h1, h2⟩
 ·
  exact Or.inl h0
 ·
  exact Or.inr ⟨b, o, h1, fun t ht => (h2 t ht).off (hne _ h1) e hu x⟩
theorem PBlk.off {w : World} {g g' j : Nat} {p : List Int} {u : Value} (h : PBlk w g p) (hne : g ≠ g') (e : w.cell? ⟨g', j, none⟩ = some u) (hu : ∀ z, u ≠ .int .u64 z) (x : Value) : PBlk (w.setCell ⟨g', j, none⟩ x) g p :=
 ⟨fun i => by rw [soft_far]; exact h.soft i, fun t ht => (h.coef t ht).off hne e hu x⟩
structure PS (B : Nat) (w : World) (g gq gd gp : Nat) (bo : Option Addr) (lb cb k : Nat) (b P r q : List Int) : Prop where
 ord : B ≤ gq ∧ gq < gd ∧ gd < g ∧ g < w.heap.size ∧ gp < B
 d0 : w.cell? ⟨gd, 0, none⟩ = some (.slice bo lb cb)
 d1 : w.cell? ⟨gd, 1, none⟩ = some (.slice (some ⟨gp, 0, none⟩) k k)
 d2 : w.cell? ⟨gd, 2, none⟩ = some (.slice (some ⟨gq, 0, none⟩) k k)
 hb : PolyAt w bo lb cb b
 far : ∀ a : Addr, bo = some a → a.block < B
 hP : PolyAt w (some ⟨gp, 0, none⟩) k k P
 hr : PBlk w g r
 hq : PBlk w gq q
theorem PS.later {B : Nat} {w w' : World} {g gq gd gp : Nat} {bo : Option Addr} {lb cb k : Nat} {b P r q : List Int} (h : PS B w g gq gd gp bo lb cb k b P r q) (hb : Below w.heap.size w w') : PS B w' g gq gd gp bo lb cb k b P r q := by
 obtain ⟨o1, o2, o3, o4, o5⟩ := h.ord
 exact ⟨⟨o1, o2, o3, Nat.lt_of_lt_of_le o4 hb.size, o5⟩, (hb.cell (p := ⟨gd, 0, none⟩) (by show gd < _; omega)).trans h.d0, (hb.cell (p := ⟨gd, 1, none⟩) (by show gd < _; omega)).trans h.d1, (hb.cell (p := ⟨gd, 2, none⟩) (by show gd < _; omega)).trans h.d2, h.hb.later hb, h.far, h.hP.later hb, h.hr.later hb o4, h.hq.later hb (by omega)⟩
theorem PS.putR {B : Nat} {w : World} {g gq gd gp : Nat} {bo : Option Addr} {lb cb k t l c : Nat} {b P r q : List Int} {n : Bool} {ao : Option Addr} {v : Int} (h : PS B w g gq gd gp bo lb cb k b P r q) (ht : t < r.length) (hi : IntAt w n ao l c v) : PS B ((w.setCell ⟨g, t * 2, none⟩ (.bool n)).setCell ⟨g, t * 2 + 1, none⟩ (.slice ao l c)) g gq gd gp bo lb cb k b P (r.set t v) q := by
 obtain ⟨o1, o2, o3, o4, o5⟩ := h.ord
 obtain ⟨n0, ao0, l0, c0, ⟨e0, e1⟩, _⟩ := h.hr.coef t ht
 have e1' : (w.setCell ⟨g, t * 2, none⟩ (.bool n)).cell? ⟨g, t * 2 + 1, none⟩ = some (.slice ao0 l0 c0) := by simp [go_sem, e0, e1]
 have hd : gd ≠ g := by omega
 have hfar : ∀ a : Addr, bo = some a → a.block ≠ g := fun a ha => by have := h.far a ha; omega
 have hpfar : ∀ a : Addr, (some ⟨gp, 0, none⟩ : Option Addr) = some a → a.block ≠ g := fun a ha => by cases ha; show gp ≠ g; omega
 exact ⟨⟨o1, o2, o3, by simp; exact o4, o5⟩, by rw [cell_off hd, cell_off hd]; exact h.d0, by rw [cell_off hd, cell_off hd]; exact h.d1, by rw [cell_off hd, cell_off hd]; exact h.d2, (h.hb.off hfar e0 (fun z e => by cases e) _).off hfar e1' (fun z e => by cases e) _, h.far, (h.hP.off hpfar e0 (fun z e => by cases e) _).off hpfar e1' (fun z e => by cases e) _, h.hr.put ht hi, (h.hq.off (by omega) e0 (fun z e => by cases e) _).off (by omega) e1' (fun z e => by cases e) _⟩
theorem PS.putQ {B : Nat} {w : World} {g gq gd gp : Nat} {bo : Option Addr} {lb cb k t l c : Nat} {b P r q : List Int} {n : Bool} {ao : Option Addr} {v : Int} (h : PS B w g gq gd gp bo lb cb k b P r q) (ht : t < q.length) (hi : IntAt w n ao l c v) : PS B ((w.setCell ⟨gq, t * 2, none⟩ (.bool n)).setCell ⟨gq, t * 2 + 1, none⟩ (.slice ao l c)) g gq gd gp bo lb cb k b P r (q.set t v) := by
 obtain ⟨o1, o2, o3, o4, o5⟩ := h.ord
 obtain ⟨n0, ao0, l0, c0, ⟨e0, e1⟩, _⟩ := h.hq.coef t ht
 have e1' : (w.setCell ⟨gq, t * 2, none⟩ (.bool n)).cell? ⟨gq, t * 2 + 1, none⟩ = some (.slice ao0 l0 c0) := by simp [go_sem, e0, e1]
 have hd : gd ≠ gq := by omega
 have hfar : ∀ a : Addr, bo = some a → a.block ≠ gq := fun a ha => by have := h.far a ha; omega
 have hpfar : ∀ a : Addr, (some ⟨gp, 0, none⟩ : Option Addr) = some a → a.block ≠ gq := fun a ha => by cases ha; show gp ≠ gq; omega
 exact ⟨⟨o1, o2, o3, by simp; exact o4, o5⟩, by rw [cell_off hd, cell_off hd]; exact h.d0, by rw [cell_off hd, cell_off hd]; exact h.d1, by rw [cell_off hd, cell_off hd]; exact h.d2, (h.hb.off hfar e0 (fun z e => by cases e) _).off hfar e1' (fun z e => by cases e) _, h.far, (h.hP.off hpfar e0 (fun z e => by cases e) _).off hpfar e1' (fun z e => by cases e) _, (h.hr.off (by omega) e0 (fun z e => by cases e) _).off (by omega) e1' (fun z e => by cases e) _, h.hq.put ht hi⟩
end Go.Proofs.YtpbkonafojemiaaGreatDoor
namespace Go.Proofs.YtpbkonafojemiaaGreatDoor
open Go.RowKit
def putl (w : World) (r : Nat) : Nat → List Value → World
 | _, [] => w
 | j, v :: vs => putl (w.setCell ⟨r, j, none⟩ v) r (j + 1) vs
theorem putl_off {r b o : Nat} (h : b ≠ r) : ∀ (vs : List Value) (j : Nat) (w : World), (putl w r j vs).cell? ⟨b, o, none⟩ = w.cell? ⟨b, o, none⟩
 | [], _, _ => rfl
 | v :: vs, j, w => (putl_off h vs (j + 1) _).trans (cell_off h)
theorem putl_low {r o : Nat} : ∀ (vs : List Value) (j : Nat) (w : World), o < j → (putl w r j vs).cell? ⟨r, o, none⟩ = w.cell? ⟨r, o, none⟩
 | [], _, _, _ => rfl
 | v :: vs, j, w, h => (putl_low vs (j + 1) _ (by omega)).trans (setCell_ne (fun e => by have := e.2; dsimp only at this; omega))
theorem putl_high {r o : Nat} : ∀ (vs : List Value) (j : Nat) (w : World), j + vs.length ≤ o → (putl w r j vs).cell? ⟨r, o, none⟩ = w.cell? ⟨r, o, none⟩
 | [], _, _, _ => rfl
 | v :: vs, j, w, h => (putl_high vs (j + 1) _ (by simp at h; omega)).trans (setCell_ne (fun e => by have := e.2; dsimp only at this; simp at h; omega))
theorem putl_frozen {r b o : Nat} : ∀ (vs : List Value) (j : Nat) (w : World), (putl w r j vs).frozen? ⟨b, o, none⟩ = w.frozen? ⟨b, o, none⟩
 | [], _, _ => rfl
 | v :: vs, j, w => (putl_frozen vs (j + 1) _).trans frozen_off
theorem putl_size {r : Nat} : ∀ (vs : List Value) (j : Nat) (w : World), (putl w r j vs).heap.size = w.heap.size
 | [], _, _ => rfl
 | v :: vs, j, w => (putl_size vs (j + 1) _).trans (by simp [World.setCell])
theorem putl_below {B r : Nat} {w : World} (hr : B ≤ r) : ∀ (vs : List Value) (j : Nat) (w2 : World), Below B w w2 → Below B w (putl w2 r j vs)
 | [], _, _, h => h
 | v :: vs, j, w2, h => putl_below hr vs (j + 1) _ (h.setCell (p := ⟨r, j, none⟩) hr v)
theorem set_hit {w : World} {r j : Nat} {x v : Value} (h : w.cell? ⟨r, j, none⟩ = some x) : (w.setCell ⟨r, j, none⟩ v).cell? ⟨r, j, none⟩ = some v := by simp [go_sem, h]
theorem putl_at {r : Nat} : ∀ (ws vs : List Value) (j : Nat) (w : World), ws.length = vs.length → (∀ i x, vs[i]? = some x → w.cell? ⟨r, j + i, none⟩ = some x) → ∀ i v, ws[i]? = some v → (putl w r j ws).cell? ⟨r, j + i, none⟩ = some v
 | [], _, _, _, _, _, i, v, h => by simp at h
 | u :: ws, [], _, _, hl, _, _, _, _ => by simp at hl
 | u :: ws, x :: vs, j, w, hl, hc, 0, v, h => by
  have h0 : u = v := by simpa using h
  subst h0
  exact (putl_low ws (j + 1) _ (by omega)).trans (set_hit (hc 0 x rfl))
 | u :: ws, x :: vs, j, w, hl, hc, i + 1, v, h => by
  have h1 := putl_at ws vs (j + 1) (w.setCell ⟨r, j, none⟩ u) (by simpa using hl) (fun i' x' h' => (setCell_ne (fun e => by have := e.2; dsimp only at this; omega)).trans ((by rw [show j + 1 + i' = j + (i' + 1) by omega]; exact hc (i' + 1) x' (by simpa using h')))) i v (by simpa using h)
  rw [show j + 1 + i = j + (i + 1) by omega] at h1
  exact h1
theorem Bx.put {w : World} {r : Nat} {ws vs : List Value} (h : Bx w r vs) (hl : ws.length = vs.length) : Bx (putl w r 0 ws) r ws :=
 ⟨fun i v hi => by have := putl_at ws vs 0 w hl (fun i' x h' => by rw [Nat.zero_add]; exact h.1 i' x h') i v hi; rwa [Nat.zero_add] at this, fun j => (putl_frozen ws 0 w).trans (h.2 j)⟩
theorem Bx.off {w : World} {r b : Nat} {ws vs : List Value} (h : Bx w b vs) (hb : b ≠ r) (j : Nat) : Bx (putl w r j ws) b vs :=
 ⟨fun i v hi => (putl_off hb ws j w).trans (h.1 i v hi), fun i => (putl_frozen ws j w).trans (h.2 i)⟩
theorem Bx.lt {w : World} {r : Nat} {v : Value} {vs : List Value} (h : Bx w r (v :: vs)) : r < w.heap.size := cell_lt (h.1 0 v rfl)
theorem Bx.new (w : World) (vs : List Value) (t : TypeId) : Bx (w.alloc (.cells vs.toArray t)) w.heap.size vs :=
 ⟨fun j v h => by simpa [go_sem] using h, fun j => by simp [go_sem]⟩
def NoWord (vs : List Value) : Prop := ∀ v ∈ vs, ∀ z : Int, v ≠ .int .u64 z
theorem Bx.row {w : World} {r : Nat} {vs ws : List Value} {p : Option Addr} {m k : Nat} {zs : List Int} (h : Bx w r vs) (hn : NoWord vs) (hl : ws.length = vs.length) (hr : RowAt w .u64 p m k zs) : RowAt (putl w r 0 ws) .u64 p m k zs := by
 refine ⟨hr.hlen, hr.hcap, hr.hnil, ?_⟩
 rcases hr.hat with h0 | ⟨b, off, h1, hlt, h2⟩
 ·
  exact Or.inl h0
 ·
  refine Or.inr ⟨b, off, h1, by rw [putl_size]; exact hlt, fun t ht => ?_⟩
  have h3 := h2 t ht
  by_cases e : b = r
  ·
   subst e
   by_cases h4 : off + t < vs.length
   ·
    have h5 := h.1 (off + t) vs[off + t] (List.getElem?_eq_getElem h4)
    rw [h3] at h5
    exact absurd (Option.some.inj h5).symm (hn _ (List.getElem_mem h4) _)
   ·
    rw [putl_high ws 0 w (by omega)]; exact h3
  ·
   rw [putl_off e ws 0 w]; exact h3
end Go.Proofs.YtpbkonafojemiaaGreatDoor
