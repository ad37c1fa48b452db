/-
  A pack of walks and facts: TA, YM, HL.
-/
import Derived.Test.YtgcahkhpbcklfaaGreatDoorPJ08
import Derived.Test.YtgcahkhpbcklfaaGreatDoorPJ10
import Derived.Test.YtgcahkhpbcklfaaGreatDoorPJ15
import Derived.Test.YtgcahkhpbcklfaaGreatDoorPJ17
import Derived.Test.YtgcahkhpbcklfaaGreatDoorPJ22
import Derived.Test.YtgcahkhpbcklfaaGreatDoorPJ24
import Derived.Test.YtgcahkhpbcklfaaGreatDoorPJ26
import Derived.Test.YtgcahkhpbcklfaaGreatDoorPJ27
set_option maxRecDepth 100000
set_option maxHeartbeats 40000000
set_option linter.unusedVariables false
set_option linter.unusedSimpArgs false
namespace Go.Proofs.YtgcahkhpbcklfaaGreatDoor
open Go.RowKit
def putl (w : World) (r : Nat) : Nat → List Value → World
 | _, [] => w
 | j, v :: vs => putl (w.setCell ⟨r, j, none⟩ v) r (j + 1) vs
theorem putl_off {r b o : Nat} (h : b ≠ r) : ∀ (vs : List Value) (j : Nat) (w : World), (putl w r j vs).cell? ⟨b, o, none⟩ = w.cell? ⟨b, o, none⟩
 | [], _, _ => rfl
 | v :: vs, j, w => (putl_off h vs (j + 1) _).trans (cell_off h)
theorem putl_low {r o : Nat} : ∀ (vs : List Value) (j : Nat) (w : World), o < j → (putl w r j vs).cell? ⟨r, o, none⟩ = w.cell? ⟨r, o, none⟩
 | [], _, _, _ => rfl
 | v :: vs, j, w, h => (putl_low vs (j + 1) _ (by omega)).trans (setCell_ne (fun e => by have := e.2; dsimp only at this; omega))
theorem putl_high {r o : Nat} : ∀ (vs : List Value) (j : Nat) (w : World), j + vs.length ≤ o → (putl w r j vs).cell? ⟨r, o, none⟩ = w.cell? ⟨r, o, none⟩
 | [], _, _, _ => rfl
 | v :: vs, j, w, h => (putl_high vs (j + 1) _ (by simp at h; omega)).trans (setCell_ne (fun e => by have := e.2; dsimp only at this; simp at h; omega))
theorem putl_frozen {r b o : Nat} : ∀ (vs : List Value) (j : Nat) (w : World), (putl w r j vs).frozen? ⟨b, o, none⟩ = w.frozen? ⟨b, o, none⟩
 | [], _, _ => rfl
 | v :: vs, j, w => (putl_frozen vs (j + 1) _).trans frozen_off
theorem putl_size {r : Nat} : ∀ (vs : List Value) (j : Nat) (w : World), (putl w r j vs).heap.size = w.heap.size
 | [], _, _ => rfl
 | v :: vs, j, w => (putl_size vs (j + 1) _).trans (by simp [World.setCell])
theorem putl_below {B r : Nat} {w : World} (hr : B ≤ r) : ∀ (vs : List Value) (j : Nat) (w2 : World), Below B w w2 → Below B w (putl w2 r j vs)
 | [], _, _, h => h
 | v :: vs, j, w2, h => putl_below hr vs (j + 1) _ (h.setCell (p := ⟨r, j, none⟩) hr v)
theorem set_hit {w : World} {r j : Nat} {x v : Value} (h : w.cell? ⟨r, j, none⟩ = some x) : (w.setCell ⟨r, j, none⟩ v).cell? ⟨r, j, none⟩ = some v := by simp [go_sem, h]
theorem putl_at {r : Nat} : ∀ (ws vs : List Value) (j : Nat) (w : World), ws.length = vs.length → (∀ i x, vs[i]? = some x → w.cell? ⟨r, j + i, none⟩ = some x) → ∀ i v, ws[i]? = some v → (putl w r j ws).cell? ⟨r, j + i, none⟩ = some v
 | [], _, _, _, _, _, i, v, h => by simp at h
 | u :: ws, [], _, _, hl, _, _, _, _ => by simp at hl
 | u :: ws, x :: vs, j, w, hl, hc, 0, v, h => by
  have h0 : u = v := by simpa using h
  subst h0
  exact (putl_low ws (j + 1) _ (by omega)).trans (set_hit (hc 0 x rfl))
 | u :: ws, x :: vs, j, w, hl, hc, i + 1, v, h => by
  have h1 := putl_at ws vs (j + 1) (w.setCell ⟨r, j, none⟩ u) (by simpa using hl) (fun i' x' h' => (setCell_ne (fun e => by have := e.2; dsimp only at this; omega)).trans ((by rw [show j + 1 + i' = j + (i' + 1) by omega]; exact hc (i' + 1) x' (by simpa using h')))) i v (by simpa using h)
  rw [show j + 1 + i = j + (i + 1) by omega] at h1
  exact h1
theorem Bx.put {w : World} {r : Nat} {ws vs : List Value} (h : Bx w r vs) (hl : ws.length = vs.length) : Bx (putl w r 0 ws) r ws :=
 ⟨fun i v hi => by have := putl_at ws vs 0 w hl (fun i' x h' => by rw [Nat.zero_add]; exact h.1 i' x h') i v hi; rwa [Nat.zero_add] at this, fun j => (putl_frozen ws 0 w).trans (h.2 j)⟩
theorem Bx.off {w : World} {r b : Nat} {ws vs : List Value} (h : Bx w b vs) (hb : b ≠ r) (j : Nat) : Bx (putl w r j ws) b vs :=
 ⟨fun i v hi => (putl_off hb ws j w).trans (h.1 i v hi), fun i => (putl_frozen ws j w).trans (h.2 i)⟩
theorem Bx.lt {w : World} {r : Nat} {v : Value} {vs : List Value} (h : Bx w r (v :: vs)) : r < w.heap.size := cell_lt (h.1 0 v rfl)
theorem Bx.new (w : World) (vs : List Value) (t : TypeId) : Bx (w.alloc (.cells vs.toArray t)) w.heap.size vs :=
 ⟨fun j v h => by simpa [go_sem] using h, fun j => by simp [go_sem]⟩
def NoWord (vs : List Value) : Prop := ∀ v ∈ vs, ∀ z : Int, v ≠ .int .u64 z
theorem Bx.row {w : World} {r : Nat} {vs ws : List Value} {p : Option Addr} {m k : Nat} {zs : List Int} (h : Bx w r vs) (hn : NoWord vs) (hl : ws.length = vs.length) (hr : RowAt w .u64 p m k zs) : RowAt (putl w r 0 ws) .u64 p m k zs := by
 refine ⟨hr.hlen, hr.hcap, hr.hnil, ?_⟩
 rcases hr.hat with h0 | ⟨b, off, h1, hlt, h2⟩
 ·
  exact Or.inl h0
 ·
  refine Or.inr ⟨b, off, h1, by rw [putl_size]; exact hlt, fun t ht => ?_⟩
  have h3 := h2 t ht
  by_cases e : b = r
  ·
   subst e
   by_cases h4 : off + t < vs.length
   ·
    have h5 := h.1 (off + t) vs[off + t] (List.getElem?_eq_getElem h4)
    rw [h3] at h5
    exact absurd (Option.some.inj h5).symm (hn _ (List.getElem_mem h4) _)
   ·
    rw [putl_high ws 0 w (by omega)]; exact h3
  ·
   rw [putl_off e ws 0 w]; exact h3
theorem Bx.rat {w : World} {r : Nat} {vs ws : List Value} {n : Bool} {o p : Option Addr} {l c m k : Nat} {a : Rat} (h : Bx w r vs) (hn : NoWord vs) (hl : ws.length = vs.length) (hr : RatAt w n o l c p m k a) : RatAt (putl w r 0 ws) n o l c p m k a :=
 ⟨⟨hr.num.sg, h.row hn hl hr.num.row⟩, h.row hn hl hr.den⟩
end Go.Proofs.YtgcahkhpbcklfaaGreatDoor
namespace Go.Proofs.YtgcahkhpbcklfaaGreatDoor
open Go.RowKit
theorem mulL_lim {A B : Nat} {s : List Int} (hs : Lim B s) : ∀ p : List Int, Lim A p → Lim (p.length * (A + B + 1)) (mulL p s) := by
 intro p
 induction p with
 | nil => intro _ t; simp only [mulL, rep_dig]; rw [lim_zero]; omega
 | cons a p ih =>
  intro hA t
  have h1 := ih (fun t => by have := hA (t + 1); rw [dig_cons] at this; exact this)
  have h2 : lim a ≤ A := by have := hA 0; simpa [dig] using this
  rw [mulL, addTo_dig, map_dig, List.length_cons, Nat.succ_mul]
  have h3 := lim_mul a (dig s t)
  have h4 := hs t
  cases t with
  | zero =>
   have h5 : dig (0 :: mulL p s) 0 = 0 := by simp [dig]
   rw [h5, Int.add_zero]; omega
  | succ t =>
   rw [dig_cons]
   have h5 := lim_add (a * dig s (t + 1)) (dig (mulL p s) t)
   have h6 := h1 t
   omega
theorem mulP_lim {A B N : Nat} {p s : List Int} (hp : Lim A p) (hs : Lim B s) (hN : p.length ≤ N) : Lim (N * (A + B + 1)) (mulP p s) := by
 unfold mulP
 split
 ·
  intro t; rw [dig_past (by simp), lim_zero]; omega
 ·
  exact (mulL_lim hs p hp).mono (Nat.mul_le_mul_right _ hN)
theorem mulP_short {p s : List Int} {a b : Nat} (hp : p.length ≤ a) (hs : s.length ≤ b) : (mulP p s).length ≤ a + b := by
 unfold mulP
 split
 ·
  simp
 ·
  rw [mulL_len _ _ (by omega)]; omega
theorem addP_short {p s : List Int} {a : Nat} (hp : p.length ≤ a) (hs : s.length ≤ a) : (addP p s).length ≤ a := by
 unfold addP; rw [trimL_len]; exact Nat.le_trans (trimN_le _ _) (by rw [tab_len]; omega)
theorem addP_lim {A : Nat} {p s : List Int} (hp : Lim A p) (hs : Lim A s) : Lim (2 * A + 1) (addP p s) := fun t => by
 rw [addP_dig]; have := lim_add (dig p t) (dig s t); have := hp t; have := hs t; omega
theorem GP.mk' {w : World} {ao : Option Addr} {l c A : Nat} {p : List Int} (h : PolyAt w ao l c p) (hL : Lead p) (hM : Lim A p) (hs : p.length ≤ 50) (hA : A ≤ 100000) : GP w ao l c A p := ⟨h, hL, hM, by rw [h.hlen]; exact hs, hA⟩
theorem pd_digs {a b q r : List Int} {C : Int} (h : ∀ x, C * ev a x = ev q x * ev b x + ev r x) (t : Nat) : dig (mulP q b) t + dig r t = C * dig a t := by
 have h2 : ∀ x, ev (addP (mulP q b) r) x = ev (a.map (C * ·)) x := fun x => by rw [addP_ev, mulP_ev, map_ev, h x]
 have := dig_of_ev h2 t
 rw [addP_dig, map_dig] at this
 exact this
theorem pd_scale {a b q r : List Int} {C : Int} {la : Nat} (hl : la = a.length) (h : ∀ x, C * ev a x = ev q x * ev b x + ev r x) : trimL (tab la fun i => dig a i * C) = addP (mulP q b) r :=
 lead_of_digs (trimL_lead _) (addP_lead _ _) fun t => by
  rw [trimL_dig, addP_dig, pd_digs h t]
  by_cases ht : t < la
  ·
   rw [tab_dig _ ht, Int.mul_comm]
  ·
   rw [dig_past (by rw [tab_len]; omega), dig_past (s := a) (by omega), Int.mul_zero]
theorem pd_lim {a b q r : List Int} {C : Int} {M K : Nat} (h : ∀ x, C * ev a x = ev q x * ev b x + ev r x) (ha : Lim 3 a) (hC : lim C ≤ K) (hr : Lim M r) (hM : K + 3 + M + 1 ≤ 100000) : Lim 100000 (mulP q b) := fun t => by
 have h1 := pd_digs h t
 have h2 : dig (mulP q b) t = C * dig a t + -(dig r t) := by omega
 rw [h2]
 have h3 := lim_add (C * dig a t) (-(dig r t))
 have h4 := lim_mul C (dig a t)
 have h5 := ha t
 have h6 := hr t
 rw [lim_neg] at h3
 omega
theorem evQ_sz {A N : Nat} {p : List Int} {a : Rat} (hp : Lim A p) (hN : p.length ≤ N) (hs : lim a.num ≤ 2 ∧ lim (a.den : Int) ≤ 2) : Sz (evQ p a) (N * (A + 2 * N + 5) + 2 * N + 1) := by
 have h0 : a.den ^ (p.length - 1) ≠ 0 := Nat.pos_iff_ne_zero.1 (Nat.pow_pos (Nat.pos_iff_ne_zero.2 a.den_nz))
 rw [homo_rat p a (a.den ^ (p.length - 1)) (by rw [Int.natCast_pow]) h0]
 refine Sz.make h0 ?_ ?_
 ·
  have h1 := homo_lim A N a.num (a.den : Int) hs.1 hs.2 p hp hN
  have h2 : p.length * (A + 2 * N + 5) ≤ N * (A + 2 * N + 5) := Nat.mul_le_mul_right _ hN
  unfold lim at h1; omega
 ·
  have h1 := lim_pow (a.den : Int) (p.length - 1) hs.2
  unfold lim at h1
  rw [← Int.natCast_pow, Int.natAbs_natCast] at h1
  omega
theorem gdeg_any (ao : Option Addr) (la ca A : Nat) (p : List Int) (w : World) (hp : GP w ao la ca A p) :
  Calls Tryz.prog 21 #[.slice ao la ca] w fun e w' => e = .returned (.int .i64 ((la : Int) - 1)) ∧ Below w.heap.size w w' := by
 have h1 := hp.check
 have hs := hp.short
 clear hp
 go_enter Tryz.func21, Tryz.ntmps21
 go_wp2_with (go_at_call 33; refine h1.mono ?_; rintro e w1 ⟨rfl, hb1⟩)
 go_ret
 exact ⟨by go_num, hb1⟩
theorem longRat4s_any (na : Bool) (ao po : Option Addr) (la ca lp cp : Nat) (n : Int) (w : World) :
  Calls Tryz.prog 25 #[.agg #[.bool na, .slice ao la ca, .slice po lp cp], .int .i64 n] w fun e w' => ∃ b, e = .returned (.bool b) ∧ (b = false → (la : Int) ≤ n ∧ (lp : Int) ≤ n) ∧ Below w.heap.size w w' := by
 have hA : Below w.heap.size w (w.alloc (.cells #[.bool na, .slice ao la ca, .slice po lp cp] 30)) := (Below.refl _ _).alloc (Nat.le_refl _) _
 have HC := Cells.new w #[.bool na, .slice ao la ca, .slice po lp cp] 30
 obtain ⟨b, hb⟩ : ∃ b, decide (n < (la : Int)) = b := ⟨_, rfl⟩
 have HN : Hid (b = false → (la : Int) ≤ n) := fun e => by rw [e] at hb; have := of_decide_eq_false hb; omega
 have hcon : ∀ X, Calls Tryz.prog 24 #[.agg #[.bool na, .slice ao la ca], .int .i64 n] X fun e w' => e = .returned (.bool b) ∧ Below X.heap.size X w' := fun X => (long_any na ao la ca n X).mono fun e w' h => by rw [hb] at h; exact h
 clear hb
 cases b
 ·
  have HN2 : Hid ((la : Int) ≤ n) := HN.out rfl
  clear HN
  go_enter Tryz.func25, Tryz.ntmps25
  go_wp2_with (go_at_call 24; refine (hcon _).mono ?_; rintro e w1 ⟨rfl, hb1⟩; have q2 := HC.later hb1 (by simp) 2 _ rfl)
  go_ret
  exact ⟨_, rfl, fun h => ⟨HN2.out, by have := of_decide_eq_false h; omega⟩, bnext hA hb1⟩
 ·
  go_enter Tryz.func25, Tryz.ntmps25
  go_wp2_with (go_at_call 24; refine (hcon _).mono ?_; rintro e w1 ⟨rfl, hb1⟩)
  go_ret
  exact ⟨_, rfl, fun h => (by cases h), bnext hA hb1⟩
theorem heavy4s_any (ao bo co : Option Addr) (la ca lb cb lc cc : Nat) (n n4 n5 n6 : Bool) (o4 p4 o5 p5 o6 p6 : Option Addr) (l4 c4 m4 k4 l5 c5 m5 k5 l6 c6 m6 k6 : Nat) (rs ts : List (Bool × List Int)) (w : World) (hp : RawsAt w ao la ca rs) (hs : RawsAt w bo lb cb ts) (hla : la ≤ 9223372036854775807) (hlb : lb ≤ 9223372036854775807) :
  Calls Tryz.prog 4 #[.agg #[.slice ao la ca, .slice bo lb cb, .bool n, .slice co lc cc, .bool n4, .slice o4 l4 c4, .slice p4 m4 k4, .bool n5, .slice o5 l5 c5, .slice p5 m5 k5, .bool n6, .slice o6 l6 c6, .slice p6 m6 k6]] w fun e w' => ∃ hv : Bool, e = .returned (.bool hv) ∧ (hv = false → heavyB 10 3 la rs = false ∧ heavyB 10 3 lb ts = false ∧ lc ≤ 3 ∧ l4 ≤ 2 ∧ m4 ≤ 2) ∧ Below w.heap.size w w' := by
 obtain ⟨W, hW⟩ : ∃ W, W = (w.alloc (.cells #[.slice ao la ca, .slice bo lb cb, .bool n, .slice co lc cc, .bool n4, .slice o4 l4 c4, .slice p4 m4 k4, .bool n5, .slice o5 l5 c5, .slice p5 m5 k5, .bool n6, .slice o6 l6 c6, .slice p6 m6 k6] 34)) := ⟨_, rfl⟩
 have HC : Hid ((∀ W', Below W.heap.size W W' → Cells W' w.heap.size [.slice ao la ca, .slice bo lb cb, .bool n, .slice co lc cc, .bool n4, .slice o4 l4 c4, .slice p4 m4 k4, .bool n5, .slice o5 l5 c5, .slice p5 m5 k5, .bool n6, .slice o6 l6 c6, .slice p6 m6 k6]) ∧ Below w.heap.size w W) := by
  rw [hW]
  exact ⟨fun W' hb => (Cells.new w #[.slice ao la ca, .slice bo lb cb, .bool n, .slice co lc cc, .bool n4, .slice o4 l4 c4, .slice p4 m4 k4, .bool n5, .slice o5 l5 c5, .slice p5 m5 k5, .bool n6, .slice o6 l6 c6, .slice p6 m6 k6] 34).later hb (by simp), (Below.refl _ _).alloc (Nat.le_refl _) _⟩
 obtain ⟨b1, hb1⟩ : ∃ b, heavyB 10 3 la rs = b := ⟨_, rfl⟩
 obtain ⟨b2, hb2⟩ : ∃ b, heavyB 10 3 lb ts = b := ⟨_, rfl⟩
 obtain ⟨b3, hb3⟩ : ∃ b, decide ((3 : Int) < (lc : Int)) = b := ⟨_, rfl⟩
 have HB : Hid (heavyB 10 3 la rs = b1 ∧ heavyB 10 3 lb ts = b2 ∧ decide ((3 : Int) < (lc : Int)) = b3) := ⟨hb1, hb2, hb3⟩
 have h1 : ∀ X, Below W.heap.size W X → Calls Tryz.prog 23 #[.slice ao la ca, .int .i64 10, .int .i64 3] X fun e w' => e = .returned (.bool b1) ∧ Below X.heap.size X w' := fun X hb => heavyPoly_any 10 3 ao la ca rs X ((hp.later HC.out.2).later hb) (by omega) (by decide) b1 hb1
 have h2 : ∀ X, Below W.heap.size W X → Calls Tryz.prog 23 #[.slice bo lb cb, .int .i64 10, .int .i64 3] X fun e w' => e = .returned (.bool b2) ∧ Below X.heap.size X w' := fun X hb => heavyPoly_any 10 3 bo lb cb ts X ((hs.later HC.out.2).later hb) (by omega) (by decide) b2 hb2
 have h3 : ∀ X, Calls Tryz.prog 24 #[.agg #[.bool n, .slice co lc cc], .int .i64 3] X fun e w' => e = .returned (.bool b3) ∧ Below X.heap.size X w' := fun X => (long_any n co lc cc 3 X).mono fun e w' h => by rw [hb3] at h; exact h
 clear hb1 hb2 hb3 hp hs
 cases b1
 ·
  cases b2
  ·
   cases b3
   ·
    have HF : Hid (heavyB 10 3 la rs = false ∧ heavyB 10 3 lb ts = false ∧ lc ≤ 3) := ⟨HB.out.1, HB.out.2.1, by have := of_decide_eq_false HB.out.2.2; omega⟩
    go_enter Tryz.func4, Tryz.ntmps4
    go_wp2_with (first
     | (go_at_call 24; refine (h3 _).mono ?_; rintro e w3 ⟨rfl, hb3'⟩; have hb3 := bnext hb2 hb3'; clear hb3' q2 q3; have q4 := HC.out.1 _ hb3 4 _ rfl; have q5 := HC.out.1 _ hb3 5 _ rfl; have q6 := HC.out.1 _ hb3 6 _ rfl)
     | (go_at_call 23; have _t := hb1; refine (h2 _ hb1).mono ?_; rintro e w2 ⟨rfl, hb2'⟩; have hb2 := bnext hb1 hb2'; clear hb2' q1; have q2 := HC.out.1 _ hb2 2 _ rfl; have q3 := HC.out.1 _ hb2 3 _ rfl)
     | (go_at_call 23; rw [← hW]; refine (h1 _ (Below.refl _ _)).mono ?_; rintro e w1 ⟨rfl, hb1⟩; have q1 := HC.out.1 _ hb1 1 _ rfl)
     | (go_at_call 25; have _t := hb5; refine (longRat4_any _ _ _ _ _ _ _ _ _).mono ?_; rintro e w6 ⟨b6, rfl, hb6'⟩; have hb6 := bnext hb5 hb6'; clear hb6' q10 q11 q12)
     | (go_at_call 25; have _t := hb4; refine (longRat4_any _ _ _ _ _ _ _ _ _).mono ?_; rintro e w5 ⟨b5, rfl, hb5'⟩; have hb5 := bnext hb4 hb5'; clear hb5' q7 q8 q9; have q10 := HC.out.1 _ hb5 10 _ rfl; have q11 := HC.out.1 _ hb5 11 _ rfl; have q12 := HC.out.1 _ hb5 12 _ rfl; cases b5)
     | (go_at_call 25; have _t := hb3; refine (longRat4s_any _ _ _ _ _ _ _ _ _).mono ?_; rintro e w4 ⟨b4, rfl, hs4, hb4'⟩; have hb4 := bnext hb3 hb4'; have HS4 : Hid (b4 = false → l4 ≤ 2 ∧ m4 ≤ 2) := (fun q => by have := hs4 q; omega); clear hb4' hs4 q4 q5 q6; have q7 := HC.out.1 _ hb4 7 _ rfl; have q8 := HC.out.1 _ hb4 8 _ rfl; have q9 := HC.out.1 _ hb4 9 _ rfl; cases b4 <;> first | (have HS5 : Hid (l4 ≤ 2 ∧ m4 ≤ 2) := HS4.out rfl; clear HS4) | clear HS4))
    all_goals go_ret
    all_goals first
     | exact ⟨_, rfl, fun _ => ⟨HF.out.1, HF.out.2.1, HF.out.2.2, HS5.out⟩, bnext HC.out.2 hb6⟩
     | exact ⟨_, rfl, fun _ => ⟨HF.out.1, HF.out.2.1, HF.out.2.2, HS5.out⟩, bnext HC.out.2 hb5⟩
     | exact ⟨_, rfl, fun h => (by cases h), bnext HC.out.2 hb4⟩
     | exact ⟨_, rfl, fun h => (by cases h), bnext HC.out.2 hb5⟩
     | exact ⟨_, rfl, fun h => (by cases h), bnext HC.out.2 hb6⟩
   ·
    go_enter Tryz.func4, Tryz.ntmps4
    go_wp2_with (first
     | (go_at_call 24; refine (h3 _).mono ?_; rintro e w3 ⟨rfl, hb3'⟩; have hb3 := bnext hb2 hb3'; clear hb3' q2 q3; have q4 := HC.out.1 _ hb3 4 _ rfl; have q5 := HC.out.1 _ hb3 5 _ rfl; have q6 := HC.out.1 _ hb3 6 _ rfl)
     | (go_at_call 23; have _t := hb1; refine (h2 _ hb1).mono ?_; rintro e w2 ⟨rfl, hb2'⟩; have hb2 := bnext hb1 hb2'; clear hb2' q1; have q2 := HC.out.1 _ hb2 2 _ rfl; have q3 := HC.out.1 _ hb2 3 _ rfl)
     | (go_at_call 23; rw [← hW]; refine (h1 _ (Below.refl _ _)).mono ?_; rintro e w1 ⟨rfl, hb1⟩; have q1 := HC.out.1 _ hb1 1 _ rfl))
    go_ret
    exact ⟨true, rfl, fun h => (by cases h), bnext HC.out.2 hb3⟩
  ·
   go_enter Tryz.func4, Tryz.ntmps4
   go_wp2_with (first
    | (go_at_call 23; have _t := hb1; refine (h2 _ hb1).mono ?_; rintro e w2 ⟨rfl, hb2'⟩; have hb2 := bnext hb1 hb2'; clear hb2' q1; have q2 := HC.out.1 _ hb2 2 _ rfl; have q3 := HC.out.1 _ hb2 3 _ rfl)
    | (go_at_call 23; rw [← hW]; refine (h1 _ (Below.refl _ _)).mono ?_; rintro e w1 ⟨rfl, hb1⟩; have q1 := HC.out.1 _ hb1 1 _ rfl))
   go_ret
   exact ⟨true, rfl, fun h => (by cases h), bnext HC.out.2 hb2⟩
 ·
  go_enter Tryz.func4, Tryz.ntmps4
  go_wp2_with (first
   | (go_at_call 23; rw [← hW]; refine (h1 _ (Below.refl _ _)).mono ?_; rintro e w1 ⟨rfl, hb1⟩; have q1 := HC.out.1 _ hb1 1 _ rfl))
  go_ret
  exact ⟨true, rfl, fun h => (by cases h), bnext HC.out.2 hb1⟩
def Item5 (w : World) (b o : Nat) : Prop := ∃ (ao bo co : Option Addr) (la ca lb cb lc cc : Nat) (n n4 n5 n6 : Bool) (o4 p4 o5 p5 o6 p6 : Option Addr) (l4 c4 m4 k4 l5 c5 m5 k5 l6 c6 m6 k6 : Nat) (rs ts : List (Bool × List Int)) (zs ds : List Int), (∀ (j : Nat) (u : Value), [.slice ao la ca, .slice bo lb cb, .bool n, .slice co lc cc, .bool n4, .slice o4 l4 c4, .slice p4 m4 k4, .bool n5, .slice o5 l5 c5, .slice p5 m5 k5, .bool n6, .slice o6 l6 c6, .slice p6 m6 k6][j]? = some u → w.cell? ⟨b, o + j, none⟩ = some u) ∧ (RawsAt w ao la ca rs ∧ RawsAt w bo lb cb ts ∧ ca ≤ 9223372036854775807 ∧ cb ≤ 9223372036854775807) ∧ RowAt w .u64 o4 l4 c4 zs ∧ Wd 18446744073709551616 zs ∧ RowAt w .u64 p4 m4 k4 ds ∧ Wd 18446744073709551616 ds
theorem Item5.elim {w : World} {b o : Nat} {P : Prop} (h : Item5 w b o) (k : ∀ (ao bo co : Option Addr) (la ca lb cb lc cc : Nat) (n n4 n5 n6 : Bool) (o4 p4 o5 p5 o6 p6 : Option Addr) (l4 c4 m4 k4 l5 c5 m5 k5 l6 c6 m6 k6 : Nat) (rs ts : List (Bool × List Int)) (zs ds : List Int), (∀ (j : Nat) (u : Value), [.slice ao la ca, .slice bo lb cb, .bool n, .slice co lc cc, .bool n4, .slice o4 l4 c4, .slice p4 m4 k4, .bool n5, .slice o5 l5 c5, .slice p5 m5 k5, .bool n6, .slice o6 l6 c6, .slice p6 m6 k6][j]? = some u → w.cell? ⟨b, o + j, none⟩ = some u) ∧ (RawsAt w ao la ca rs ∧ RawsAt w bo lb cb ts ∧ ca ≤ 9223372036854775807 ∧ cb ≤ 9223372036854775807) ∧ RowAt w .u64 o4 l4 c4 zs ∧ Wd 18446744073709551616 zs ∧ RowAt w .u64 p4 m4 k4 ds ∧ Wd 18446744073709551616 ds → P) : P := by
 obtain ⟨ao, bo, co, la, ca, lb, cb, lc, cc, n, n4, n5, n6, o4, p4, o5, p5, o6, p6, l4, c4, m4, k4, l5, c5, m5, k5, l6, c6, m6, k6, rs, ts, zs, ds, h⟩ := h
 exact k ao bo co la ca lb cb lc cc n n4 n5 n6 o4 p4 o5 p5 o6 p6 l4 c4 m4 k4 l5 c5 m5 k5 l6 c6 m6 k6 rs ts zs ds h
def Items5 (w : World) (lo : Option Addr) (n : Nat) : Prop := ∀ i, i < n → ∃ b off, lo = some ⟨b, off, none⟩ ∧ b < w.heap.size ∧ Item5 w b (off + i * 13)
theorem GP.mono {w : World} {ao : Option Addr} {l c A B : Nat} {p : List Int} (h : GP w ao l c A p) (h1 : A ≤ B) (h2 : B ≤ 100000) : GP w ao l c B p := ⟨h.at', h.lead, h.lims.mono h1, h.short, h2⟩
theorem eqpolys_at (ox oy : Option Addr) (lx cx ly cy A : Nat) (L M : List Int) (w : World) (hx : GP w ox lx cx A L) (hy : GP w oy ly cy A M) (h : L = M) : Calls Tryz.prog 8 #[.slice ox lx cx, .slice oy ly cy] w fun e w' => e = .returned (.bool true) ∧ Below w.heap.size w w' := by
 subst h
 obtain rfl : lx = ly := hx.at'.hlen.trans hy.at'.hlen.symm
 exact eqpoly_of (eqints_same ox oy lx cx cy L w hx.at' hy.at' (by have := hx.short; omega) (hx.lims.mono (by have := hx.small; omega)))
def RV5 (w : World) (r : Nat) (v : Rat) : Prop := ∃ n o l c p m k, Bx w r [.bool n, .slice o l c, .slice p m k] ∧ RatAt w n o l c p m k v
theorem RV5.lt {w : World} {r : Nat} {v : Rat} (h : RV5 w r v) : r < w.heap.size := by obtain ⟨n, o, l, c, p, m, k, h, _⟩ := h; exact h.lt
theorem RV5.later {w w' : World} {r : Nat} {v : Rat} (h : RV5 w r v) (hb : Below w.heap.size w w') : RV5 w' r v := by
 have hl := h.lt
 obtain ⟨n, o, l, c, p, m, k, h1, h2⟩ := h
 exact ⟨n, o, l, c, p, m, k, h1.later hb hl, h2.later hb⟩
theorem rv5_made {U y : World} {n : Bool} {o p : Option Addr} {l c m k : Nat} {v : Rat} (h : RatAt y n o l c p m k v) (hb : Below U.heap.size U y) : RV5 (y.alloc (.cells #[.bool n, .slice o l c, .slice p m k] 30)) y.heap.size v ∧ U.heap.size ≤ y.heap.size ∧ Below U.heap.size U (y.alloc (.cells #[.bool n, .slice o l c, .slice p m k] 30)) :=
 ⟨⟨n, o, l, c, p, m, k, Bx.new y [.bool n, .slice o l c, .slice p m k] _, h.later ((Below.refl _ _).alloc (Nat.le_refl _) _)⟩, hb.size, below_alloc hb (Nat.le_refl _)⟩
end Go.Proofs.YtgcahkhpbcklfaaGreatDoor
namespace Go.Proofs.YtgcahkhpbcklfaaGreatDoor
open Go.RowKit Go.Shelf
def XVar (Z : World) (r : Nat) (v : Int) : Prop := ∃ n o l c, Boxed Z r n o l c ∧ IntAt Z n o l c v ∧ ∀ j, Z.frozen? ⟨r, j, none⟩ = false
theorem XVar.later {Z Z' : World} {r : Nat} {v : Int} (h : XVar Z r v) (hb : Below Z.heap.size Z Z') : XVar Z' r v := by
 obtain ⟨n, o, l, c, h1, h2, h4⟩ := h
 have hr : r < Z.heap.size := cell_lt h1.1
 exact ⟨n, o, l, c, h1.later hb hr, h2.later hb, fun j => (hb.frozen (p := ⟨r, j, none⟩) hr).trans (h4 j)⟩
structure RPow (w Z : World) (g : Nat) (neg : Bool) (ao : Option Addr) (len cap : Nat) (v x : Int) : Prop where
 ba : Boxed Z w.heap.size neg ao len cap
 ia : IntAt Z neg ao len cap v
 fr : Fresh Z (w.heap.size + 1)
 vx : XVar Z g x
 gw : w.heap.size + 2 ≤ g
 gz : g < Z.heap.size
 bw : Below w.heap.size w Z
theorem RPow.later {w Z Z' : World} {g : Nat} {neg : Bool} {ao : Option Addr} {len cap : Nat} {v x : Int} (h : RPow w Z g neg ao len cap v x) (hb : Below Z.heap.size Z Z') : RPow w Z' g neg ao len cap v x := by
 have h1 := h.gw
 have h2 := h.gz
 exact ⟨h.ba.later hb (by omega), h.ia.later hb, h.fr.later hb (by omega), h.vx.later hb, h1, Nat.lt_of_lt_of_le h2 hb.size, bnext h.bw hb⟩
theorem RPow.put {w Z Z' : World} {g : Nat} {neg n : Bool} {ao o : Option Addr} {len cap l c : Nat} {v x y : Int} (h : RPow w Z g neg ao len cap v x) (hb : Below Z.heap.size Z Z') (hi : IntAt Z' n o l c y) : RPow w ((Z'.setCell ⟨g, 0, none⟩ (.bool n)).setCell ⟨g, 1, none⟩ (.slice o l c)) g neg ao len cap v y := by
 have k := h.later hb
 have h1 := k.gw
 have h2 := k.gz
 obtain ⟨n', o', l', c', hx, _, hf⟩ := k.vx
 exact ⟨boxed_far k.ba (by omega) _ _, ⟨k.ia.sg, k.ia.row.boxed hx _ _⟩, fresh_far k.fr (by omega) _ _, ⟨_, _, _, _, boxed_new hx, ⟨hi.sg, hi.row.boxed hx _ _⟩, fun j => by rw [frozen_far, frozen_far]; exact hf j⟩, h1, by simpa [World.setCell] using h2, below_store k.bw (by omega) _ _⟩
theorem RPow.first {w W w1 : World} {neg n : Bool} {ao o : Option Addr} {len cap l c : Nat} {v x : Int} (hT : One2 w W neg ao len cap) (hx : IntAt W neg ao len cap v) (hb : Below W.heap.size W w1) (hi : IntAt w1 n o l c x) : RPow w (w1.alloc (.cells #[.bool n, .slice o l c] 28)) w1.heap.size neg ao len cap v x := by
 have hA : Below w1.heap.size w1 (w1.alloc (.cells #[.bool n, .slice o l c] 28)) := (Below.refl _ _).alloc (Nat.le_refl _) _
 have hs := hT.size
 have hz := hb.size
 have hWA := bnext hb hA
 exact ⟨hT.a.later hWA (by omega), hx.later hWA, hT.r.later hWA (by omega), ⟨n, o, l, c, ⟨by simp [go_sem], by simp [go_sem]⟩, hi.later hA, fun j => by simp [go_sem]⟩, by omega, by simp, bnext hT.below hWA⟩
theorem RPow.last {w Z : World} {g : Nat} {neg n : Bool} {ao o : Option Addr} {len cap l c : Nat} {v x : Int} (h : RPow w Z g neg ao len cap v x) (hb : Boxed Z g n o l c) (hi : IntAt Z n o l c x) (u1 u2 : Value) : RefInt w ((Z.setCell ⟨w.heap.size + 1, 0, none⟩ u1).setCell ⟨w.heap.size + 1, 1, none⟩ u2) (.returned (.agg #[.bool n, .slice o l c])) x :=
 ⟨_, _, _, _, rfl, ⟨hi.sg, hi.row.kept h.fr _ _⟩, below_store h.bw (by omega) _ _⟩
theorem len_pow (v : Int) (k : Nat) : (mag (v ^ k).natAbs).length ≤ (mag v.natAbs).length * k + 1 := by
 rw [Int.natAbs_pow]; exact mag_len_pow _ _
theorem rpow_any (neg : Bool) (ao : Option Addr) (len cap n : Nat) (v : Int) (w : World) (hx : IntAt w neg ao len cap v) (hl : len ≤ 1000) (hn : n ≤ 64) :
  Calls Tryz.prog 19 #[.agg #[.bool neg, .slice ao len cap], .int .i64 (n : Int)] w fun e w' => RefInt w w' e (v ^ n) := by
 obtain ⟨W, hT⟩ := One2.mk' w neg ao len cap
 have hsz := hT.size
 have hR := hx.later hT.below
 have HLV : Hid ((mag v.natAbs).length ≤ 1000) := by show _ ≤ _; rw [← hx.row.hlen]; exact hl
 clear hx
 go_enter Tryz.func19, Tryz.ntmps19
 go_wp2_with (go_at_call 48; rw [← hT.eq]; refine (rfrom_any 1 _ (by decide) (by decide)).mono ?_; rintro e w1 ⟨n1, o1, l1, c1, rfl, hs1, ho1, hb1⟩; have HF : Hid (RPow w (w1.alloc (.cells #[.bool n1, .slice o1 l1 c1] 28)) w1.heap.size neg ao len cap v 1) := RPow.first hT hR hb1 ⟨hs1, ho1.row⟩; clear hs1 ho1 hb1)
 obtain ⟨g, hg⟩ : ∃ g, w1.heap.size = g := ⟨_, rfl⟩
 rw [hg] at HF
 rw [hg]
 clear hg hR hT
 go_loopw [6] (fun i wr => ∃ k : Nat, k ≤ n ∧ i = .int .i64 k ∧ RPow w wr g neg ao len cap v (v ^ k)) (fun i _ => n - (intOf i).toNat)
 case atStart => exact ⟨0, Nat.zero_le _, rfl, by rw [Int.pow_zero]; exact HF.out⟩
 case round =>
  obtain ⟨k, hk, rfl, hst⟩ := hrel
  have HS : Hid (RPow w wr g neg ao len cap v (v ^ k)) := hst
  obtain ⟨a0, a1⟩ := hst.ba
  obtain ⟨n5, o5, l5, c5, ⟨x0, x1⟩, hi5, hf5⟩ := hst.vx
  have HI : Hid (IntAt wr n5 o5 l5 c5 (v ^ k) ∧ Boxed wr g n5 o5 l5 c5) := ⟨hi5, x0, x1⟩
  have hgz := hst.gz
  obtain ⟨g5, g3, g4⟩ := hst.fr
  have hl5 : l5 ≤ 100000 := by
   rw [hi5.row.hlen]
   refine Nat.le_trans (len_pow v k) ?_
   have h1 : (mag v.natAbs).length * k ≤ 1000 * 64 := Nat.mul_le_mul HLV.out (by omega)
   omega
  clear hst hi5
  by_cases hlt : k < n
  ·
   go_wp2_with (go_at_call 39; refine (rtimes_any n5 neg o5 ao l5 c5 len cap (v ^ k) v _ HI.out.1 HS.out.ia (by omega) (by omega)).mono ?_; rintro e w2 ⟨n6, o6, l6, c6, rfl, hs6, ho6, hb6⟩; have HA : Hid (IntAt w2 n6 o6 l6 c6 (v ^ (k + 1)) ∧ Below wr.heap.size wr w2) := ⟨(by rw [Int.pow_succ]; exact ⟨hs6, ho6.row⟩), hb6⟩; clear x0 x1; obtain ⟨x0, x1⟩ := HI.out.2.later hb6 hgz; have hfz : ∀ j, w2.frozen? ⟨g, j, none⟩ = false := (fun j => (hb6.frozen (p := ⟨g, j, none⟩) hgz).trans (hf5 j)); clear hs6 ho6)
   go_roundw
   case rel => exact ⟨k + 1, by omega, by go_num, HS.out.put HA.out.2 HA.out.1⟩
   case measure => simp [intOf]; omega
  ·
   obtain rfl : k = n := by omega
   go_wp2
   exact bodyPost_ret (v := .agg #[.bool n5, .slice o5 l5 c5]) (by simp [results, Tryz.results19, go_sem, g3, g4]) rfl
    (HS.out.last HI.out.2 HI.out.1 _ _)
end Go.Proofs.YtgcahkhpbcklfaaGreatDoor
