/-
  A pack of walks and facts: QD, UM, YM, OI.
-/
import Derived.Test.YthjkdnlbdhhmbaaGreatDoorPV33
set_option maxRecDepth 100000
set_option maxHeartbeats 40000000
set_option linter.unusedVariables false
set_option linter.unusedSimpArgs false
namespace Go.Proofs.YthjkdnlbdhhmbaaGreatDoor
open Go.RowKit
theorem eqspan_rawP (n1 n2 : Bool) (o1 p1 o2 p2 o3 p3 o4 p4 : Option Addr) (l1 c1 m1 k1 l2 c2 m2 k2 l3 c3 m3 k3 l4 c4 m4 k4 : Nat) (x1 d1 x2 d2 : List Int) (w : World) (h1 : RowAt w .u64 o1 l1 c1 x1 ∧ RowAt w .u64 p1 m1 k1 d1) (h2 : RowAt w .u64 o2 l2 c2 x2 ∧ RowAt w .u64 p2 m2 k2 d2) (h3 : RowAt w .u64 o3 l3 c3 x1 ∧ RowAt w .u64 p3 m3 k3 d1) (h4 : RowAt w .u64 o4 l4 c4 x2 ∧ RowAt w .u64 p4 m4 k4 d2) (hl1 : l1 ≤ 1073741824) (hm1 : m1 ≤ 1073741824) (hl2 : l2 ≤ 1073741824) (hm2 : m2 ≤ 1073741824) :
  Calls Tryz.prog 14 #[.agg #[.bool n1, .slice o1 l1 c1, .slice p1 m1 k1, .bool n2, .slice o2 l2 c2, .slice p2 m2 k2], .agg #[.bool n1, .slice o3 l3 c3, .slice p3 m3 k3, .bool n2, .slice o4 l4 c4, .slice p4 m4 k4]] w fun e w' => e = .returned (.bool true) ∧ Below w.heap.size w w' := by
 obtain ⟨W, hW, hsz, hbW, hA, hB⟩ := enter2 w [.bool n1, .slice o1 l1 c1, .slice p1 m1 k1, .bool n2, .slice o2 l2 c2, .slice p2 m2 k2] [.bool n1, .slice o3 l3 c3, .slice p3 m3 k3, .bool n2, .slice o4 l4 c4, .slice p4 m4 k4] 32 32
 have HX : Hid ((RowAt W .u64 o1 l1 c1 x1 ∧ RowAt W .u64 p1 m1 k1 d1) ∧ (RowAt W .u64 o2 l2 c2 x2 ∧ RowAt W .u64 p2 m2 k2 d2) ∧ (RowAt W .u64 o3 l3 c3 x1 ∧ RowAt W .u64 p3 m3 k3 d1) ∧ (RowAt W .u64 o4 l4 c4 x2 ∧ RowAt W .u64 p4 m4 k4 d2)) := ⟨⟨h1.1.later hbW, h1.2.later hbW⟩, ⟨h2.1.later hbW, h2.2.later hbW⟩, ⟨h3.1.later hbW, h3.2.later hbW⟩, ⟨h4.1.later hbW, h4.2.later hbW⟩⟩
 clear h1 h2 h3 h4
 go_enter Tryz.func14, Tryz.ntmps14
 go_wp2_with (first
  | (go_at_call 12; have _t := hb1; refine (eqraw_same n2 o2 p2 o4 p4 l2 c2 m2 k2 l4 c4 m4 k4 x2 d2 _ (HX.out.2.1.1.later hb1) (HX.out.2.1.2.later hb1) (HX.out.2.2.2.1.later hb1) (HX.out.2.2.2.2.later hb1) hl2 hm2).mono ?_; rintro e w2 ⟨rfl, hb2⟩)
  | (go_at_call 12; rw [← hW]; refine (eqraw_same n1 o1 p1 o3 p3 l1 c1 m1 k1 l3 c3 m3 k3 x1 d1 _ HX.out.1.1 HX.out.1.2 HX.out.2.2.1.1 HX.out.2.2.1.2 hl1 hm1).mono ?_; rintro e w1 ⟨rfl, hb1⟩; have ub := hA.later hb1 (by omega); have u0 := ub.1 0 _ rfl; have u1 := ub.1 1 _ rfl; have u2 := ub.1 2 _ rfl; have u3 := ub.1 3 _ rfl; have u4 := ub.1 4 _ rfl; have u5 := ub.1 5 _ rfl; clear ub; have qb := hB.later hb1 (by omega); have q0 := qb.1 0 _ rfl; have q1 := qb.1 1 _ rfl; have q2 := qb.1 2 _ rfl; have q3 := qb.1 3 _ rfl; have q4 := qb.1 4 _ rfl; have q5 := qb.1 5 _ rfl; clear qb))
 go_ret
 exact ⟨rfl, bnext hbW (bnext hb1 hb2)⟩
def CkP (w : World) (ao : Option Addr) (len cap : Nat) (q : Int) : Prop := ∀ X, Below w.heap.size w X → Calls Tryz.prog 27 #[.slice ao len cap] X fun e w' => e = .returned (.int .i64 q) ∧ Below X.heap.size X w'
def CkR (w : World) (n : Bool) (o q : Option Addr) (l c m k : Nat) (r : Int) : Prop := ∀ X, Below w.heap.size w X → Calls Tryz.prog 28 #[.agg #[.bool n, .slice o l c, .slice q m k]] X fun e w' => e = .returned (.int .i64 r) ∧ Below X.heap.size X w'
def CkS (w : World) (n1 n2 : Bool) (o1 p1 o2 p2 : Option Addr) (l1 c1 m1 k1 l2 c2 m2 k2 : Nat) (r : Int) : Prop := ∀ X, Below w.heap.size w X → Calls Tryz.prog 30 #[.agg #[.bool n1, .slice o1 l1 c1, .slice p1 m1 k1, .bool n2, .slice o2 l2 c2, .slice p2 m2 k2]] X fun e w' => e = .returned (.int .i64 r) ∧ Below X.heap.size X w'
theorem CkP.later {w w' : World} {ao : Option Addr} {len cap : Nat} {q : Int} (h : CkP w ao len cap q) (hb : Below w.heap.size w w') : CkP w' ao len cap q := fun X hX => h X (bnext hb hX)
theorem peval_bad (ao : Option Addr) (len cap : Nat) (n : Bool) (o q : Option Addr) (l c m k : Nat) (w : World) (h : CkP w ao len cap 50 ∨ (CkP w ao len cap 0 ∧ CkR w n o q l c m k 20)) :
  Calls Tryz.prog 9 #[.slice ao len cap, .agg #[.bool n, .slice o l c, .slice q m k]] w fun e w' => e = .returned (.tuple #[.agg #[.bool false, .slice none 0 0, .slice none 0 0], .int .i64 50]) ∧ Below w.heap.size w w' := by
 obtain ⟨W, hW⟩ : ∃ W, W = (w.alloc (.cells #[.bool n, .slice o l c, .slice q m k] 30)).alloc (.cells #[.bool false, .slice none 0 0, .slice none 0 0] 30) := ⟨_, rfl⟩
 have HWE : Hid (W = (w.alloc (.cells #[.bool n, .slice o l c, .slice q m k] 30)).alloc (.cells #[.bool false, .slice none 0 0, .slice none 0 0] 30)) := hW
 have HV : Hid (Vars w W [(w.heap.size + 1, [.bool false, .slice none 0 0, .slice none 0 0]), (w.heap.size, [.bool n, .slice o l c, .slice q m k])]) := by
  rw [hW]
  exact ((Vars.nil w).alloc rfl [.bool n, .slice o l c, .slice q m k] _).alloc (by simp) [.bool false, .slice none 0 0, .slice none 0 0] _
 clear hW
 rcases h with h | ⟨h, h2⟩
 ·
  have HP : Hid (CkP w ao len cap 50) := h
  clear h
  go_enter Tryz.func9, Tryz.ntmps9
  go_wp2_with (go_at_call 27; rw [← HWE.out]; refine (HP.out W HV.out.below).mono ?_; rintro e w1 ⟨rfl, hb1⟩; have H1 : Hid (Below W.heap.size W w1) := hb1; clear hb1; have hv := HV.out.later H1.out; have y0 := hv.cell 0 0 rfl rfl; have y1 := hv.cell 0 1 rfl rfl; have y2 := hv.cell 0 2 rfl rfl; have yf := hv.soft 0 rfl; clear hv)
  exact bodyPost_ret (v := .tuple #[.agg #[.bool false, .slice none 0 0, .slice none 0 0], .int .i64 50]) (by simp [results, Tryz.results9, go_sem, y0, y1, y2, yf]) rfl
   ⟨rfl, ((HV.out.later H1.out).put3 0 rfl _ _ _).below⟩
 ·
  have HP : Hid (CkP w ao len cap 0 ∧ CkR w n o q l c m k 20) := ⟨h, h2⟩
  clear h h2
  go_enter Tryz.func9, Tryz.ntmps9
  go_wp2_with (first
   | (go_at_call 27; rw [← HWE.out]; refine (HP.out.1 W HV.out.below).mono ?_; rintro e w1 ⟨rfl, hb1⟩; have H1 : Hid (Below W.heap.size W w1) := hb1; clear hb1; have hv := HV.out.later H1.out; have x0 := hv.cell 1 0 rfl rfl; have x1 := hv.cell 1 1 rfl rfl; have x2 := hv.cell 1 2 rfl rfl; clear hv)
   | (go_at_call 28; refine (HP.out.2 _ (bnext HV.out.below H1.out)).mono ?_; rintro e w2 ⟨rfl, hb2⟩; have H2 : Hid (Below W.heap.size W w2) := bnext H1.out hb2; clear hb2 x0 x1 x2; have hv := HV.out.later H2.out; have y0 := hv.cell 0 0 rfl rfl; have y1 := hv.cell 0 1 rfl rfl; have y2 := hv.cell 0 2 rfl rfl; have yf := hv.soft 0 rfl; clear hv))
  exact bodyPost_ret (v := .tuple #[.agg #[.bool false, .slice none 0 0, .slice none 0 0], .int .i64 50]) (by simp [results, Tryz.results9, go_sem, y0, y1, y2, yf]) rfl
   ⟨rfl, ((HV.out.later H2.out).put3 0 rfl _ _ _).below⟩
theorem pevspan_bad (ao : Option Addr) (len cap : Nat) (n1 n2 : Bool) (o1 p1 o2 p2 : Option Addr) (l1 c1 m1 k1 l2 c2 m2 k2 : Nat) (w : World) (h : CkP w ao len cap 50 ∨ (CkP w ao len cap 0 ∧ CkS w n1 n2 o1 p1 o2 p2 l1 c1 m1 k1 l2 c2 m2 k2 40)) :
  Calls Tryz.prog 10 #[.slice ao len cap, .agg #[.bool n1, .slice o1 l1 c1, .slice p1 m1 k1, .bool n2, .slice o2 l2 c2, .slice p2 m2 k2]] w fun e w' => e = .returned (.tuple #[.agg #[.bool false, .slice none 0 0, .slice none 0 0, .bool false, .slice none 0 0, .slice none 0 0], .int .i64 50]) ∧ Below w.heap.size w w' := by
 obtain ⟨W, hW⟩ : ∃ W, W = (w.alloc (.cells #[.bool n1, .slice o1 l1 c1, .slice p1 m1 k1, .bool n2, .slice o2 l2 c2, .slice p2 m2 k2] 32)).alloc (.cells #[.bool false, .slice none 0 0, .slice none 0 0, .bool false, .slice none 0 0, .slice none 0 0] 32) := ⟨_, rfl⟩
 have HWE : Hid (W = (w.alloc (.cells #[.bool n1, .slice o1 l1 c1, .slice p1 m1 k1, .bool n2, .slice o2 l2 c2, .slice p2 m2 k2] 32)).alloc (.cells #[.bool false, .slice none 0 0, .slice none 0 0, .bool false, .slice none 0 0, .slice none 0 0] 32)) := hW
 have HV : Hid (Vars w W [(w.heap.size + 1, [.bool false, .slice none 0 0, .slice none 0 0, .bool false, .slice none 0 0, .slice none 0 0]), (w.heap.size, [.bool n1, .slice o1 l1 c1, .slice p1 m1 k1, .bool n2, .slice o2 l2 c2, .slice p2 m2 k2])]) := by
  rw [hW]
  exact ((Vars.nil w).alloc rfl [.bool n1, .slice o1 l1 c1, .slice p1 m1 k1, .bool n2, .slice o2 l2 c2, .slice p2 m2 k2] _).alloc (by simp) [.bool false, .slice none 0 0, .slice none 0 0, .bool false, .slice none 0 0, .slice none 0 0] _
 clear hW
 rcases h with h | ⟨h, h2⟩
 ·
  have HP : Hid (CkP w ao len cap 50) := h
  clear h
  go_enter Tryz.func10, Tryz.ntmps10
  go_wp2_with (go_at_call 27; rw [← HWE.out]; refine (HP.out W HV.out.below).mono ?_; rintro e w1 ⟨rfl, hb1⟩; have H1 : Hid (Below W.heap.size W w1) := hb1; clear hb1; have hv := HV.out.later H1.out; have y0 := hv.cell 0 0 rfl rfl; have y1 := hv.cell 0 1 rfl rfl; have y2 := hv.cell 0 2 rfl rfl; have y3 := hv.cell 0 3 rfl rfl; have y4 := hv.cell 0 4 rfl rfl; have y5 := hv.cell 0 5 rfl rfl; have yf := hv.soft 0 rfl; clear hv)
  exact bodyPost_ret (v := .tuple #[.agg #[.bool false, .slice none 0 0, .slice none 0 0, .bool false, .slice none 0 0, .slice none 0 0], .int .i64 50]) (by simp [results, Tryz.results10, go_sem, y0, y1, y2, y3, y4, y5, yf]) rfl
   ⟨rfl, ((HV.out.later H1.out).put6 0 rfl _ _ _ _ _ _).below⟩
 ·
  have HP : Hid (CkP w ao len cap 0 ∧ CkS w n1 n2 o1 p1 o2 p2 l1 c1 m1 k1 l2 c2 m2 k2 40) := ⟨h, h2⟩
  clear h h2
  go_enter Tryz.func10, Tryz.ntmps10
  go_wp2_with (first
   | (go_at_call 27; rw [← HWE.out]; refine (HP.out.1 W HV.out.below).mono ?_; rintro e w1 ⟨rfl, hb1⟩; have H1 : Hid (Below W.heap.size W w1) := hb1; clear hb1; have hv := HV.out.later H1.out; have x0 := hv.cell 1 0 rfl rfl; have x1 := hv.cell 1 1 rfl rfl; have x2 := hv.cell 1 2 rfl rfl; have x3 := hv.cell 1 3 rfl rfl; have x4 := hv.cell 1 4 rfl rfl; have x5 := hv.cell 1 5 rfl rfl; clear hv)
   | (go_at_call 30; refine (HP.out.2 _ (bnext HV.out.below H1.out)).mono ?_; rintro e w2 ⟨rfl, hb2⟩; have H2 : Hid (Below W.heap.size W w2) := bnext H1.out hb2; clear hb2 x0 x1 x2 x3 x4 x5; have hv := HV.out.later H2.out; have y0 := hv.cell 0 0 rfl rfl; have y1 := hv.cell 0 1 rfl rfl; have y2 := hv.cell 0 2 rfl rfl; have y3 := hv.cell 0 3 rfl rfl; have y4 := hv.cell 0 4 rfl rfl; have y5 := hv.cell 0 5 rfl rfl; have yf := hv.soft 0 rfl; clear hv))
  exact bodyPost_ret (v := .tuple #[.agg #[.bool false, .slice none 0 0, .slice none 0 0, .bool false, .slice none 0 0, .slice none 0 0], .int .i64 50]) (by simp [results, Tryz.results10, go_sem, y0, y1, y2, y3, y4, y5, yf]) rfl
   ⟨rfl, ((HV.out.later H2.out).put6 0 rfl _ _ _ _ _ _).below⟩
def EArg (w : World) (ao : Option Addr) (len cap : Nat) (p : List Int) (n : Bool) (o q : Option Addr) (l c m k : Nat) (a : Rat) (v : Int) : Prop := (v = 0 ∧ GP w ao len cap 3 p ∧ RatAt w n o l c q m k a ∧ Sz a 2 ∧ p.length ≤ 11) ∨ (v = 50 ∧ (CkP w ao len cap 50 ∨ (CkP w ao len cap 0 ∧ CkR w n o q l c m k 20)))
theorem EArg.later {w w' : World} {ao : Option Addr} {len cap : Nat} {p : List Int} {n : Bool} {o q : Option Addr} {l c m k : Nat} {a : Rat} {v : Int} (h : EArg w ao len cap p n o q l c m k a v) (hb : Below w.heap.size w w') : EArg w' ao len cap p n o q l c m k a v := by
 rcases h with ⟨h0, h1, h2, h3⟩ | ⟨h0, h1 | ⟨h1, h2⟩⟩
 ·
  exact Or.inl ⟨h0, h1.later hb, h2.later hb, h3⟩
 ·
  exact Or.inr ⟨h0, Or.inl (h1.later hb)⟩
 ·
  exact Or.inr ⟨h0, Or.inr ⟨h1.later hb, fun X hX => h2 X (bnext hb hX)⟩⟩
def SArg (w : World) (ao : Option Addr) (len cap : Nat) (p : List Int) (n1 n2 : Bool) (o1 p1 o2 p2 : Option Addr) (l1 c1 m1 k1 l2 c2 m2 k2 : Nat) (a b : Rat) (v : Int) : Prop := (v = 0 ∧ GP w ao len cap 3 p ∧ (RatAt w n1 o1 l1 c1 p1 m1 k1 a ∧ RatAt w n2 o2 l2 c2 p2 m2 k2 b) ∧ Sz a 2 ∧ Sz b 2 ∧ cmpQ a b ≤ 0 ∧ p.length ≤ 11) ∨ (v = 50 ∧ (CkP w ao len cap 50 ∨ (CkP w ao len cap 0 ∧ CkS w n1 n2 o1 p1 o2 p2 l1 c1 m1 k1 l2 c2 m2 k2 40)))
theorem SArg.later {w w' : World} {ao : Option Addr} {len cap : Nat} {p : List Int} {n1 n2 : Bool} {o1 p1 o2 p2 : Option Addr} {l1 c1 m1 k1 l2 c2 m2 k2 : Nat} {a b : Rat} {v : Int} (h : SArg w ao len cap p n1 n2 o1 p1 o2 p2 l1 c1 m1 k1 l2 c2 m2 k2 a b v) (hb : Below w.heap.size w w') : SArg w' ao len cap p n1 n2 o1 p1 o2 p2 l1 c1 m1 k1 l2 c2 m2 k2 a b v := by
 rcases h with ⟨h0, h1, ⟨h2, h4⟩, h3⟩ | ⟨h0, h1 | ⟨h1, h2⟩⟩
 ·
  exact Or.inl ⟨h0, h1.later hb, ⟨h2.later hb, h4.later hb⟩, h3⟩
 ·
  exact Or.inr ⟨h0, Or.inl (h1.later hb)⟩
 ·
  exact Or.inr ⟨h0, Or.inr ⟨h1.later hb, fun X hX => h2 X (bnext hb hX)⟩⟩
def EVal (w : World) (v : Int) (n : Bool) (o q : Option Addr) (l c m k : Nat) (x : Rat) : Prop := (v = 0 ∧ RatAt w n o l c q m k x) ∨ (v = 50 ∧ n = false ∧ o = none ∧ q = none ∧ l = 0 ∧ c = 0 ∧ m = 0 ∧ k = 0)
theorem EVal.later {w w' : World} {n : Bool} {o q : Option Addr} {l c m k : Nat} {v : Int} {x : Rat} (h : EVal w v n o q l c m k x) (hb : Below w.heap.size w w') : EVal w' v n o q l c m k x := by
 rcases h with ⟨h0, h1⟩ | h
 ·
  exact Or.inl ⟨h0, h1.later hb⟩
 ·
  exact Or.inr h
theorem peval_is (ao : Option Addr) (len cap : Nat) (p : List Int) (n : Bool) (o q : Option Addr) (l c m k : Nat) (a : Rat) (v : Int) (w : World) (h : EArg w ao len cap p n o q l c m k a v) (hT : TabAt 0 Lib.deBruijn64tab w) :
  Calls Tryz.prog 9 #[.slice ao len cap, .agg #[.bool n, .slice o l c, .slice q m k]] w fun e w' => ∃ n o l c q m k, e = .returned (.tuple #[.agg #[.bool n, .slice o l c, .slice q m k], .int .i64 v]) ∧ EVal w' v n o q l c m k (evQ p a) ∧ Below w.heap.size w w' := by
 rcases h with ⟨rfl, h1, h2, h3, h4⟩ | ⟨rfl, h⟩
 ·
  refine (geval_any ao len cap 3 p n o q l c m k a w h1 (by decide) h2 h3 hT).mono ?_
  rintro e w' ⟨n9, o9, l9, c9, p9, m9, k9, rfl, hs9, ho9, hp9, _, hb⟩
  exact ⟨n9, o9, l9, c9, p9, m9, k9, rfl, Or.inl ⟨rfl, ho9.int hs9, hp9.row⟩, hb⟩
 ·
  refine (peval_bad ao len cap n o q l c m k w h).mono ?_
  rintro e w' ⟨rfl, hb⟩
  exact ⟨_, _, _, _, _, _, _, rfl, Or.inr ⟨rfl, rfl, rfl, rfl, rfl, rfl, rfl, rfl⟩, hb⟩
def SVal (w : World) (v : Int) (n1 n2 : Bool) (o1 p1 o2 p2 : Option Addr) (l1 c1 m1 k1 l2 c2 m2 k2 : Nat) (x y : Rat) : Prop := (v = 0 ∧ RatAt w n1 o1 l1 c1 p1 m1 k1 x ∧ RatAt w n2 o2 l2 c2 p2 m2 k2 y) ∨ (v = 50 ∧ (n1 = false ∧ o1 = none ∧ p1 = none ∧ l1 = 0 ∧ c1 = 0 ∧ m1 = 0 ∧ k1 = 0) ∧ n2 = false ∧ o2 = none ∧ p2 = none ∧ l2 = 0 ∧ c2 = 0 ∧ m2 = 0 ∧ k2 = 0)
theorem SVal.later {w w' : World} {n1 n2 : Bool} {o1 p1 o2 p2 : Option Addr} {l1 c1 m1 k1 l2 c2 m2 k2 : Nat} {v : Int} {x y : Rat} (h : SVal w v n1 n2 o1 p1 o2 p2 l1 c1 m1 k1 l2 c2 m2 k2 x y) (hb : Below w.heap.size w w') : SVal w' v n1 n2 o1 p1 o2 p2 l1 c1 m1 k1 l2 c2 m2 k2 x y := by
 rcases h with ⟨h0, h1, h2⟩ | h
 ·
  exact Or.inl ⟨h0, h1.later hb, h2.later hb⟩
 ·
  exact Or.inr h
theorem pevspan_is (ao : Option Addr) (len cap : Nat) (p : List Int) (n1 n2 : Bool) (o1 p1 o2 p2 : Option Addr) (l1 c1 m1 k1 l2 c2 m2 k2 : Nat) (a b : Rat) (v : Int) (w : World) (h : SArg w ao len cap p n1 n2 o1 p1 o2 p2 l1 c1 m1 k1 l2 c2 m2 k2 a b v) (hT : TabAt 0 Lib.deBruijn64tab w) :
  Calls Tryz.prog 10 #[.slice ao len cap, .agg #[.bool n1, .slice o1 l1 c1, .slice p1 m1 k1, .bool n2, .slice o2 l2 c2, .slice p2 m2 k2]] w fun e w' => ∃ n1 o1 l1 c1 p1 m1 k1 n2 o2 l2 c2 p2 m2 k2, e = .returned (.tuple #[.agg #[.bool n1, .slice o1 l1 c1, .slice p1 m1 k1, .bool n2, .slice o2 l2 c2, .slice p2 m2 k2], .int .i64 v]) ∧ SVal w' v n1 n2 o1 p1 o2 p2 l1 c1 m1 k1 l2 c2 m2 k2 (vLo p a b) (vHi p a b) ∧ Below w.heap.size w w' := by
 rcases h with ⟨rfl, h1, ⟨h2, h3⟩, h4, h5, h6, _⟩ | ⟨rfl, h⟩
 ·
  refine (evalSpan_good ao len cap p n1 n2 o1 p1 o2 p2 l1 c1 m1 k1 l2 c2 m2 k2 a b w h1 h2 h3 h4 h5 h6 hT).mono ?_
  rintro e w' ⟨n9, o9, l9, c9, p9, m9, k9, n8, o8, l8, c8, p8, m8, k8, rfl, hX, hY, hb⟩
  exact ⟨n9, o9, l9, c9, p9, m9, k9, n8, o8, l8, c8, p8, m8, k8, rfl, Or.inl ⟨rfl, hX, hY⟩, hb⟩
 ·
  refine (pevspan_bad ao len cap n1 n2 o1 p1 o2 p2 l1 c1 m1 k1 l2 c2 m2 k2 w h).mono ?_
  rintro e w' ⟨rfl, hb⟩
  exact ⟨_, _, _, _, _, _, _, _, _, _, _, _, _, _, rfl, Or.inr ⟨rfl, ⟨rfl, rfl, rfl, rfl, rfl, rfl, rfl⟩, rfl, rfl, rfl, rfl, rfl, rfl, rfl⟩, hb⟩
theorem rform_is (n : Bool) (o q : Option Addr) (l c m k : Nat) (zs ds : List Int) (w : World) (hz : RowAt w .u64 o l c zs) (wz : Wd 18446744073709551616 zs) (hd : RowAt w .u64 q m k ds) (wd : Wd 18446744073709551616 ds) (hl : l ≤ 2) (hm : m ≤ 2) (hT0 : TabAt 0 Lib.deBruijn64tab w) :
  ∃ r : Bool, (∀ X, Below w.heap.size w X → Calls Tryz.prog 7 #[.agg #[.bool n, .slice o l c, .slice q m k]] X fun e w' => e = .returned (.bool r) ∧ Below X.heap.size X w') ∧ CkR w n o q l c m k (if r then 0 else 20) ∧ ∃ a : Rat, (r = true → RatAt w n o l c q m k a ∧ Sz a 2) := by
 cases hr : mayR n zs ds
 ·
  exact ⟨false, fun X hX => (qmay_any n o q l c m k zs ds X (hz.later hX) wz (hd.later hX) wd (by omega) (by omega) false hr), fun X hX => rcheck_bad n o q l c m k zs ds X (hz.later hX) wz (hd.later hX) wd (by omega) (by omega) (tab_later hT0 hX) hr, 0, fun e => by cases e⟩
 ·
  obtain ⟨a, ha, _⟩ := rat_of_may hz wz hd wd hr
  exact ⟨true, fun X hX => (qmay_any n o q l c m k zs ds X (hz.later hX) wz (hd.later hX) wd (by omega) (by omega) true hr), fun X hX => rcheck_good n o q l c m k a X (ha.later hX) (by omega) (by omega) (tab_later hT0 hX), a, fun _ => ⟨ha, ha.sz hl hm⟩⟩
theorem earg_of {w : World} {ao : Option Addr} {len cap : Nat} {rs : List (Bool × List Int)} {mP r : Bool} {p : List Int} {n : Bool} {o q : Option Addr} {l c m k : Nat} {a : Rat} (hp : PArg w ao len cap rs mP p) (hc : CkR w n o q l c m k (if r then 0 else 20)) (hg : r = true → RatAt w n o l c q m k a ∧ Sz a 2) : EArg w ao len cap p n o q l c m k a (if mP && r then 0 else 50) := by
 have hck : CkP w ao len cap (if mP then 0 else 50) := fun X hX => pcheck_is ao len cap rs X (hp.raws.later hX) (by have := hp.short; omega) (fun t => Nat.le_trans (hp.lims t) (by decide)) _ (by rw [hp.may])
 cases mP
 ·
  exact Or.inr ⟨rfl, Or.inl hck⟩
 ·
  cases r
  ·
   exact Or.inr ⟨rfl, Or.inr ⟨hck, hc⟩⟩
  ·
   obtain ⟨h1, h2, h3⟩ := hp.good rfl
   exact Or.inl ⟨rfl, ⟨h1, h2, h3, by have := hp.short; omega, by decide⟩, (hg rfl).1, (hg rfl).2, by rw [← h1.hlen]; exact hp.short⟩
theorem sarg_of {w : World} {ao : Option Addr} {len cap : Nat} {rs : List (Bool × List Int)} {mP r : Bool} {p : List Int} {n1 n2 : Bool} {o1 p1 o2 p2 : Option Addr} {l1 c1 m1 k1 l2 c2 m2 k2 : Nat} {a b : Rat} (hp : PArg w ao len cap rs mP p) (hc : CkS w n1 n2 o1 p1 o2 p2 l1 c1 m1 k1 l2 c2 m2 k2 (if r then 0 else 40)) (hg : r = true → (RatAt w n1 o1 l1 c1 p1 m1 k1 a ∧ RatAt w n2 o2 l2 c2 p2 m2 k2 b) ∧ Sz a 2 ∧ Sz b 2 ∧ cmpQ a b ≤ 0) : SArg w ao len cap p n1 n2 o1 p1 o2 p2 l1 c1 m1 k1 l2 c2 m2 k2 a b (if mP && r then 0 else 50) := by
 have hck : CkP w ao len cap (if mP then 0 else 50) := fun X hX => pcheck_is ao len cap rs X (hp.raws.later hX) (by have := hp.short; omega) (fun t => Nat.le_trans (hp.lims t) (by decide)) _ (by rw [hp.may])
 cases mP
 ·
  exact Or.inr ⟨rfl, Or.inl hck⟩
 ·
  cases r
  ·
   exact Or.inr ⟨rfl, Or.inr ⟨hck, hc⟩⟩
  ·
   obtain ⟨h1, h2, h3⟩ := hp.good rfl
   exact Or.inl ⟨rfl, ⟨h1, h2, h3, by have := hp.short; omega, by decide⟩, (hg rfl).1, (hg rfl).2.1, (hg rfl).2.2.1, (hg rfl).2.2.2, by rw [← h1.hlen]; exact hp.short⟩
theorem rv_lim {rs : List (Bool × List Int)} {L : Nat} (h : ∀ r ∈ rs, r.2.length ≤ L) (t : Nat) : (rv rs t).2.length ≤ L := by
 by_cases ht : t < rs.length
 ·
  rw [rv_eq ht]; exact h _ (List.getElem_mem ht)
 ·
  unfold rv; rw [List.getD_eq_getElem?_getD, List.getElem?_eq_none (by omega)]; simp
theorem parg_of_raws {w : World} {ao : Option Addr} {len cap : Nat} {rs : List (Bool × List Int)} (hr : RawsAt w ao len cap rs) (hs : len ≤ 11) (hlim : ∀ t, (rv rs t).2.length ≤ 3) : ∃ p, PArg w ao len cap rs (pmayB len rs) p := by
 cases hm : pmayB len rs with
 | false => exact ⟨[], hr, hs, hlim, hm, fun h => by cases h⟩
 | true =>
  obtain ⟨h1, h2, h3⟩ := pmayB_true hm
  obtain ⟨p, hp⟩ := polys_of_raws hr h2
  have hl : ∀ t, t < len → lim (dig p t) = (rv rs t).2.length := fun t ht => by
   obtain ⟨b, off, n1, ao1, l1, c1, e, _, q1, _, hrow, _⟩ := hr.at ht
   obtain ⟨b', off', n2, ao2, l2, c2, e', _, r1, hi⟩ := hp.at ht
   rw [e] at e'
   cases e'
   rw [q1] at r1
   simp only [Option.some.injEq, Value.slice.injEq] at r1
   obtain ⟨_, r2, _⟩ := r1
   rw [← hi.lim, ← hrow.hlen, r2]
  refine ⟨p, hr, hs, hlim, hm, fun _ => ⟨hp, fun h0 => ?_, fun t => ?_⟩⟩
  ·
   intro e
   have h4 := hl (len - 1) (by rw [hp.hlen]; omega)
   rw [← hp.hlen] at h0 e
   rw [e, lim_zero] at h4
   exact h3 h0 (List.eq_nil_of_length_eq_zero h4.symm)
  ·
   by_cases ht : t < len
   ·
    rw [hl t ht]; exact hlim t
   ·
    rw [dig_past (by rw [← hp.hlen]; omega), lim_zero]; omega
theorem poly_two {w : World} {r : Nat} {n1 n2 : Bool} {o1 o2 : Option Addr} {l1 c1 l2 c2 : Nat} {a b : Int} (hc : Cells w r [.bool n1, .slice o1 l1 c1, .bool n2, .slice o2 l2 c2]) (h1 : IntAt w n1 o1 l1 c1 a) (h2 : IntAt w n2 o2 l2 c2 b) : PolyAt w (some ⟨r, 0, none⟩) 2 2 [a, b] := by
 refine ⟨rfl, Nat.le_refl _, fun e => (by cases e), Or.inr ⟨r, 0, rfl, fun t ht => ?_⟩⟩
 obtain rfl | rfl : t = 0 ∨ t = 1 := by omega
 ·
  exact ⟨n1, o1, l1, c1, ⟨hc 0 _ rfl, hc 1 _ rfl⟩, h1⟩
 ·
  exact ⟨n2, o2, l2, c2, ⟨hc 2 _ rfl, hc 3 _ rfl⟩, h2⟩
theorem poly_three {w : World} {r : Nat} {n1 n2 n3 : Bool} {o1 o2 o3 : Option Addr} {l1 c1 l2 c2 l3 c3 : Nat} {a b c : Int} (hc : Cells w r [.bool n1, .slice o1 l1 c1, .bool n2, .slice o2 l2 c2, .bool n3, .slice o3 l3 c3]) (h1 : IntAt w n1 o1 l1 c1 a) (h2 : IntAt w n2 o2 l2 c2 b) (h3 : IntAt w n3 o3 l3 c3 c) : PolyAt w (some ⟨r, 0, none⟩) 3 3 [a, b, c] := by
 refine ⟨rfl, Nat.le_refl _, fun e => (by cases e), Or.inr ⟨r, 0, rfl, fun t ht => ?_⟩⟩
 obtain rfl | rfl | rfl : t = 0 ∨ t = 1 ∨ t = 2 := by omega
 ·
  exact ⟨n1, o1, l1, c1, ⟨hc 0 _ rfl, hc 1 _ rfl⟩, h1⟩
 ·
  exact ⟨n2, o2, l2, c2, ⟨hc 2 _ rfl, hc 3 _ rfl⟩, h2⟩
 ·
  exact ⟨n3, o3, l3, c3, ⟨hc 4 _ rfl, hc 5 _ rfl⟩, h3⟩
theorem lim_ones : Lim 3 [1, 1] ∧ Lead [1, 1] ∧ mulP [1, 1] [1, 1] = [1, 2, 1] ∧ Lim 4611686018427387904 [1, 2, 1] := by
 have h1 : lim 1 ≤ 1 := lim_small 1 (by decide)
 have h2 : lim 2 ≤ 1 := lim_small 2 (by decide)
 refine ⟨fun t => ?_, fun _ => by decide, by decide, fun t => ?_⟩
 ·
  match t with
  | 0 => exact Nat.le_trans h1 (by decide)
  | 1 => exact Nat.le_trans h1 (by decide)
  | t + 2 => rw [dig_past (by simp), lim_zero]; decide
 ·
  match t with
  | 0 => exact Nat.le_trans h1 (by decide)
  | 1 => exact Nat.le_trans h2 (by decide)
  | 2 => exact Nat.le_trans h1 (by decide)
  | t + 3 => rw [dig_past (by simp), lim_zero]; decide
theorem wakes4_any (w : World) : Calls Tryz.prog 16 #[] w fun e w' => e = .returned (.bool true) ∧ Below w.heap.size w w' := by
 go_enter Tryz.func16, Tryz.ntmps16
 go_wp2_with (first
  | (go_at_call 44; refine (eqpoly_of (eqints_same oM (some ⟨x6.heap.size, 0, none⟩) 3 3 3 [1, 2, 1] _ HE.out.1 HE.out.2 (by decide) lim_ones.2.2.2)).mono ?_; rintro e x7 ⟨rfl, hb7⟩)
  | (go_at_call 42; have _t := HQ2; refine (rfrom_any 1 _ (by decide) (by decide)).mono ?_; rintro e x6 ⟨n6, o6, l6, c6, rfl, hs, ho, hb⟩; have hB6 := bnext hB5 hb; have HE : Hid (PolyAt (x6.alloc (.cells #[.bool n4, .slice o4 l4 c4, .bool n5, .slice o5 l5 c5, .bool n6, .slice o6 l6 c6] 28)) oM 3 3 [1, 2, 1] ∧ PolyAt (x6.alloc (.cells #[.bool n4, .slice o4 l4 c4, .bool n5, .slice o5 l5 c5, .bool n6, .slice o6 l6 c6] 28)) (some ⟨x6.heap.size, 0, none⟩) 3 3 [1, 2, 1]) := ⟨(HQ2.out.2.2.later hb).later ((Below.refl _ _).alloc (Nat.le_refl _) _), poly_three (Cells.new x6 #[.bool n4, .slice o4 l4 c4, .bool n5, .slice o5 l5 c5, .bool n6, .slice o6 l6 c6] 28) ((HQ2.out.1.later hb).later ((Below.refl _ _).alloc (Nat.le_refl _) _)) ((HQ2.out.2.1.later hb).later ((Below.refl _ _).alloc (Nat.le_refl _) _)) ((ho.int hs).later ((Below.refl _ _).alloc (Nat.le_refl _) _))⟩; clear HQ2; clear hs ho hb)
  | (go_at_call 42; have _t := HQ1; refine (rfrom_any 2 _ (by decide) (by decide)).mono ?_; rintro e x5 ⟨n5, o5, l5, c5, rfl, hs, ho, hb⟩; have hB5 := bnext hB4 hb; have HQ2 : Hid (IntAt x5 n4 o4 l4 c4 1 ∧ IntAt x5 n5 o5 l5 c5 2 ∧ PolyAt x5 oM 3 3 [1, 2, 1]) := ⟨HQ1.out.1.later hb, ho.int hs, HQ1.out.2.later hb⟩; clear HQ1; clear hs ho hb)
  | (go_at_call 42; have _t := HM2; refine (rfrom_any 1 _ (by decide) (by decide)).mono ?_; rintro e x4 ⟨n4, o4, l4, c4, rfl, hs, ho, hb⟩; have hB4 := bnext hB3 hb; have HQ1 : Hid (IntAt x4 n4 o4 l4 c4 1 ∧ PolyAt x4 oM 3 3 [1, 2, 1]) := ⟨ho.int hs, HM2.out.later hb⟩; clear HM2; clear hs ho hb)
  | (go_at_call 11; refine (num4_any _ _).mono ?_; rintro e y3 ⟨rfl, hb⟩; have HM2 : Hid (PolyAt y3 oM 3 3 [1, 2, 1]) := HM.out.later hb; have hB3 := bnext hB2 hb; clear hb HM)
  | (go_at_call 43; refine (plmul_is _ _ 2 2 2 2 (rsOf [1, 1]) (rsOf [1, 1]) true true [1, 1] [1, 1] _ HA.out HA.out 0 rfl).mono ?_; rintro e x3 ⟨oM, lM, rfl, hans, hb⟩; have hP : PolyAt x3 oM lM lM [1, 2, 1] := (by rcases hans with ⟨_, h⟩ | ⟨h, _⟩; (have := h.poly; rw [lim_ones.2.2.1] at this; exact this); exact absurd h (by decide)); obtain rfl : lM = 3 := hP.hlen; have HM : Hid (PolyAt x3 oM 3 3 [1, 2, 1]) := hP; have hB2 := bnext (bnext hB1 ((Below.refl _ _).alloc (Nat.le_refl _) _)) hb; clear hans hP hb)
  | (go_at_call 42; have _t := H1; refine (rfrom_any 1 _ (by decide) (by decide)).mono ?_; rintro e x2 ⟨n2, o2, l2, c2, rfl, hs, ho, hb⟩; have hB1 := bnext H1.out.2 hb; have HA : Hid (PArg (x2.alloc (.cells #[.bool n1, .slice o1 l1 c1, .bool n2, .slice o2 l2 c2] 28)) (some ⟨x2.heap.size, 0, none⟩) 2 2 (rsOf [1, 1]) true [1, 1]) := parg_of_poly (poly_two (Cells.new x2 #[.bool n1, .slice o1 l1 c1, .bool n2, .slice o2 l2 c2] 28) ((H1.out.1.later hb).later ((Below.refl _ _).alloc (Nat.le_refl _) _)) ((ho.int hs).later ((Below.refl _ _).alloc (Nat.le_refl _) _))) (by decide) lim_ones.2.1 lim_ones.1; clear H1; clear hs ho hb)
  | (go_at_call 42; refine (rfrom_any 1 _ (by decide) (by decide)).mono ?_; rintro e x1 ⟨n1, o1, l1, c1, rfl, hs, ho, hb⟩; have H1 : Hid (IntAt x1 n1 o1 l1 c1 1 ∧ Below w.heap.size w x1) := ⟨ho.int hs, hb⟩; clear hs ho hb))
 go_ret
 exact ⟨rfl, bnext (bnext hB6 ((Below.refl _ _).alloc (Nat.le_refl _) _)) hb7⟩
theorem longRat4s_any (na : Bool) (ao po : Option Addr) (la ca lp cp : Nat) (n : Int) (w : World) :
  Calls Tryz.prog 21 #[.agg #[.bool na, .slice ao la ca, .slice po lp cp], .int .i64 n] w fun e w' => ∃ b, e = .returned (.bool b) ∧ (b = false → (la : Int) ≤ n ∧ (lp : Int) ≤ n) ∧ Below w.heap.size w w' := by
 have hA : Below w.heap.size w (w.alloc (.cells #[.bool na, .slice ao la ca, .slice po lp cp] 30)) := (Below.refl _ _).alloc (Nat.le_refl _) _
 have HC := Cells.new w #[.bool na, .slice ao la ca, .slice po lp cp] 30
 obtain ⟨b, hb⟩ : ∃ b, decide (n < (la : Int)) = b := ⟨_, rfl⟩
 have HN : Hid (b = false → (la : Int) ≤ n) := fun e => by rw [e] at hb; have := of_decide_eq_false hb; omega
 have hcon : ∀ X, Calls Tryz.prog 20 #[.agg #[.bool na, .slice ao la ca], .int .i64 n] X fun e w' => e = .returned (.bool b) ∧ Below X.heap.size X w' := fun X => (long_any na ao la ca n X).mono fun e w' h => by rw [hb] at h; exact h
 clear hb
 cases b
 ·
  have HN2 : Hid ((la : Int) ≤ n) := HN.out rfl
  clear HN
  go_enter Tryz.func21, Tryz.ntmps21
  go_wp2_with (go_at_call 20; refine (hcon _).mono ?_; rintro e w1 ⟨rfl, hb1⟩; have q2 := HC.later hb1 (by simp) 2 _ rfl)
  go_ret
  exact ⟨_, rfl, fun h => ⟨HN2.out, by have := of_decide_eq_false h; omega⟩, bnext hA hb1⟩
 ·
  go_enter Tryz.func21, Tryz.ntmps21
  go_wp2_with (go_at_call 20; refine (hcon _).mono ?_; rintro e w1 ⟨rfl, hb1⟩)
  go_ret
  exact ⟨_, rfl, fun h => (by cases h), bnext hA hb1⟩
theorem heavy6s_any (ao bo co : Option Addr) (la ca lb cb lc cc : Nat) (n n4 n5 n6 : Bool) (o4 p4 o5 p5 o6 p6 : Option Addr) (l4 c4 m4 k4 l5 c5 m5 k5 l6 c6 m6 k6 : Nat) (rs ts : List (Bool × List Int)) (w : World) (hp : RawsAt w ao la ca rs) (hs : RawsAt w bo lb cb ts) (hla : la ≤ 9223372036854775807) (hlb : lb ≤ 9223372036854775807) :
  Calls Tryz.prog 5 #[.agg #[.slice ao la ca, .slice bo lb cb, .bool n, .slice co lc cc, .bool n4, .slice o4 l4 c4, .slice p4 m4 k4, .bool n5, .slice o5 l5 c5, .slice p5 m5 k5, .bool n6, .slice o6 l6 c6, .slice p6 m6 k6]] w fun e w' => ∃ hv : Bool, e = .returned (.bool hv) ∧ (hv = false → heavyB 10 3 la rs = false ∧ heavyB 10 3 lb ts = false ∧ lc ≤ 3 ∧ (l4 ≤ 2 ∧ m4 ≤ 2) ∧ (l5 ≤ 2 ∧ m5 ≤ 2) ∧ l6 ≤ 2 ∧ m6 ≤ 2) ∧ Below w.heap.size w w' := by
 obtain ⟨W, hW⟩ : ∃ W, W = (w.alloc (.cells #[.slice ao la ca, .slice bo lb cb, .bool n, .slice co lc cc, .bool n4, .slice o4 l4 c4, .slice p4 m4 k4, .bool n5, .slice o5 l5 c5, .slice p5 m5 k5, .bool n6, .slice o6 l6 c6, .slice p6 m6 k6] 34)) := ⟨_, rfl⟩
 have HC : Hid ((∀ W', Below W.heap.size W W' → Cells W' w.heap.size [.slice ao la ca, .slice bo lb cb, .bool n, .slice co lc cc, .bool n4, .slice o4 l4 c4, .slice p4 m4 k4, .bool n5, .slice o5 l5 c5, .slice p5 m5 k5, .bool n6, .slice o6 l6 c6, .slice p6 m6 k6]) ∧ Below w.heap.size w W) := by
  rw [hW]
  exact ⟨fun W' hb => (Cells.new w #[.slice ao la ca, .slice bo lb cb, .bool n, .slice co lc cc, .bool n4, .slice o4 l4 c4, .slice p4 m4 k4, .bool n5, .slice o5 l5 c5, .slice p5 m5 k5, .bool n6, .slice o6 l6 c6, .slice p6 m6 k6] 34).later hb (by simp), (Below.refl _ _).alloc (Nat.le_refl _) _⟩
 obtain ⟨b1, hb1⟩ : ∃ b, heavyB 10 3 la rs = b := ⟨_, rfl⟩
 obtain ⟨b2, hb2⟩ : ∃ b, heavyB 10 3 lb ts = b := ⟨_, rfl⟩
 obtain ⟨b3, hb3⟩ : ∃ b, decide ((3 : Int) < (lc : Int)) = b := ⟨_, rfl⟩
 have HB : Hid (heavyB 10 3 la rs = b1 ∧ heavyB 10 3 lb ts = b2 ∧ decide ((3 : Int) < (lc : Int)) = b3) := ⟨hb1, hb2, hb3⟩
 have h1 : ∀ X, Below W.heap.size W X → Calls Tryz.prog 19 #[.slice ao la ca, .int .i64 10, .int .i64 3] X fun e w' => e = .returned (.bool b1) ∧ Below X.heap.size X w' := fun X hb => heavyPoly_any 10 3 ao la ca rs X ((hp.later HC.out.2).later hb) (by omega) (by decide) b1 hb1
 have h2 : ∀ X, Below W.heap.size W X → Calls Tryz.prog 19 #[.slice bo lb cb, .int .i64 10, .int .i64 3] X fun e w' => e = .returned (.bool b2) ∧ Below X.heap.size X w' := fun X hb => heavyPoly_any 10 3 bo lb cb ts X ((hs.later HC.out.2).later hb) (by omega) (by decide) b2 hb2
 have h3 : ∀ X, Calls Tryz.prog 20 #[.agg #[.bool n, .slice co lc cc], .int .i64 3] X fun e w' => e = .returned (.bool b3) ∧ Below X.heap.size X w' := fun X => (long_any n co lc cc 3 X).mono fun e w' h => by rw [hb3] at h; exact h
 clear hb1 hb2 hb3 hp hs
 cases b1
 ·
  cases b2
  ·
   cases b3
   ·
    have HF : Hid (heavyB 10 3 la rs = false ∧ heavyB 10 3 lb ts = false ∧ lc ≤ 3) := ⟨HB.out.1, HB.out.2.1, by have := of_decide_eq_false HB.out.2.2; omega⟩
    go_enter Tryz.func5, Tryz.ntmps5
    go_wp2_with (first
     | (go_at_call 20; refine (h3 _).mono ?_; rintro e w3 ⟨rfl, hb3'⟩; have hb3 := bnext hb2 hb3'; clear hb3' q2 q3; have q4 := HC.out.1 _ hb3 4 _ rfl; have q5 := HC.out.1 _ hb3 5 _ rfl; have q6 := HC.out.1 _ hb3 6 _ rfl)
     | (go_at_call 19; have _t := hb1; refine (h2 _ hb1).mono ?_; rintro e w2 ⟨rfl, hb2'⟩; have hb2 := bnext hb1 hb2'; clear hb2' q1; have q2 := HC.out.1 _ hb2 2 _ rfl; have q3 := HC.out.1 _ hb2 3 _ rfl)
     | (go_at_call 19; rw [← hW]; refine (h1 _ (Below.refl _ _)).mono ?_; rintro e w1 ⟨rfl, hb1⟩; have q1 := HC.out.1 _ hb1 1 _ rfl)
     | (go_at_call 21; have _t := hb5; refine (longRat4s_any _ _ _ _ _ _ _ _ _).mono ?_; rintro e w6 ⟨b6, rfl, hs6, hb6'⟩; have hb6 := bnext hb5 hb6'; have HS6 : Hid (b6 = false → l6 ≤ 2 ∧ m6 ≤ 2) := (fun q => by have := hs6 q; omega); clear hb6' hs6 q10 q11 q12)
     | (go_at_call 21; have _t := hb4; refine (longRat4s_any _ _ _ _ _ _ _ _ _).mono ?_; rintro e w5 ⟨b5, rfl, hs5, hb5'⟩; have hb5 := bnext hb4 hb5'; have HS7 : Hid (b5 = false → l5 ≤ 2 ∧ m5 ≤ 2) := (fun q => by have := hs5 q; omega); clear hb5' hs5 q7 q8 q9; have q10 := HC.out.1 _ hb5 10 _ rfl; have q11 := HC.out.1 _ hb5 11 _ rfl; have q12 := HC.out.1 _ hb5 12 _ rfl; cases b5 <;> first | (have HS8 : Hid (l5 ≤ 2 ∧ m5 ≤ 2) := HS7.out rfl; clear HS7) | clear HS7)
     | (go_at_call 21; have _t := hb3; refine (longRat4s_any _ _ _ _ _ _ _ _ _).mono ?_; rintro e w4 ⟨b4, rfl, hs4, hb4'⟩; have hb4 := bnext hb3 hb4'; have HS4 : Hid (b4 = false → l4 ≤ 2 ∧ m4 ≤ 2) := (fun q => by have := hs4 q; omega); clear hb4' hs4 q4 q5 q6; have q7 := HC.out.1 _ hb4 7 _ rfl; have q8 := HC.out.1 _ hb4 8 _ rfl; have q9 := HC.out.1 _ hb4 9 _ rfl; cases b4 <;> first | (have HS5 : Hid (l4 ≤ 2 ∧ m4 ≤ 2) := HS4.out rfl; clear HS4) | clear HS4))
    all_goals go_ret
    all_goals first
     | exact ⟨_, rfl, fun h => ⟨HF.out.1, HF.out.2.1, HF.out.2.2, HS5.out, HS8.out, HS6.out h⟩, bnext HC.out.2 hb6⟩
     | exact ⟨_, rfl, fun h => (by cases h), bnext HC.out.2 hb4⟩
     | exact ⟨_, rfl, fun h => (by cases h), bnext HC.out.2 hb5⟩
     | exact ⟨_, rfl, fun h => (by cases h), bnext HC.out.2 hb6⟩
   ·
    go_enter Tryz.func5, Tryz.ntmps5
    go_wp2_with (first
     | (go_at_call 20; refine (h3 _).mono ?_; rintro e w3 ⟨rfl, hb3'⟩; have hb3 := bnext hb2 hb3'; clear hb3' q2 q3; have q4 := HC.out.1 _ hb3 4 _ rfl; have q5 := HC.out.1 _ hb3 5 _ rfl; have q6 := HC.out.1 _ hb3 6 _ rfl)
     | (go_at_call 19; have _t := hb1; refine (h2 _ hb1).mono ?_; rintro e w2 ⟨rfl, hb2'⟩; have hb2 := bnext hb1 hb2'; clear hb2' q1; have q2 := HC.out.1 _ hb2 2 _ rfl; have q3 := HC.out.1 _ hb2 3 _ rfl)
     | (go_at_call 19; rw [← hW]; refine (h1 _ (Below.refl _ _)).mono ?_; rintro e w1 ⟨rfl, hb1⟩; have q1 := HC.out.1 _ hb1 1 _ rfl))
    go_ret
    exact ⟨true, rfl, fun h => (by cases h), bnext HC.out.2 hb3⟩
  ·
   go_enter Tryz.func5, Tryz.ntmps5
   go_wp2_with (first
    | (go_at_call 19; have _t := hb1; refine (h2 _ hb1).mono ?_; rintro e w2 ⟨rfl, hb2'⟩; have hb2 := bnext hb1 hb2'; clear hb2' q1; have q2 := HC.out.1 _ hb2 2 _ rfl; have q3 := HC.out.1 _ hb2 3 _ rfl)
    | (go_at_call 19; rw [← hW]; refine (h1 _ (Below.refl _ _)).mono ?_; rintro e w1 ⟨rfl, hb1⟩; have q1 := HC.out.1 _ hb1 1 _ rfl))
   go_ret
   exact ⟨true, rfl, fun h => (by cases h), bnext HC.out.2 hb2⟩
 ·
  go_enter Tryz.func5, Tryz.ntmps5
  go_wp2_with (first
   | (go_at_call 19; rw [← hW]; refine (h1 _ (Below.refl _ _)).mono ?_; rintro e w1 ⟨rfl, hb1⟩; have q1 := HC.out.1 _ hb1 1 _ rfl))
  go_ret
  exact ⟨true, rfl, fun h => (by cases h), bnext HC.out.2 hb1⟩
def Item6 (w : World) (b o : Nat) : Prop := ∃ (ao bo co : Option Addr) (la ca lb cb lc cc : Nat) (n n4 n5 n6 : Bool) (o4 p4 o5 p5 o6 p6 : Option Addr) (l4 c4 m4 k4 l5 c5 m5 k5 l6 c6 m6 k6 : Nat) (rs ts : List (Bool × List Int)) (zs ds x5 d5 x6 d6 : List Int), (∀ (j : Nat) (u : Value), [.slice ao la ca, .slice bo lb cb, .bool n, .slice co lc cc, .bool n4, .slice o4 l4 c4, .slice p4 m4 k4, .bool n5, .slice o5 l5 c5, .slice p5 m5 k5, .bool n6, .slice o6 l6 c6, .slice p6 m6 k6][j]? = some u → w.cell? ⟨b, o + j, none⟩ = some u) ∧ (RawsAt w ao la ca rs ∧ RawsAt w bo lb cb ts ∧ ca ≤ 9223372036854775807 ∧ cb ≤ 9223372036854775807) ∧ RowAt w .u64 o4 l4 c4 zs ∧ Wd 18446744073709551616 zs ∧ RowAt w .u64 p4 m4 k4 ds ∧ Wd 18446744073709551616 ds ∧ (RowAt w .u64 o5 l5 c5 x5 ∧ Wd 18446744073709551616 x5 ∧ RowAt w .u64 p5 m5 k5 d5 ∧ Wd 18446744073709551616 d5) ∧ RowAt w .u64 o6 l6 c6 x6 ∧ Wd 18446744073709551616 x6 ∧ RowAt w .u64 p6 m6 k6 d6 ∧ Wd 18446744073709551616 d6
theorem Item6.elim {w : World} {b o : Nat} {P : Prop} (h : Item6 w b o) (k : ∀ (ao bo co : Option Addr) (la ca lb cb lc cc : Nat) (n n4 n5 n6 : Bool) (o4 p4 o5 p5 o6 p6 : Option Addr) (l4 c4 m4 k4 l5 c5 m5 k5 l6 c6 m6 k6 : Nat) (rs ts : List (Bool × List Int)) (zs ds x5 d5 x6 d6 : List Int), (∀ (j : Nat) (u : Value), [.slice ao la ca, .slice bo lb cb, .bool n, .slice co lc cc, .bool n4, .slice o4 l4 c4, .slice p4 m4 k4, .bool n5, .slice o5 l5 c5, .slice p5 m5 k5, .bool n6, .slice o6 l6 c6, .slice p6 m6 k6][j]? = some u → w.cell? ⟨b, o + j, none⟩ = some u) ∧ (RawsAt w ao la ca rs ∧ RawsAt w bo lb cb ts ∧ ca ≤ 9223372036854775807 ∧ cb ≤ 9223372036854775807) ∧ RowAt w .u64 o4 l4 c4 zs ∧ Wd 18446744073709551616 zs ∧ RowAt w .u64 p4 m4 k4 ds ∧ Wd 18446744073709551616 ds ∧ (RowAt w .u64 o5 l5 c5 x5 ∧ Wd 18446744073709551616 x5 ∧ RowAt w .u64 p5 m5 k5 d5 ∧ Wd 18446744073709551616 d5) ∧ RowAt w .u64 o6 l6 c6 x6 ∧ Wd 18446744073709551616 x6 ∧ RowAt w .u64 p6 m6 k6 d6 ∧ Wd 18446744073709551616 d6 → P) : P := by
 obtain ⟨ao, bo, co, la, ca, lb, cb, lc, cc, n, n4, n5, n6, o4, p4, o5, p5, o6, p6, l4, c4, m4, k4, l5, c5, m5, k5, l6, c6, m6, k6, rs, ts, zs, ds, x5, d5, x6, d6, h⟩ := h
 exact k ao bo co la ca lb cb lc cc n n4 n5 n6 o4 p4 o5 p5 o6 p6 l4 c4 m4 k4 l5 c5 m5 k5 l6 c6 m6 k6 rs ts zs ds x5 d5 x6 d6 h
def Items6 (w : World) (lo : Option Addr) (n : Nat) : Prop := ∀ i, i < n → ∃ b off, lo = some ⟨b, off, none⟩ ∧ b < w.heap.size ∧ Item6 w b (off + i * 13)
end Go.Proofs.YthjkdnlbdhhmbaaGreatDoor
