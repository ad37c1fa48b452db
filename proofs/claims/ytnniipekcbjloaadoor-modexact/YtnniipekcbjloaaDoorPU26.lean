/-
  PZ: walks: Eval and Of with what they refuse; the law's forms in one form, copies, comparing; its items with their polynomials, off a reading.
-/
import Derived.Test.YtnniipekcbjloaaDoorPU25
import Derived.Deep.DeepCutAuto
namespace Go.Proofs.YtnniipekcbjloaaDoor
open Go.RowKit Go.Shelf Go.ChangeShapes Go.WideShapes Go.ChangeAt
set_option linter.unusedVariables false
set_option linter.unusedSimpArgs false
theorem mEval_c (p c x v : Int) (ao bo : Option Addr) (la ca lb cb : Nat) (f g : List Int) (w : World) (h : Raw2 p w ao bo la ca lb cb f g) (hx : 0 ≤ x) (hc : condC c (okF p la f ∧ x < p)) (h0 : c = 0 → v = horM p x f) (h9 : c = 90 → v = 0) :
    Calls Tryd.prog 16 #[.slice ao la ca, .int .u64 x, .int .u64 p] w fun e w' => e = .returned (.tuple #[.int .u64 v, .int .i64 c]) ∧ Below w.heap.size w w' := by
  rcases hc with ⟨k, rfl⟩ | ⟨k, rfl⟩
  · obtain rfl := h0 rfl
    exact mEval_good p x ao la ca f w ⟨k.1.1.1, k.1.1.2, h.2.1⟩ (h.2.2.1.good k.1) ⟨hx, k.2⟩
  · obtain rfl := h9 rfl
    exact mEval_no p x ao bo la ca lb cb f g w h k
theorem mOf_c (p c : Int) (po : Option Addr) (pl pc : Nat) (rs : List (Bool × List Int)) (a : List Int) (w : World) (hp : 0 ≤ p ∧ p < 18446744073709551616) (hT : TabAt 0 Lib.deBruijn64tab w) (hr : RawsAt w po pl pc rs) (ha : pmayB pl rs = true → PolyAt w po pl pc a ∧ Lim 1000 a) (hla : pl ≤ 1000) (hrl : ∀ t, (rv rs t).2.length ≤ 100000) (hc : condC c (pmayB pl rs = true ∧ IsPr p ∧ p < 2147483648)) :
    Calls Tryd.prog 25 #[.slice po pl pc, .int .u64 p] w fun e w' => AnsF w w' e c fun z => TrimOf z (ofM p a) := by
  rcases hc with ⟨k, rfl⟩ | ⟨k, rfl⟩
  · exact (mOf_any p po pl pc rs a w ⟨k.2.1, k.2.2, hT⟩ hr k.1 (ha k.1).1 hla (ha k.1).2 hrl).mono fun e w' ⟨o, l, q, zs, he, ho, ht, hl, hb⟩ => AnsF.ok2 ⟨o, l, q, zs, he, ho, ht, hl, hb⟩
  · exact (mOf_no p po pl pc rs w hp hT hr hla hrl k).mono fun e w' hf => AnsF.no hf
/-- what the page wants, if no error -/
def Want (w : World) (c : Int) (o : Option Addr) (l k : Nat) (P : List Int → Prop) : Prop := c = 0 → ∃ zs, RowAt w .u64 o l k zs ∧ P zs
theorem Want.later {w w' : World} {c : Int} {o : Option Addr} {l k : Nat} {P : List Int → Prop} (h : Want w c o l k P) (hb : Below w.heap.size w w') : Want w' c o l k P := fun e => by
  obtain ⟨zs, h1, h2⟩ := h e
  exact ⟨zs, h1.later hb, h2⟩
theorem Want.no {w : World} {c : Int} {o : Option Addr} {l k : Nat} {P : List Int → Prop} (h : c ≠ 0) : Want w c o l k P := fun e => absurd e h
theorem Want.ofRow {p : Int} {w : World} {c : Int} {o : Option Addr} {l k : Nat} {zs : List Int} {P : List Int → Prop} (h : FRow p w o l k zs) (hP : P zs) : Want w c o l k P := fun _ => ⟨zs, h.row, hP⟩
theorem mis_ans {V w : World} {c : Int} {xo yo : Option Addr} {xl xc yl yc : Nat} {P : List Int → Prop} (hc : c = 0 ∨ c = 90) (h90 : c = 90 → xo = none ∧ xl = 0 ∧ xc = 0) (h0 : c = 0 → ∃ zs, Own V.heap.size w .u64 25 xo xl xc zs ∧ P zs ∧ xl ≤ 4194304) (hb : Below V.heap.size V w) (hw : Want w c yo yl yc P) (hu : c = 0 → ∀ a b, P a → P b → a = b) :
    Calls Tryd.prog 20 #[.slice xo xl xc, .int .i64 c, .int .i64 c, .slice yo yl yc] w fun e w' => e = .returned (.bool true) ∧ Below V.heap.size V w' := by
  rcases hc with rfl | rfl
  · obtain ⟨zs, ho, hz, hl⟩ := h0 rfl
    obtain ⟨ys, hy, hy2⟩ := hw rfl
    obtain rfl := hu rfl _ _ hz hy2
    exact (mis_ok V.heap.size xo yo xl xc yl yc _ w ho hb.size hl hy).mono fun e w' h => ⟨h.1, hb.trans h.2.1⟩
  · obtain ⟨rfl, rfl, rfl⟩ := h90 rfl
    exact (mis_bad 90 yo yl yc w (Or.inl rfl)).mono fun e w' h => ⟨h.1, by rw [h.2]; exact hb⟩
theorem form_c (p c : Int) (b n : Nat) (ro : Nat → Option Addr) (rl rc : Nat → Nat) (rz : Nat → List Int) (w : World) (hp : 0 ≤ p ∧ p < 18446744073709551616) (hr : RowsAt w b n ro rl rc rz) (hn : n ≤ 100) (hc : condC c (FormOk p n rl rz)) :
    Calls Tryd.prog 7 #[.int .u64 p, .slice (some ⟨b, 0, none⟩) n n] w fun e w' => e = .returned (.int .i64 c) ∧ w' = w := by
  rcases hc with ⟨k, rfl⟩ | ⟨k, rfl⟩
  · exact form_ok p b n ro rl rc rz w hp hr hn k
  · exact form_no p b n ro rl rc rz w hp hr hn k
theorem rows1 {w : World} {ao : Option Addr} {la ca : Nat} {x : List Int} (hx : RawF w ao la ca x) (t : TypeId) :
    RowsAt (w.alloc (.cells #[.slice ao la ca] t)) w.heap.size 1 (fun _ => ao) (fun _ => la) (fun _ => ca) (fun _ => x) := by
  have hb : Below w.heap.size w (w.alloc (.cells #[.slice ao la ca] t)) := (Below.refl _ _).alloc (Nat.le_refl _) _
  constructor
  · intro t ht
    obtain rfl : t = 0 := by omega
    simp [go_sem]
  · intro t ht; exact hx.1.later hb
  · intro t ht; exact hx.2.1
  · intro t ht; exact hx.2.2
theorem form1_c (p c : Int) (ao : Option Addr) (la ca : Nat) (x : List Int) (w : World) (hp : 0 ≤ p ∧ p < 18446744073709551616) (hx : RawF w ao la ca x) (hc : condC c (okF p la x)) :
    Calls Tryd.prog 7 #[.int .u64 p, .slice (some ⟨w.heap.size, 0, none⟩) 1 1] (w.alloc (.cells #[.slice ao la ca] 24)) fun e w' => e = .returned (.int .i64 c) ∧ Below w.heap.size w w' :=
  (form_c p c w.heap.size 1 _ _ _ _ _ hp (rows1 hx _) (by decide) (by
    have e : FormOk p 1 (fun _ => la) (fun _ => x) ↔ okF p la x := ⟨fun h => ⟨h.1, h.2 0 (by decide)⟩, fun h => ⟨h.1, fun _ _ => h.2⟩⟩
    unfold condC
    rw [e]; exact hc)).mono fun e w' h => ⟨h.1, by rw [h.2]; exact (Below.refl _ _).alloc (Nat.le_refl _) _⟩
theorem form2_c (p c : Int) (ao bo : Option Addr) (la ca lb cb : Nat) (x y : List Int) (w : World) (hp : 0 ≤ p ∧ p < 18446744073709551616) (hx : RawF w ao la ca x) (hy : RawF w bo lb cb y) (hc : condC c (okF p la x ∧ okF p lb y)) :
    Calls Tryd.prog 7 #[.int .u64 p, .slice (some ⟨w.heap.size, 0, none⟩) 2 2] (w.alloc (.cells #[.slice ao la ca, .slice bo lb cb] 24)) fun e w' => e = .returned (.int .i64 c) ∧ Below w.heap.size w w' :=
  (form_c p c w.heap.size 2 _ _ _ _ _ hp (rows2 hx hy _) (by decide) (by
    have e : FormOk p 2 (fun t => if t = 0 then la else lb) (fun t => if t = 0 then x else y) ↔ (okF p la x ∧ okF p lb y) := by
      constructor
      · intro h
        have h0 := h.2 0 (by decide)
        have h1 := h.2 1 (by decide)
        simp only [if_true, if_neg (show ¬ (1 : Nat) = 0 by decide)] at h0 h1
        exact ⟨⟨h.1, h0⟩, ⟨h.1, h1⟩⟩
      · intro h
        refine ⟨h.1.1, fun t ht => ?_⟩
        rcases (by omega : t = 0 ∨ t = 1) with rfl | rfl
        · exact h.1.2
        · exact h.2.2
    unfold condC
    rw [e]; exact hc)).mono fun e w' h => ⟨h.1, by rw [h.2]; exact (Below.refl _ _).alloc (Nat.le_refl _) _⟩
set_option maxHeartbeats 1000000 in
theorem form0_c (p c : Int) (w : World) (hp : 0 ≤ p ∧ p < 18446744073709551616) (hc : condC c (IsPr p ∧ p < 2147483648)) :
    Calls Tryd.prog 7 #[.int .u64 p, .slice none 0 0] w fun e w' => e = .returned (.int .i64 c) ∧ w' = w := by
  rcases hc with ⟨k, rfl⟩ | ⟨k, rfl⟩
  · have H1 := rprimeB_any p true w hp ⟨fun _ => k, fun _ => rfl⟩
    clear k hp
    go_enter Tryd.func7, Tryd.ntmps7
    go_wp2_with (go_at_call 36; refine H1.mono ?_; rintro e w1 ⟨rfl, hw1⟩; replace hw1 := hw1.symm; subst hw1)
    go_loop [5] (fun i => i = .int .i64 0) (fun i => 0)
    case atStart => exact rfl
    case round =>
      subst hrel
      go_wp2
      go_ret
      exact ⟨rfl, rfl⟩
  · have H1 := rprimeB_any p false w hp ⟨fun h => (by cases h), fun h => absurd h k⟩
    clear k hp
    go_enter Tryd.func7, Tryd.ntmps7
    go_wp2_with (go_at_call 36; refine H1.mono ?_; rintro e w1 ⟨rfl, hw1⟩; replace hw1 := hw1.symm; subst hw1)
    go_ret
    exact ⟨rfl, rfl⟩
set_option maxHeartbeats 1000000 in
theorem copyF_any (ao : Option Addr) (la ca : Nat) (x : List Int) (w : World) (hx : RawF w ao la ca x) (hl : la ≤ 4294967296) :
    Calls Tryd.prog 6 #[.slice ao la ca] w fun e w' => ∃ o k, e = .returned (.slice o la k) ∧ RawF w' o la k x ∧ Below w.heap.size w w' := by
  have H1 := copyWords_any ao la ca x w hx.1 hl
  have HX : Hid (la = x.length ∧ Wd 18446744073709551616 x ∧ la ≤ 9223372036854775807) := ⟨hx.1.hlen, hx.2⟩
  clear hx hl
  go_enter Tryd.func6, Tryd.ntmps6
  go_wp2_with (go_at_call 35; refine H1.mono ?_; rintro e w1 ⟨v, rfl, hown, hb1⟩; obtain ⟨ao1, c1, hv, hrow⟩ := own_of_owns HX.out.1.symm hown; subst hv; clear hown)
  go_ret
  exact ⟨ao1, c1, rfl, ⟨hrow.row, HX.out.2⟩, hb1⟩
/-- a raw list, as how long its numbers are -/
theorem polyL_of_raws {w : World} {ao : Option Addr} {len cap : Nat} {rs : List (Bool × List Int)} (h : RawsAt w ao len cap rs) : PolyL w ao len (rs.map fun r => r.2.length) := by
  refine ⟨by rw [List.length_map]; exact h.hlen, fun t ht => ?_⟩
  have ht' : t < rs.length := by simpa using ht
  obtain ⟨b, off, n1, ao1, l1, c1, e, q0, q1, _, hrow, _⟩ := h.at (k := t) (by rw [h.hlen]; exact ht')
  have e2 : (rs.map fun r => r.2.length)[t] = l1 := by
    rw [List.getElem_map, hrow.hlen]
    simp [rv, List.getD_eq_getElem?_getD, List.getElem?_eq_getElem ht']
  refine ⟨b, off, n1, ao1, c1, e, q0, ?_⟩
  rw [e2]; exact q1
theorem light_raws {pl : Nat} {rs : List (Bool × List Int)} (h : hvB pl (rs.map fun r => r.2.length) = false) : pl ≤ 13 ∧ ∀ t, (rv rs t).2.length ≤ 3 := by
  unfold hvB at h
  rw [Bool.or_eq_false_iff] at h
  refine ⟨by have := of_decide_eq_false h.1; omega, fun t => ?_⟩
  by_cases ht : t < rs.length
  · have h2 := List.any_eq_false.1 h.2 (rv rs t).2.length (by
      rw [List.mem_map]
      exact ⟨rv rs t, by simp [rv, List.getD_eq_getElem?_getD, List.getElem?_eq_getElem ht], rfl⟩)
    have := of_decide_eq_false (Bool.eq_false_iff.2 h2)
    omega
  · simp [rv, List.getD_eq_getElem?_getD, List.getElem?_eq_none (by omega : rs.length ≤ t)]
theorem poly_raws {w : World} {ao : Option Addr} {len cap : Nat} {rs : List (Bool × List Int)} (hr : RawsAt w ao len cap rs) (hlim : ∀ t, (rv rs t).2.length ≤ 3) : ∃ p, pmayB len rs = true → PolyAt w ao len cap p ∧ Lim 1000 p := by
  by_cases hm : pmayB len rs = true
  · obtain ⟨h1, h2, h3⟩ := pmayB_true hm
    obtain ⟨p, hp⟩ := polys_of_raws hr h2
    have hl : ∀ t, t < len → lim (dig p t) = (rv rs t).2.length := fun t ht => by
      obtain ⟨b, off, n1, ao1, l1, c1, e, _, q1, _, hrow, _⟩ := hr.at ht
      obtain ⟨b', off', n2, ao2, l2, c2, e', _, r1, hi⟩ := hp.at ht
      rw [e] at e'
      cases e'
      rw [q1] at r1
      simp only [Option.some.injEq, Value.slice.injEq] at r1
      obtain ⟨_, r2, _⟩ := r1
      rw [← hi.lim, ← hrow.hlen, r2]
    refine ⟨p, fun _ => ⟨hp, fun t => ?_⟩⟩
    by_cases ht : t < len
    · rw [hl t ht]; have := hlim t; omega
    · rw [dig_past (by rw [← hp.hlen]; omega), lim_zero]; omega
  · exact ⟨[], fun h => absurd h hm⟩
/-- an item of the law, with its polynomial -/
def Item12 (w : World) (b o : Nat) : Prop :=
  ∃ (ao bo co : Option Addr) (la ca lb cb lc cc : Nat) (N P : Int) (po : Option Addr) (pl pc : Nat) (x y : List Int) (rs : List (Bool × List Int)),
    (∀ j v, (itemV ao bo co la ca lb cb lc cc N P po pl pc)[j]? = some v → w.cell? ⟨b, o + j, none⟩ = some v) ∧
    RawF w ao la ca x ∧ RawF w bo lb cb y ∧ (0 ≤ N ∧ N < 18446744073709551616) ∧ (0 ≤ P ∧ P < 18446744073709551616) ∧ RawsAt w po pl pc rs
def Items12 (w : World) (lo : Option Addr) (n : Nat) : Prop := ∀ i, i < n → ∃ b off, lo = some ⟨b, off, none⟩ ∧ b < w.heap.size ∧ Item12 w b (off + i * 6)
theorem Item12.later {w w' : World} {b o : Nat} (h : Item12 w b o) (hb : Below w.heap.size w w') : Item12 w' b o := by
  obtain ⟨ao, bo, co, la, ca, lb, cb, lc, cc, N, P, po, pl, pc, x, y, rs, hc, hx, hy, hN, hP, hl⟩ := h
  exact ⟨ao, bo, co, la, ca, lb, cb, lc, cc, N, P, po, pl, pc, x, y, rs, fun j v hj => (hb.cell (p := ⟨b, o + j, none⟩) (cell_lt (hc j v hj))).trans (hc j v hj), hx.later hb, hy.later hb, hN, hP, hl.later hb⟩
theorem Items12.later {w w' : World} {lo : Option Addr} {n : Nat} (h : Items12 w lo n) (hb : Below w.heap.size w w') : Items12 w' lo n := fun i hi => by
  obtain ⟨b, off, e, hlt, hit⟩ := h i hi
  exact ⟨b, off, e, Nat.lt_of_lt_of_le hlt hb.size, hit.later hb⟩
set_option maxRecDepth 100000 in
set_option maxHeartbeats 4000000 in
/-- the list, off a reading -/
theorem items12_of_trod {H : Type} {enc : TypeId × Value → H} {W : World} {fuel : Nat} {lo : Option Addr} {len cap : Nat} {x : DataW H × List MemPlace} (h : DataW.trod enc Tryd.prog W 0 (fun _ => true) true fuel 22 [.slice lo len cap] = some x) : Items12 W lo len ∧ len ≤ 9223372036854775807 := by
  rcases Go.Deep.open_slice Tryd.underlying22 h with ⟨hcs, _⟩ | ⟨a, l, c, m, n, D, Pl, hcs, _, hl, hm, hmm, _, hx⟩
  · simp at hcs; obtain ⟨rfl, rfl, rfl⟩ := hcs
    exact ⟨fun i hi => absurd hi (by omega), by decide⟩
  · simp at hcs; obtain ⟨rfl, rfl, rfl⟩ := hcs
    refine ⟨fun i hi => ?_, Nat.le_trans hl hm⟩
    simp only [if_true] at hmm
    simp only [mcells_two] at hx
    obtain ⟨cs, hcells, htr⟩ := hx i (by omega)
    obtain ⟨_, hlen, hc⟩ := World.cells?_some hcells
    match cs, hlen with
    | [v0, v1, v2, v3, v4, v5], _ =>
      obtain ⟨b, off, spot⟩ := a
      have hs : spot = none := by
        obtain ⟨cs0, hcells0, _⟩ := hx 0 (by omega)
        obtain ⟨_, hlen0, hc0⟩ := World.cells?_some hcells0
        have h1 := hc0 0 (by omega)
        rw [List.getElem?_eq_getElem (by omega)] at h1
        simpa [Addr.add] using World.cell?_spot h1
      subst hs
      obtain ⟨y0, y1, y2, y3, y4, y5, n', t0, t1, t2, t3, t4, t5⟩ := mtrod_struct6 Tryd.underlying29 htr
      simp only [mcells_f, mcells_u64, mcells_poly, List.drop_zero, List.take_succ_cons, List.take_zero, List.drop_succ_cons] at t0 t1 t2 t3 t4 t5
      obtain ⟨ao, la, ca, x, rfl, hx1, hx2, hx3⟩ := mrow_of_trod t0
      obtain ⟨bo, lb, cb, y, rfl, hy1, hy2, hy3⟩ := mrow_of_trod t1
      obtain ⟨co, lc, cc, z, rfl, hz1, hz2, hz3⟩ := mrow_of_trod t2
      obtain ⟨N, e3, _, hN⟩ := DataW.trod_int Tryd.underlying25 t3
      obtain ⟨P, e4, _, hP⟩ := DataW.trod_int Tryd.underlying25 t4
      simp at e3 e4
      subst e3 e4
      obtain ⟨po, pl, pc, rs, rfl, hpl, _⟩ := raws4_of_trod t5
      have g : ∀ j, j < 6 → W.cell? ⟨b, off + i * 6 + j, none⟩ = (itemV ao bo co la ca lb cb lc cc N P po pl pc)[j]? := by
        intro j hj
        have := hc j hj
        rw [madd_off, madd_off] at this; exact this
      refine ⟨b, off, rfl, cell_lt (g 0 (by omega)), ao, bo, co, la, ca, lb, cb, lc, cc, N, P, po, pl, pc, x, y, rs, fun j v hj => ?_, ⟨hx1, hx2, Nat.le_trans hx1.hcap hx3⟩, ⟨hy1, hy2, Nat.le_trans hy1.hcap hy3⟩, ?_, ?_, hpl⟩
      · by_cases h6 : j < 6
        · rw [g j h6]; exact hj
        · rw [List.getElem?_eq_none (by show 6 ≤ j; omega)] at hj; cases hj
      · have := bounds_u64 hN; omega
      · have := bounds_u64 hP; omega
end Go.Proofs.YtnniipekcbjloaaDoor
/-
  PT: ModExact's walk. (gen/pt.py)
-/
namespace Go.Proofs.YtnniipekcbjloaaDoor
open Go.RowKit Go.Shelf
set_option linter.unusedVariables false
set_option linter.unusedSimpArgs false
theorem okF.two {p : Int} {l : Nat} {f : List Int} (h : okF p l f) : 2 ≤ p ∧ p ≤ 2147483648 := ⟨h.1.1.two, by have := h.1.2; omega⟩
theorem rof_int (p : Int) (ao : Option Addr) (la ca : Nat) (a : List Int) (w : World) (hp : 2 ≤ p ∧ p ≤ 2147483648) (ha : PolyAt w ao la ca a) (hla : la ≤ 1025) (hlim : Lim 1000 a) :
    Calls Tryd.prog 15 #[.slice ao la ca, .int .u64 p] w fun e w' => PageF p w w' e fun zs => TrimOf zs (ofM p a) := by
  obtain ⟨n, rfl⟩ : ∃ n : Nat, p = (n : Int) := ⟨p.toNat, by omega⟩
  exact rofF_any n ao la ca a w (by omega) ha hla hlim
set_option maxRecDepth 100000 in
set_option maxHeartbeats 8000000 in
theorem modExact_any (lo : Option Addr) (len cap : Nat) (w : World) (hE : Items12 w lo len) (hl : len ≤ 9223372036854775807) (hT : TabAt 0 Lib.deBruijn64tab w) :
    Calls Tryd.prog 3 #[.slice lo len cap] w fun e w' => e = .returned (.bool true) ∧ Below w.heap.size w w' := by
  have HE : Hid (Items12 w lo len ∧ TabAt 0 Lib.deBruijn64tab w) := ⟨hE, hT⟩
  clear hE hT
  go_enter Tryd.func3, Tryd.ntmps3
  go_wp2
  go_loopw [3] (fun i wr => ∃ k : Nat, k ≤ len ∧ i = .int .i64 (k : Int) ∧ Below w.heap.size w wr) (fun i _ => len - (intOf i).toNat)
  case atStart => exact ⟨0, Nat.zero_le _, rfl, Below.refl _ _⟩
  case round =>
    obtain ⟨k, hk, rfl, hbe⟩ := hrel
    have HB : Hid (Below w.heap.size w wr) := hbe
    clear hbe
    have hwk : ∀ W, Below w.heap.size w W → Calls Tryd.prog 27 #[] W fun e w' => e = .returned (.bool true) ∧ Below W.heap.size W w' := fun W hb => mwakes_any W (mtab_later HE.out.2 hb)
    by_cases hlt : k < len ∧ k < 20
    rotate_left
    · by_cases hk1 : k < len
      · have z1 : (k : Int) < (len : Int) := by omega
        have z2 : ¬ (k : Int) < 20 := by omega
        clear hlt
        go_wp2_with (go_at_call 27; refine (hwk _ HB.out).mono ?_; rintro e w1 ⟨rfl, hb1⟩)
        go_ret
        exact ⟨rfl, bnextM (B := 0) HB.out hb1⟩
      · have z1 : ¬ (k : Int) < (len : Int) := by omega
        clear hlt
        go_wp2_with (go_at_call 27; refine (hwk _ HB.out).mono ?_; rintro e w1 ⟨rfl, hb1⟩)
        go_ret
        exact ⟨rfl, bnextM (B := 0) HB.out hb1⟩
    clear hwk
    obtain ⟨hk1, hk2⟩ := hlt
    obtain ⟨b, off, rfl, _, ao, bo, co, la, ca, lb, cb, lc, cc, N, P, po, pl, pc, x, y, rs, hcs, hx, hy, hN, hP, hpl⟩ := (HE.out.1.later HB.out) k hk1
    have z1 : (k : Int) < (len : Int) := by omega
    have z2 : (k : Int) < 20 := by omega
    have z3 : (0 : Int) ≤ (k : Int) := by omega
    have c0 : wr.cell? ⟨b, off + k * 6, none⟩ = some (.slice ao la ca) := hcs 0 _ rfl
    have c1 : wr.cell? ⟨b, off + k * 6 + 1, none⟩ = some (.slice bo lb cb) := hcs 1 _ rfl
    have c2 : wr.cell? ⟨b, off + k * 6 + 2, none⟩ = some (.slice co lc cc) := hcs 2 _ rfl
    have c3 : wr.cell? ⟨b, off + k * 6 + 3, none⟩ = some (.int .u64 N) := hcs 3 _ rfl
    have c4 : wr.cell? ⟨b, off + k * 6 + 4, none⟩ = some (.int .u64 P) := hcs 4 _ rfl
    have c5 : wr.cell? ⟨b, off + k * 6 + 5, none⟩ = some (.slice po pl pc) := hcs 5 _ rfl
    clear hcs
    obtain ⟨W, hW⟩ : ∃ W, W = wr.alloc (.cells #[.slice ao la ca, .slice bo lb cb, .slice co lc cc, .int .u64 N, .int .u64 P, .slice po pl pc] 29) := ⟨_, rfl⟩
    have HW : Hid (Below wr.heap.size wr W ∧ Below w.heap.size w W) := by
      have h1 : Below wr.heap.size wr W := by rw [hW]; exact (Below.refl _ _).alloc (Nat.le_refl _) _
      exact ⟨h1, bnextM (B := 0) HB.out h1⟩
    have KC : Hid (∀ w', Below W.heap.size W w' → w'.cell? ⟨wr.heap.size, 0, none⟩ = some (.slice ao la ca) ∧ w'.cell? ⟨wr.heap.size, 1, none⟩ = some (.slice bo lb cb) ∧ w'.cell? ⟨wr.heap.size, 2, none⟩ = some (.slice co lc cc) ∧ w'.cell? ⟨wr.heap.size, 3, none⟩ = some (.int .u64 N) ∧ w'.cell? ⟨wr.heap.size, 4, none⟩ = some (.int .u64 P) ∧ w'.cell? ⟨wr.heap.size, 5, none⟩ = some (.slice po pl pc)) := fun w' h => by
      rw [hW] at h
      exact sixcells (newcells wr wr.heap.size _ _ rfl w' h)
    have HX : Hid (∀ V, Below W.heap.size W V → RawF V ao la ca x ∧ RawF V bo lb cb y ∧ RawsAt V po pl pc rs ∧ TabAt 0 Lib.deBruijn64tab V) := fun V hV =>
      ⟨(hx.later HW.out.1).later hV, (hy.later HW.out.1).later hV, (hpl.later HW.out.1).later hV, mtab_later HE.out.2 (bnextM (B := 0) HW.out.2 hV)⟩
    have HN : Hid ((0 ≤ N ∧ N < 18446744073709551616) ∧ (0 ≤ P ∧ P < 18446744073709551616)) := ⟨hN, hP⟩
    obtain ⟨hv1, hh1⟩ : ∃ hv1, hvI la lb lc pl (rs.map fun r => r.2.length) = hv1 := ⟨_, rfl⟩
    have hcH := mheavy_any hv1 ao bo co la ca lb cb lc cc N P po pl pc _ W (polyL_of_raws (HX.out W (Below.refl _ _)).2.2.1) hh1
    clear hx hy hN hP hpl
    cases hv1
    rotate_left
    · clear hh1
      go_wp2_with (go_at_call 5; rw [← hW]; refine hcH.mono ?_; rintro e w1 ⟨rfl, hb1⟩)
      go_ret
      exact ⟨rfl, bnextM (B := 0) HW.out.2 hb1⟩
    have HL : Hid ((la ≤ 12 ∧ lb ≤ 12) ∧ pl ≤ 13 ∧ ∀ t, (rv rs t).2.length ≤ 3) := by
      simp only [hvI, Bool.or_eq_false_iff, decide_eq_false_iff_not] at hh1
      exact ⟨⟨by omega, by omega⟩, light_raws hh1.2.2.2⟩
    clear hh1
    obtain ⟨a, ha⟩ := poly_raws (HX.out W (Below.refl _ _)).2.2.1 HL.out.2.2
    have HPA : Hid (∀ V, Below W.heap.size W V → pmayB pl rs = true → PolyAt V po pl pc a ∧ Lim 1000 a) := fun V hV hm => ⟨(ha hm).1.later hV, (ha hm).2⟩
    clear ha
    obtain ⟨q1, hq1⟩ := condC.ex (okF P la x)
    obtain ⟨q2, hq2⟩ := condC.ex (okF P la x ∧ okF P lb y)
    obtain ⟨q5, hq5⟩ := condC.ex (IsPr P ∧ P < 2147483648)
    obtain ⟨mb, hmb⟩ : ∃ mb, pmayB pl rs = mb := ⟨_, rfl⟩
    have HC1 : Hid (condC q1 (okF P la x)) := hq1
    have HC2 : Hid (condC q2 (okF P la x ∧ okF P lb y)) := hq2
    have HC5 : Hid (condC q5 (IsPr P ∧ P < 2147483648)) := hq5
    have HMB : Hid (pmayB pl rs = mb) := hmb
    clear hq1 hq2 hq5 hmb
    go_upto_region 14 with (first
      | (go_at_call 7; have _t := H4; refine (form2_c P q2 o5 o6 la k5 lb k6 x y w4 HN.out.2 H4.out.1 H4.out.2.1 HC2.out).mono ?_; rintro e U ⟨rfl, hb5⟩; clear pd0 pd1 pd2 pd3 pd4 pd5; obtain ⟨pu0, pu1, pu2, pu3, pu4, pu5⟩ := KC.out _ (bnextM (B := 0) H4.out.2.2 hb5); have H5 : Hid (RawF U o5 la k5 x ∧ RawF U o6 lb k6 y ∧ Below W.heap.size W U) := ⟨H4.out.1.later hb5, H4.out.2.1.later hb5, bnextM (B := 0) H4.out.2.2 hb5⟩; clear hb5)
      | (go_at_call 7; have _t := H3; refine (form1_c P q1 o5 la k5 x w3 HN.out.2 H3.out.1 HC1.out).mono ?_; rintro e w4 ⟨rfl, hb4⟩; clear pc0 pc1 pc2 pc3 pc4 pc5; obtain ⟨pd0, pd1, pd2, pd3, pd4, pd5⟩ := KC.out _ (bnextM (B := 0) H3.out.2.2 hb4); have H4 : Hid (RawF w4 o5 la k5 x ∧ RawF w4 o6 lb k6 y ∧ Below W.heap.size W w4) := ⟨H3.out.1.later hb4, H3.out.2.1.later hb4, bnextM (B := 0) H3.out.2.2 hb4⟩; clear hb4)
      | (go_at_call 6; have _t := H2; refine (copyF_any bo lb cb y w2 (HX.out _ H2.out.2).2.1 (by have := HL.out; omega)).mono ?_; rintro e w3 ⟨o6, k6, rfl, hr6, hb3⟩; clear pb0 pb1 pb2 pb3 pb4 pb5; obtain ⟨pc0, pc1, pc2, pc3, pc4, pc5⟩ := KC.out _ (bnextM (B := 0) H2.out.2 hb3); have H3 : Hid (RawF w3 o5 la k5 x ∧ RawF w3 o6 lb k6 y ∧ Below W.heap.size W w3) := ⟨H2.out.1.later hb3, hr6, bnextM (B := 0) H2.out.2 hb3⟩; clear hr6 hb3)
      | (go_at_call 6; have _t := H1; refine (copyF_any ao la ca x w1 (HX.out _ H1.out).1 (by have := HL.out; omega)).mono ?_; rintro e w2 ⟨o5, k5, rfl, hr5, hb2⟩; clear pa0 pa1 pa2 pa3 pa4 pa5; obtain ⟨pb0, pb1, pb2, pb3, pb4, pb5⟩ := KC.out _ (bnextM (B := 0) H1.out hb2); have H2 : Hid (RawF w2 o5 la k5 x ∧ Below W.heap.size W w2) := ⟨hr5, bnextM (B := 0) H1.out hb2⟩; clear hr5 hb2)
      | (go_at_call 5; rw [← hW]; refine hcH.mono ?_; rintro e w1 ⟨rfl, hb1⟩; clear hcH hW c0 c1 c2 c3 c4 c5; obtain ⟨pa0, pa1, pa2, pa3, pa4, pa5⟩ := KC.out _ hb1; have H1 : Hid (Below W.heap.size W w1) := hb1; clear hb1))
    have HU : Hid (∀ V, Below U.heap.size U V → RawF V o5 la k5 x ∧ RawF V o6 lb k6 y ∧ RawF V ao la ca x ∧ RawF V bo lb cb y ∧ RawsAt V po pl pc rs ∧ TabAt 0 Lib.deBruijn64tab V ∧ Below W.heap.size W V) := fun V hV => by
      have h := bnextM (B := 0) H5.out.2.2 hV
      exact ⟨H5.out.1.later hV, H5.out.2.1.later hV, (HX.out V h).1, (HX.out V h).2.1, (HX.out V h).2.2.1, (HX.out V h).2.2.2, h⟩
    clear H1 H2 H3 H4
    go_cut [63] (fun s63 wx => ∃ b3, s63 = .bool b3 ∧ (b3 = true → q1 = 0 ∧ P ≤ N) ∧ (b3 = false → q1 = 0 → N < P) ∧ Below U.heap.size U wx)
    case first => as_aux_lemma =>
      rcases HC1.out.or with h | h
      · subst h
        by_cases hn : P ≤ N
        · go_wp2_with fail
          go_meet
          exact ⟨true, rfl, fun _ => ⟨rfl, hn⟩, fun h => (by cases h), Below.refl _ _⟩
        · go_wp2_with fail
          go_meet
          exact ⟨false, rfl, fun h => (by cases h), fun _ _ => (by omega), Below.refl _ _⟩
      · subst h
        go_wp2_with fail
        go_meet
        exact ⟨false, rfl, fun h => (by cases h), fun _ h => (by cases h), Below.refl _ _⟩
    case rest => as_aux_lemma =>
      obtain ⟨b3, rfl, h31, h32, hBZ1⟩ := hcut
      obtain ⟨Z1, hZ1⟩ : ∃ V, V = wc := ⟨_, rfl⟩
      subst hZ1
      replace HU : Hid (∀ V, Below Z1.heap.size Z1 V → RawF V o5 la k5 x ∧ RawF V o6 lb k6 y ∧ RawF V ao la ca x ∧ RawF V bo lb cb y ∧ RawsAt V po pl pc rs ∧ TabAt 0 Lib.deBruijn64tab V ∧ Below W.heap.size W V) := fun V hV => HU.out V (bnextM (B := 0) hBZ1 hV)
      clear pu0 pu1 pu2 pu3 pu4 pu5
      obtain ⟨pe0, pe1, pe2, pe3, pe4, pe5⟩ := KC.out _ (HU.out Z1 (Below.refl _ _)).2.2.2.2.2.2
      clear hBZ1
      have H3B : Hid ((b3 = true → q1 = 0 ∧ P ≤ N) ∧ (b3 = false → q1 = 0 → N < P)) := ⟨h31, h32⟩
      clear h31 h32
      go_upto_if 63 with fail
      go_cut [16] (fun s16 wx => ∃ q3, s16 = .int .i64 q3 ∧ condC q3 (okF P la x ∧ N < P) ∧ Below Z1.heap.size Z1 wx)
      case first => as_aux_lemma =>
        cases b3
        · go_wp2_with fail
          go_meet
          refine ⟨_, rfl, ?_, Below.refl _ _⟩
          rcases HC1.out with ⟨h1, h2⟩ | ⟨h1, h2⟩
          · exact Or.inl ⟨⟨h1, H3B.out.2 (by simp) h2⟩, h2⟩
          · exact Or.inr ⟨fun h => h1 h.1, h2⟩
        · go_wp2_with fail
          go_meet
          exact ⟨_, rfl, Or.inr ⟨fun h => by have := (H3B.out.1 (by simp)).2; omega, rfl⟩, Below.refl _ _⟩
      case rest => as_aux_lemma =>
        obtain ⟨q3, rfl, hq3, hBZ2⟩ := hcut
        obtain ⟨Z2, hZ2⟩ : ∃ V, V = wc := ⟨_, rfl⟩
        subst hZ2
        replace HU : Hid (∀ V, Below Z2.heap.size Z2 V → RawF V o5 la k5 x ∧ RawF V o6 lb k6 y ∧ RawF V ao la ca x ∧ RawF V bo lb cb y ∧ RawsAt V po pl pc rs ∧ TabAt 0 Lib.deBruijn64tab V ∧ Below W.heap.size W V) := fun V hV => HU.out V (bnextM (B := 0) hBZ2 hV)
        clear pe0 pe1 pe2 pe3 pe4 pe5
        obtain ⟨pf0, pf1, pf2, pf3, pf4, pf5⟩ := KC.out _ (HU.out Z2 (Below.refl _ _)).2.2.2.2.2.2
        clear hBZ2
        have HC3 : Hid (condC q3 (okF P la x ∧ N < P)) := hq3
        clear hq3 H3B
        go_upto_if 70 with (first
          | (go_at_call 8; refine (pmay_any po pl pc rs _ (HU.out Z2 (Below.refl _ _)).2.2.2.2.1 (by have := HL.out.2.1; omega) (fun r hr => by obtain ⟨t, ht, e⟩ := List.getElem_of_mem hr; have h2 := HL.out.2.2 t; simp only [rv, List.getD_eq_getElem?_getD, List.getElem?_eq_getElem ht, Option.getD_some] at h2; rw [e] at h2; omega) mb HMB.out).mono ?_; rintro e v2 ⟨rfl, hv2⟩; have HV2 : Hid (Below Z2.heap.size Z2 v2) := hv2; clear hv2)
          | (go_at_call 7; refine (form0_c P q5 _ HN.out.2 HC5.out).mono ?_; rintro e v1 ⟨rfl, hv1⟩; replace hv1 := hv1.symm; subst hv1))
        go_cut [17] (fun s17 wx => ∃ q4, s17 = .int .i64 q4 ∧ condC q4 (pmayB pl rs = true ∧ IsPr P ∧ P < 2147483648) ∧ Below Z2.heap.size Z2 wx)
        case first => as_aux_lemma =>
          cases mb
          · go_wp2_with fail
            go_meet
            exact ⟨_, rfl, Or.inr ⟨fun h => (by have h2 := h.1; rw [HMB.out] at h2; cases h2), rfl⟩, HV2.out⟩
          · go_wp2_with fail
            go_meet
            refine ⟨_, rfl, ?_, HV2.out⟩
            rcases HC5.out with ⟨h1, h2⟩ | ⟨h1, h2⟩
            · exact Or.inl ⟨⟨HMB.out, h1⟩, h2⟩
            · exact Or.inr ⟨fun h => h1 h.2, h2⟩
        case rest => as_aux_lemma =>
          obtain ⟨q4, rfl, hq4, hBZ3⟩ := hcut
          obtain ⟨Z3, hZ3⟩ : ∃ V, V = wc := ⟨_, rfl⟩
          subst hZ3
          replace HU : Hid (∀ V, Below Z3.heap.size Z3 V → RawF V o5 la k5 x ∧ RawF V o6 lb k6 y ∧ RawF V ao la ca x ∧ RawF V bo lb cb y ∧ RawsAt V po pl pc rs ∧ TabAt 0 Lib.deBruijn64tab V ∧ Below W.heap.size W V) := fun V hV => HU.out V (bnextM (B := 0) hBZ3 hV)
          clear pf0 pf1 pf2 pf3 pf4 pf5
          obtain ⟨pg0, pg1, pg2, pg3, pg4, pg5⟩ := KC.out _ (HU.out Z3 (Below.refl _ _)).2.2.2.2.2.2
          clear hBZ3
          have HC4 : Hid (condC q4 (pmayB pl rs = true ∧ IsPr P ∧ P < 2147483648)) := hq4
          clear hq4 HV2 HC5 HMB
          go_upto_if 72 with fail
          go_cut [12, 13] (fun s12 s13 wx => ∃ o12 l12 k12 o13 l13 k13, s12 = .slice o12 l12 k12 ∧ s13 = .slice o13 l13 k13 ∧ Want wx q1 o12 l12 k12 (fun z => TrimOf z (derM P x)) ∧ Want wx q1 o13 l13 k13 (fun z => z = monL P x) ∧ Below Z3.heap.size Z3 wx)
          case first => as_aux_lemma =>
            rcases HC1.out.or with h | h
            · subst h
              go_wp2_with (first
                | (go_at_call 10; refine (rmonic_any P o5 la k5 x y1 (HC1.out.yes rfl).1.1 (HC1.out.yes rfl).two.2 ((HU.out y1 R12.out.1).1.good (HC1.out.yes rfl)).1 (HC1.out.yes rfl).2.1.can).mono ?_; rintro e y2 ⟨o13, l13, k13, z13, rfl, hr, hz, hb⟩; obtain ⟨p13x0, p13x1, p13x2, p13x3, p13x4, p13x5⟩ := KC.out _ (HU.out _ (bnextM (B := 0) R12.out.1 hb)).2.2.2.2.2.2; have R13 : Hid (Below Z3.heap.size Z3 y2 ∧ Want y2 0 o12 l12 k12 (fun z => TrimOf z (derM P x)) ∧ Want y2 0 o13 l13 k13 (fun z => z = monL P x)) := ⟨(bnextM (B := 0) R12.out.1 hb), R12.out.2.later hb, Want.ofRow hr hz⟩; clear hr hz hb)
                | (go_at_call 9; refine (rder_any P o5 la k5 x Z3 (HC1.out.yes rfl).two ((HU.out Z3 (Below.refl _ _)).1.good (HC1.out.yes rfl)).1).mono ?_; rintro e y1 ⟨o12, l12, k12, z12, rfl, hr, hz, hb⟩; obtain ⟨p12x0, p12x1, p12x2, p12x3, p12x4, p12x5⟩ := KC.out _ (HU.out _ hb).2.2.2.2.2.2; have R12 : Hid (Below Z3.heap.size Z3 y1 ∧ Want y1 0 o12 l12 k12 (fun z => TrimOf z (derM P x))) := ⟨hb, Want.ofRow hr hz⟩; clear hr hz hb))
              go_meet
              exact ⟨_, _, _, _, _, _, rfl, rfl, R13.out.2.1, R13.out.2.2, R13.out.1⟩
            · subst h
              go_wp2_with fail
              go_meet
              exact ⟨_, _, _, _, _, _, rfl, rfl, Want.no (by decide), Want.no (by decide), Below.refl _ _⟩
          case rest => as_aux_lemma =>
            obtain ⟨o12, l12, k12, o13, l13, k13, rfl, rfl, hw12, hw13, hBZ4⟩ := hcut
            obtain ⟨Z4, hZ4⟩ : ∃ V, V = wc := ⟨_, rfl⟩
            subst hZ4
            replace HU : Hid (∀ V, Below Z4.heap.size Z4 V → RawF V o5 la k5 x ∧ RawF V o6 lb k6 y ∧ RawF V ao la ca x ∧ RawF V bo lb cb y ∧ RawsAt V po pl pc rs ∧ TabAt 0 Lib.deBruijn64tab V ∧ Below W.heap.size W V) := fun V hV => HU.out V (bnextM (B := 0) hBZ4 hV)
            clear pg0 pg1 pg2 pg3 pg4 pg5
            obtain ⟨ph0, ph1, ph2, ph3, ph4, ph5⟩ := KC.out _ (HU.out Z4 (Below.refl _ _)).2.2.2.2.2.2
            clear hBZ4
            have HW12 : Hid (∀ V, Below Z4.heap.size Z4 V → Want V q1 o12 l12 k12 (fun z => TrimOf z (derM P x))) := fun V hV => hw12.later hV
            clear hw12
            have HW13 : Hid (∀ V, Below Z4.heap.size Z4 V → Want V q1 o13 l13 k13 (fun z => z = monL P x)) := fun V hV => hw13.later hV
            clear hw13
            go_upto_if 82 with fail
            go_cut [9, 10, 11] (fun s9 s10 s11 wx => ∃ o9 l9 k9 o10 l10 k10 o11 l11 k11, s9 = .slice o9 l9 k9 ∧ s10 = .slice o10 l10 k10 ∧ s11 = .slice o11 l11 k11 ∧ Want wx q2 o9 l9 k9 (fun z => Pm P z ∧ EqM P (fun t => ev z t) (fun t => ev x t + ev y t)) ∧ Want wx q2 o10 l10 k10 (fun z => Pm P z ∧ EqM P (fun t => ev z t) (fun t => ev x t - ev y t)) ∧ Want wx q2 o11 l11 k11 (fun z => z = prodL P x y) ∧ Below Z4.heap.size Z4 wx)
            case first => as_aux_lemma =>
              rcases HC2.out.or with h | h
              · subst h
                go_wp2_with (first
                  | (go_at_call 13; refine (rtimesF_any P o5 o6 la k5 lb k6 x y y2 (HC2.out.yes rfl).1.1.1 (HC2.out.yes rfl).1.two.2 ((HU.out y2 R10.out.1).1.good (HC2.out.yes rfl).1).1 ((HU.out y2 R10.out.1).2.1.good (HC2.out.yes rfl).2).1 (HC2.out.yes rfl).1.2.1 (HC2.out.yes rfl).2.2.1 (by have := HL.out; omega)).mono ?_; rintro e y3 ⟨o11, l11, k11, z11, rfl, hr, hz, hb⟩; obtain ⟨p11x0, p11x1, p11x2, p11x3, p11x4, p11x5⟩ := KC.out _ (HU.out _ (bnextM (B := 0) R10.out.1 hb)).2.2.2.2.2.2; have R11 : Hid (Below Z4.heap.size Z4 y3 ∧ Want y3 0 o9 l9 k9 (fun z => Pm P z ∧ EqM P (fun t => ev z t) (fun t => ev x t + ev y t)) ∧ Want y3 0 o10 l10 k10 (fun z => Pm P z ∧ EqM P (fun t => ev z t) (fun t => ev x t - ev y t)) ∧ Want y3 0 o11 l11 k11 (fun z => z = prodL P x y)) := ⟨(bnextM (B := 0) R10.out.1 hb), R10.out.2.1.later hb, R10.out.2.2.later hb, Want.ofRow hr hz⟩; clear hr hz hb)
                  | (go_at_call 12; refine (rlessF_any P o5 o6 la k5 lb k6 x y y1 (HC2.out.yes rfl).1.two ((HU.out y1 R9.out.1).1.good (HC2.out.yes rfl).1).1 ((HU.out y1 R9.out.1).2.1.good (HC2.out.yes rfl).2).1).mono ?_; rintro e y2 ⟨o10, l10, k10, z10, rfl, hr, hz, hb⟩; obtain ⟨p10x0, p10x1, p10x2, p10x3, p10x4, p10x5⟩ := KC.out _ (HU.out _ (bnextM (B := 0) R9.out.1 hb)).2.2.2.2.2.2; have R10 : Hid (Below Z4.heap.size Z4 y2 ∧ Want y2 0 o9 l9 k9 (fun z => Pm P z ∧ EqM P (fun t => ev z t) (fun t => ev x t + ev y t)) ∧ Want y2 0 o10 l10 k10 (fun z => Pm P z ∧ EqM P (fun t => ev z t) (fun t => ev x t - ev y t))) := ⟨(bnextM (B := 0) R9.out.1 hb), R9.out.2.later hb, Want.ofRow hr hz⟩; clear hr hz hb)
                  | (go_at_call 11; refine (rplusF_any P o5 o6 la k5 lb k6 x y Z4 (HC2.out.yes rfl).1.two ((HU.out Z4 (Below.refl _ _)).1.good (HC2.out.yes rfl).1).1 ((HU.out Z4 (Below.refl _ _)).2.1.good (HC2.out.yes rfl).2).1).mono ?_; rintro e y1 ⟨o9, l9, k9, z9, rfl, hr, hz, hb⟩; obtain ⟨p9x0, p9x1, p9x2, p9x3, p9x4, p9x5⟩ := KC.out _ (HU.out _ hb).2.2.2.2.2.2; have R9 : Hid (Below Z4.heap.size Z4 y1 ∧ Want y1 0 o9 l9 k9 (fun z => Pm P z ∧ EqM P (fun t => ev z t) (fun t => ev x t + ev y t))) := ⟨hb, Want.ofRow hr hz⟩; clear hr hz hb))
                go_meet
                exact ⟨_, _, _, _, _, _, _, _, _, rfl, rfl, rfl, R11.out.2.1, R11.out.2.2.1, R11.out.2.2.2, R11.out.1⟩
              · subst h
                go_wp2_with fail
                go_meet
                exact ⟨_, _, _, _, _, _, _, _, _, rfl, rfl, rfl, Want.no (by decide), Want.no (by decide), Want.no (by decide), Below.refl _ _⟩
            case rest => as_aux_lemma =>
              obtain ⟨o9, l9, k9, o10, l10, k10, o11, l11, k11, rfl, rfl, rfl, hw9, hw10, hw11, hBZ5⟩ := hcut
              obtain ⟨Z5, hZ5⟩ : ∃ V, V = wc := ⟨_, rfl⟩
              subst hZ5
              replace HU : Hid (∀ V, Below Z5.heap.size Z5 V → RawF V o5 la k5 x ∧ RawF V o6 lb k6 y ∧ RawF V ao la ca x ∧ RawF V bo lb cb y ∧ RawsAt V po pl pc rs ∧ TabAt 0 Lib.deBruijn64tab V ∧ Below W.heap.size W V) := fun V hV => HU.out V (bnextM (B := 0) hBZ5 hV)
              replace HW12 : Hid (∀ V, Below Z5.heap.size Z5 V → Want V q1 o12 l12 k12 (fun z => TrimOf z (derM P x))) := fun V hV => HW12.out V (bnextM (B := 0) hBZ5 hV)
              replace HW13 : Hid (∀ V, Below Z5.heap.size Z5 V → Want V q1 o13 l13 k13 (fun z => z = monL P x)) := fun V hV => HW13.out V (bnextM (B := 0) hBZ5 hV)
              clear ph0 ph1 ph2 ph3 ph4 ph5
              obtain ⟨pi0, pi1, pi2, pi3, pi4, pi5⟩ := KC.out _ (HU.out Z5 (Below.refl _ _)).2.2.2.2.2.2
              clear hBZ5
              have HW9 : Hid (∀ V, Below Z5.heap.size Z5 V → Want V q2 o9 l9 k9 (fun z => Pm P z ∧ EqM P (fun t => ev z t) (fun t => ev x t + ev y t))) := fun V hV => hw9.later hV
              clear hw9
              have HW10 : Hid (∀ V, Below Z5.heap.size Z5 V → Want V q2 o10 l10 k10 (fun z => Pm P z ∧ EqM P (fun t => ev z t) (fun t => ev x t - ev y t))) := fun V hV => hw10.later hV
              clear hw10
              have HW11 : Hid (∀ V, Below Z5.heap.size Z5 V → Want V q2 o11 l11 k11 (fun z => z = prodL P x y)) := fun V hV => hw11.later hV
              clear hw11
              go_upto_if 99 with fail
              go_cut [15] (fun s15 wx => ∃ vv : Int, s15 = .int .u64 vv ∧ (q3 = 0 → vv = horM P N x) ∧ (q3 = 90 → vv = 0) ∧ Below Z5.heap.size Z5 wx)
              case first => as_aux_lemma =>
                rcases HC3.out.or with h | h
                · subst h
                  go_wp2_with (go_at_call 14; refine (reval_any P N o5 la k5 x Z5 (HC3.out.yes rfl).1.two ⟨HN.out.1.1, (HC3.out.yes rfl).2⟩ ((HU.out Z5 (Below.refl _ _)).1.good (HC3.out.yes rfl).1).1).mono ?_; rintro e v3 ⟨rfl, hv3⟩; replace hv3 := hv3.symm; subst hv3)
                  go_meet
                  first
                    | exact ⟨_, rfl, fun _ => rfl, fun h => (by cases h), Below.refl _ _⟩
                    | (refine ⟨horM P N x, ?_, fun _ => rfl, fun h => (by cases h), Below.refl _ _⟩; rename_i heq; injection heq with h; exact h.symm)
                · subst h
                  go_wp2_with fail
                  go_meet
                  exact ⟨_, rfl, fun h => (by cases h), fun _ => rfl, Below.refl _ _⟩
              case rest => as_aux_lemma =>
                obtain ⟨vv, rfl, hv0, hv9, hBZ6⟩ := hcut
                obtain ⟨Z6, hZ6⟩ : ∃ V, V = wc := ⟨_, rfl⟩
                subst hZ6
                replace HU : Hid (∀ V, Below Z6.heap.size Z6 V → RawF V o5 la k5 x ∧ RawF V o6 lb k6 y ∧ RawF V ao la ca x ∧ RawF V bo lb cb y ∧ RawsAt V po pl pc rs ∧ TabAt 0 Lib.deBruijn64tab V ∧ Below W.heap.size W V) := fun V hV => HU.out V (bnextM (B := 0) hBZ6 hV)
                replace HW12 : Hid (∀ V, Below Z6.heap.size Z6 V → Want V q1 o12 l12 k12 (fun z => TrimOf z (derM P x))) := fun V hV => HW12.out V (bnextM (B := 0) hBZ6 hV)
                replace HW13 : Hid (∀ V, Below Z6.heap.size Z6 V → Want V q1 o13 l13 k13 (fun z => z = monL P x)) := fun V hV => HW13.out V (bnextM (B := 0) hBZ6 hV)
                replace HW9 : Hid (∀ V, Below Z6.heap.size Z6 V → Want V q2 o9 l9 k9 (fun z => Pm P z ∧ EqM P (fun t => ev z t) (fun t => ev x t + ev y t))) := fun V hV => HW9.out V (bnextM (B := 0) hBZ6 hV)
                replace HW10 : Hid (∀ V, Below Z6.heap.size Z6 V → Want V q2 o10 l10 k10 (fun z => Pm P z ∧ EqM P (fun t => ev z t) (fun t => ev x t - ev y t))) := fun V hV => HW10.out V (bnextM (B := 0) hBZ6 hV)
                replace HW11 : Hid (∀ V, Below Z6.heap.size Z6 V → Want V q2 o11 l11 k11 (fun z => z = prodL P x y)) := fun V hV => HW11.out V (bnextM (B := 0) hBZ6 hV)
                clear pi0 pi1 pi2 pi3 pi4 pi5
                obtain ⟨pj0, pj1, pj2, pj3, pj4, pj5⟩ := KC.out _ (HU.out Z6 (Below.refl _ _)).2.2.2.2.2.2
                clear hBZ6
                have HVV : Hid ((q3 = 0 → vv = horM P N x) ∧ (q3 = 90 → vv = 0)) := ⟨hv0, hv9⟩
                clear hv0 hv9
                go_upto_if 107 with fail
                go_cut [14] (fun s14 wx => ∃ o14 l14 k14, s14 = .slice o14 l14 k14 ∧ Want wx q4 o14 l14 k14 (fun z => TrimOf z (ofM P a)) ∧ Below Z6.heap.size Z6 wx)
                case first => as_aux_lemma =>
                  rcases HC4.out.or with h | h
                  · subst h
                    go_wp2_with (go_at_call 15; refine (rof_int P po pl pc a Z6 ⟨(HC4.out.yes rfl).2.1.two, by have := (HC4.out.yes rfl).2.2; omega⟩ (HPA.out Z6 (HU.out Z6 (Below.refl _ _)).2.2.2.2.2.2 (HC4.out.yes rfl).1).1 (by have := HL.out; omega) (HPA.out Z6 (HU.out Z6 (Below.refl _ _)).2.2.2.2.2.2 (HC4.out.yes rfl).1).2).mono ?_; rintro e y1 ⟨o14, l14, k14, z14, rfl, hr, hz, hb⟩; obtain ⟨p14x0, p14x1, p14x2, p14x3, p14x4, p14x5⟩ := KC.out _ (HU.out _ hb).2.2.2.2.2.2; have R14 : Hid (Below Z6.heap.size Z6 y1 ∧ Want y1 0 o14 l14 k14 (fun z => TrimOf z (ofM P a))) := ⟨hb, Want.ofRow hr hz⟩; clear hr hz hb)
                    go_meet
                    exact ⟨_, _, _, rfl, R14.out.2, R14.out.1⟩
                  · subst h
                    go_wp2_with fail
                    go_meet
                    exact ⟨_, _, _, rfl, Want.no (by decide), Below.refl _ _⟩
                case rest => as_aux_lemma =>
                  obtain ⟨o14, l14, k14, rfl, hw14, hBZ⟩ := hcut
                  obtain ⟨Z, hZ⟩ : ∃ V, V = wc := ⟨_, rfl⟩
                  subst hZ
                  replace HU : Hid (∀ V, Below Z.heap.size Z V → RawF V o5 la k5 x ∧ RawF V o6 lb k6 y ∧ RawF V ao la ca x ∧ RawF V bo lb cb y ∧ RawsAt V po pl pc rs ∧ TabAt 0 Lib.deBruijn64tab V ∧ Below W.heap.size W V) := fun V hV => HU.out V (bnextM (B := 0) hBZ hV)
                  replace HW12 : Hid (∀ V, Below Z.heap.size Z V → Want V q1 o12 l12 k12 (fun z => TrimOf z (derM P x))) := fun V hV => HW12.out V (bnextM (B := 0) hBZ hV)
                  replace HW13 : Hid (∀ V, Below Z.heap.size Z V → Want V q1 o13 l13 k13 (fun z => z = monL P x)) := fun V hV => HW13.out V (bnextM (B := 0) hBZ hV)
                  replace HW9 : Hid (∀ V, Below Z.heap.size Z V → Want V q2 o9 l9 k9 (fun z => Pm P z ∧ EqM P (fun t => ev z t) (fun t => ev x t + ev y t))) := fun V hV => HW9.out V (bnextM (B := 0) hBZ hV)
                  replace HW10 : Hid (∀ V, Below Z.heap.size Z V → Want V q2 o10 l10 k10 (fun z => Pm P z ∧ EqM P (fun t => ev z t) (fun t => ev x t - ev y t))) := fun V hV => HW10.out V (bnextM (B := 0) hBZ hV)
                  replace HW11 : Hid (∀ V, Below Z.heap.size Z V → Want V q2 o11 l11 k11 (fun z => z = prodL P x y)) := fun V hV => HW11.out V (bnextM (B := 0) hBZ hV)
                  clear pj0 pj1 pj2 pj3 pj4 pj5
                  obtain ⟨pk0, pk1, pk2, pk3, pk4, pk5⟩ := KC.out _ (HU.out Z (Below.refl _ _)).2.2.2.2.2.2
                  clear hBZ
                  have HW14 : Hid (∀ V, Below Z.heap.size Z V → Want V q4 o14 l14 k14 (fun z => TrimOf z (ofM P a))) := fun V hV => hw14.later hV
                  clear hw14
                  have HRW : Hid (∀ V, Below Z.heap.size Z V → Raw2 P V o5 o6 la k5 lb k6 x y) := fun V hV => ⟨HN.out.2, (HU.out V hV).2.2.2.2.2.1, (HU.out V hV).1, (HU.out V hV).2.1⟩
                  have KZ : Hid (∀ V, Below Z.heap.size Z V → V.cell? ⟨wr.heap.size, 0, none⟩ = some (.slice ao la ca) ∧ V.cell? ⟨wr.heap.size, 1, none⟩ = some (.slice bo lb cb) ∧ V.cell? ⟨wr.heap.size, 2, none⟩ = some (.slice co lc cc) ∧ V.cell? ⟨wr.heap.size, 3, none⟩ = some (.int .u64 N) ∧ V.cell? ⟨wr.heap.size, 4, none⟩ = some (.int .u64 P) ∧ V.cell? ⟨wr.heap.size, 5, none⟩ = some (.slice po pl pc)) := fun V hV => KC.out V (HU.out V hV).2.2.2.2.2.2
                  have UD : Hid (q1 = 0 → ∀ s t, TrimOf s (derM P x) → TrimOf t (derM P x) → s = t) := fun _ s t h1 h2 => h1.uniq h2
                  have UM : Hid (q1 = 0 → ∀ s t, s = monL P x → t = monL P x → s = t) := fun _ s t h1 h2 => h1.trans h2.symm
                  have UP : Hid (q2 = 0 → ∀ s t, s = prodL P x y → t = prodL P x y → s = t) := fun _ s t h1 h2 => h1.trans h2.symm
                  have UO : Hid (q4 = 0 → ∀ s t, TrimOf s (ofM P a) → TrimOf t (ofM P a) → s = t) := fun _ s t h1 h2 => h1.uniq h2
                  have US : Hid (q2 = 0 → ∀ s t, (Pm P s ∧ EqM P (fun r => ev s r) (fun r => ev x r + ev y r)) → (Pm P t ∧ EqM P (fun r => ev t r) (fun r => ev x r + ev y r)) → s = t) := fun hq s t h1 h2 => Pm.inj (by have := (HC2.out.yes hq).1.two; omega) h1.1 h2.1 (h1.2.trans h2.2.symm)
                  have UL : Hid (q2 = 0 → ∀ s t, (Pm P s ∧ EqM P (fun r => ev s r) (fun r => ev x r - ev y r)) → (Pm P t ∧ EqM P (fun r => ev t r) (fun r => ev x r - ev y r)) → s = t) := fun hq s t h1 h2 => Pm.inj (by have := (HC2.out.yes hq).1.two; omega) h1.1 h2.1 (h1.2.trans h2.2.symm)
                  go_wp2_with (first
                    | (go_at_call 26; have _t := B15; refine (meqF_any true o6 bo lb k6 lb cb y y w15 (HU.out _ B15.out).2.1.1 (HU.out _ B15.out).2.2.2.1.1 (by have := HL.out; omega) (by simp)).mono ?_; rintro e w16 ⟨rfl, hb⟩; have B16 : Hid (Below Z.heap.size Z w16) := bnextM (B := 0) B15.out hb; clear hb)
                    | (go_at_call 26; have _t := B14; refine (meqF_any true o5 ao la k5 la ca x x w14 (HU.out _ B14.out).1.1 (HU.out _ B14.out).2.2.1.1 (by have := HL.out; omega) (by simp)).mono ?_; rintro e w15 ⟨rfl, hb⟩; have B15 : Hid (Below Z.heap.size Z w15) := bnextM (B := 0) B14.out hb; clear hb; clear pm140 pm141 pm142 pm143 pm144 pm145; obtain ⟨pm150, pm151, pm152, pm153, pm154, pm155⟩ := KZ.out _ B15.out)
                    | (go_at_call 20; have _t := A13; refine (mis_ans (V := w12) (P := fun z => TrimOf z (ofM P a)) HC4.out.or A13.out.1 A13.out.2.1 A13.out.2.2 (HW14.out _ (bnextM (B := 0) B12.out A13.out.2.2)) UO.out).mono ?_; rintro e w14 ⟨rfl, hb⟩; have B14 : Hid (Below Z.heap.size Z w14) := bnextM (B := 0) B12.out hb; clear hb; clear pm120 pm121 pm122 pm123 pm124 pm125; obtain ⟨pm140, pm141, pm142, pm143, pm144, pm145⟩ := KZ.out _ B14.out)
                    | (go_at_call 25; refine (mOf_c P q4 po pl pc rs a w12 HN.out.2 (HU.out w12 B12.out).2.2.2.2.2.1 (HU.out w12 B12.out).2.2.2.2.1 (HPA.out w12 (HU.out w12 B12.out).2.2.2.2.2.2) (by have := HL.out; omega) (fun t => by have := HL.out.2.2 t; omega) HC4.out).mono ?_; rintro e w13 ⟨x13, j13, i13, rfl, h90, h0, hb⟩; have A13 : Hid ((q4 = 90 → x13 = none ∧ j13 = 0 ∧ i13 = 0) ∧ (q4 = 0 → ∃ zs, Own w12.heap.size w13 .u64 25 x13 j13 i13 zs ∧ (fun z => TrimOf z (ofM P a)) zs ∧ j13 ≤ 4194304) ∧ Below w12.heap.size w12 w13) := ⟨h90, h0, hb⟩; clear h90 h0 hb)
                    | (go_at_call 20; have _t := A11; refine (mis_ans (V := w10) (P := fun z => z = monL P x) HC1.out.or A11.out.1 A11.out.2.1 A11.out.2.2 (HW13.out _ (bnextM (B := 0) B10.out A11.out.2.2)) UM.out).mono ?_; rintro e w12 ⟨rfl, hb⟩; have B12 : Hid (Below Z.heap.size Z w12) := bnextM (B := 0) B10.out hb; clear hb; clear pm100 pm101 pm102 pm103 pm104 pm105; obtain ⟨pm120, pm121, pm122, pm123, pm124, pm125⟩ := KZ.out _ B12.out)
                    | (go_at_call 24; refine (mMonic_c P q1 o5 o6 la k5 lb k6 x y w10 (HRW.out w10 B10.out) HC1.out).mono ?_; rintro e w11 ⟨x11, j11, i11, rfl, h90, h0, hb⟩; have A11 : Hid ((q1 = 90 → x11 = none ∧ j11 = 0 ∧ i11 = 0) ∧ (q1 = 0 → ∃ zs, Own w10.heap.size w11 .u64 25 x11 j11 i11 zs ∧ (fun z => z = monL P x) zs ∧ j11 ≤ 4194304) ∧ Below w10.heap.size w10 w11) := ⟨h90, h0, hb⟩; clear h90 h0 hb)
                    | (go_at_call 20; have _t := A9; refine (mis_ans (V := w8) (P := fun z => TrimOf z (derM P x)) HC1.out.or A9.out.1 A9.out.2.1 A9.out.2.2 (HW12.out _ (bnextM (B := 0) B8.out A9.out.2.2)) UD.out).mono ?_; rintro e w10 ⟨rfl, hb⟩; have B10 : Hid (Below Z.heap.size Z w10) := bnextM (B := 0) B8.out hb; clear hb; clear pm80 pm81 pm82 pm83 pm84 pm85; obtain ⟨pm100, pm101, pm102, pm103, pm104, pm105⟩ := KZ.out _ B10.out)
                    | (go_at_call 23; refine (mDer_c P q1 o5 o6 la k5 lb k6 x y w8 (HRW.out w8 B8.out) HC1.out).mono ?_; rintro e w9 ⟨x9, j9, i9, rfl, h90, h0, hb⟩; have A9 : Hid ((q1 = 90 → x9 = none ∧ j9 = 0 ∧ i9 = 0) ∧ (q1 = 0 → ∃ zs, Own w8.heap.size w9 .u64 25 x9 j9 i9 zs ∧ (fun z => TrimOf z (derM P x)) zs ∧ j9 ≤ 4194304) ∧ Below w8.heap.size w8 w9) := ⟨h90, h0, hb⟩; clear h90 h0 hb)
                    | (go_at_call 20; have _t := A7; refine (mis_ans (V := w6) (P := fun z => z = prodL P x y) HC2.out.or A7.out.1 A7.out.2.1 A7.out.2.2 (HW11.out _ (bnextM (B := 0) B6.out A7.out.2.2)) UP.out).mono ?_; rintro e w8 ⟨rfl, hb⟩; have B8 : Hid (Below Z.heap.size Z w8) := bnextM (B := 0) B6.out hb; clear hb; clear pm60 pm61 pm62 pm63 pm64 pm65; obtain ⟨pm80, pm81, pm82, pm83, pm84, pm85⟩ := KZ.out _ B8.out)
                    | (go_at_call 22; refine (mMul_c P q2 o5 o6 la k5 lb k6 x y w6 (HRW.out w6 B6.out) (by have := HL.out; omega) HC2.out).mono ?_; rintro e w7 ⟨x7, j7, i7, rfl, h90, h0, hb⟩; have A7 : Hid ((q2 = 90 → x7 = none ∧ j7 = 0 ∧ i7 = 0) ∧ (q2 = 0 → ∃ zs, Own w6.heap.size w7 .u64 25 x7 j7 i7 zs ∧ (fun z => z = prodL P x y) zs ∧ j7 ≤ 4194304) ∧ Below w6.heap.size w6 w7) := ⟨h90, h0, hb⟩; clear h90 h0 hb)
                    | (go_at_call 20; have _t := A5; refine (mis_ans (V := w4) (P := fun z => Pm P z ∧ EqM P (fun t => ev z t) (fun t => ev x t - ev y t)) HC2.out.or A5.out.1 A5.out.2.1 A5.out.2.2 (HW10.out _ (bnextM (B := 0) B4.out A5.out.2.2)) UL.out).mono ?_; rintro e w6 ⟨rfl, hb⟩; have B6 : Hid (Below Z.heap.size Z w6) := bnextM (B := 0) B4.out hb; clear hb; clear pm40 pm41 pm42 pm43 pm44 pm45; obtain ⟨pm60, pm61, pm62, pm63, pm64, pm65⟩ := KZ.out _ B6.out)
                    | (go_at_call 21; refine (mSub_c P q2 o5 o6 la k5 lb k6 x y w4 (HRW.out w4 B4.out) HC2.out).mono ?_; rintro e w5 ⟨x5, j5, i5, rfl, h90, h0, hb⟩; have A5 : Hid ((q2 = 90 → x5 = none ∧ j5 = 0 ∧ i5 = 0) ∧ (q2 = 0 → ∃ zs, Own w4.heap.size w5 .u64 25 x5 j5 i5 zs ∧ (fun z => Pm P z ∧ EqM P (fun t => ev z t) (fun t => ev x t - ev y t)) zs ∧ j5 ≤ 4194304) ∧ Below w4.heap.size w4 w5) := ⟨h90, h0, hb⟩; clear h90 h0 hb)
                    | (go_at_call 20; have _t := A3; refine (mis_ans (V := w2) (P := fun z => Pm P z ∧ EqM P (fun t => ev z t) (fun t => ev x t + ev y t)) HC2.out.or A3.out.1 A3.out.2.1 A3.out.2.2 (HW9.out _ (bnextM (B := 0) B2.out A3.out.2.2)) US.out).mono ?_; rintro e w4 ⟨rfl, hb⟩; have B4 : Hid (Below Z.heap.size Z w4) := bnextM (B := 0) B2.out hb; clear hb; clear pm20 pm21 pm22 pm23 pm24 pm25; obtain ⟨pm40, pm41, pm42, pm43, pm44, pm45⟩ := KZ.out _ B4.out)
                    | (go_at_call 19; refine (mAdd_c P q2 o5 o6 la k5 lb k6 x y w2 (HRW.out w2 B2.out) HC2.out).mono ?_; rintro e w3 ⟨x3, j3, i3, rfl, h90, h0, hb⟩; have A3 : Hid ((q2 = 90 → x3 = none ∧ j3 = 0 ∧ i3 = 0) ∧ (q2 = 0 → ∃ zs, Own w2.heap.size w3 .u64 25 x3 j3 i3 zs ∧ (fun z => Pm P z ∧ EqM P (fun t => ev z t) (fun t => ev x t + ev y t)) zs ∧ j3 ≤ 4194304) ∧ Below w2.heap.size w2 w3) := ⟨h90, h0, hb⟩; clear h90 h0 hb)
                    | (go_at_call 17; refine (mnum_any _ _).mono ?_; rintro e v9 ⟨rfl, hv9⟩; replace hv9 := hv9.symm; subst hv9)
                    | (go_at_call 18; refine (mcheck_c P q1 o5 o6 la k5 lb k6 x y w1 (HRW.out w1 B1.out) HC1.out).mono ?_; rintro e w2 ⟨rfl, hb2⟩; have B2 : Hid (Below Z.heap.size Z w2) := bnextM (B := 0) B1.out hb2; clear hb2; clear pm10 pm11 pm12 pm13 pm14 pm15; obtain ⟨pm20, pm21, pm22, pm23, pm24, pm25⟩ := KZ.out _ B2.out)
                    | (go_at_call 16; refine (mEval_c P q3 N vv o5 o6 la k5 lb k6 x y Z (HRW.out Z (Below.refl _ _)) HN.out.1.1 HC3.out HVV.out.1 HVV.out.2).mono ?_; rintro e w1 ⟨rfl, hb1⟩; have B1 : Hid (Below Z.heap.size Z w1) := hb1; clear hb1; clear pk0 pk1 pk2 pk3 pk4 pk5; obtain ⟨pm10, pm11, pm12, pm13, pm14, pm15⟩ := KZ.out _ B1.out))
                  go_roundw
                  case rel => exact ⟨k + 1, by omega, by go_num, bnextM (B := 0) HW.out.2 (HU.out _ B16.out).2.2.2.2.2.2⟩
                  case measure => simp [intOf]; omega
end Go.Proofs.YtnniipekcbjloaaDoor
