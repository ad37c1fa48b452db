/-
  A pack of walks and facts: Read, UO, OJ.
-/
import Derived.Test.YthjkdnlbdhhmbaaGreatDoorPV34
import Derived.ProofKit
import Derived.OpenShut
import Derived.Deep.Slices
import Derived.Deep.Strs
set_option maxRecDepth 100000
set_option maxHeartbeats 40000000
set_option linter.unusedVariables false
set_option linter.unusedSimpArgs false
namespace Go.Proofs.YthjkdnlbdhhmbaaGreatDoor
open Go.RowKit Go.ChangeShapes Go.WideShapes Go.ChangeAt
theorem cells_int : Tryz.prog.cellsOf 28 = 2 := by kernel_rfl
theorem cells_bool : Tryz.prog.cellsOf 4 = 1 := by kernel_rfl
theorem cells_nat : Tryz.prog.cellsOf 26 = 1 := by kernel_rfl
theorem cells_u64 : Tryz.prog.cellsOf 60 = 1 := by kernel_rfl
theorem add_off {b off j : Nat} : Addr.add ⟨b, off, none⟩ j = ⟨b, off + j, none⟩ := by
 by_cases h0 : j = 0
 ·
  subst h0; simp [Addr.add]
 ·
  simp [Addr.add, h0]
theorem row_of_trod {H : Type} {enc : TypeId × Value → H} {W : World} {fuel : Nat} {v : Value} {x : DataW H × List MemPlace} (h : DataW.trod enc Tryz.prog W 0 (fun _ => true) true fuel 26 [v] = some x) :
  ∃ ao len cap zs, v = .slice ao len cap ∧ RowAt W .u64 ao len cap zs ∧ Wd 18446744073709551616 zs ∧ cap ≤ 9223372036854775807 := by
 rcases open_ints Tryz.underlying26 Tryz.underlying60 cells_u64 h with ⟨hcs, _⟩ | ⟨a, len, cap, zs, hcs, _, hl, hm, hz, _, hcell, hwz⟩
 ·
  simp at hcs; subst hcs
  exact ⟨none, 0, 0, [], rfl, RowAt.nilRow W .u64, Wd.nil _, by decide⟩
 ·
  simp at hcs; subst hcs
  simp only [if_true] at hz
  refine ⟨some a, len, cap, zs.take len, rfl, ⟨by simp; omega, hl, fun e => (by cases e), ?_⟩, ?_, hm⟩
  ·
   by_cases h0 : len = 0
   ·
    exact Or.inl h0
   ·
    right
    obtain ⟨b, off, spot⟩ := a
    have hs : spot = none := by simpa [Addr.add] using World.cell?_spot (hcell 0 (by omega))
    subst hs
    refine ⟨b, off, rfl, ?_, fun t ht => ?_⟩
    ·
     have := hcell 0 (by omega)
     rw [add_off] at this; exact cell_lt this
    ·
     have := hcell t (by omega)
     rw [add_off] at this
     rw [dig_take ht]; exact this
  ·
   intro z hz'
   have := bounds_u64 (hwz z (List.mem_of_mem_take hz'))
   omega
theorem int_of_trod {H : Type} {enc : TypeId × Value → H} {W : World} {fuel : Nat} {c0 c1 : Value} {x : DataW H × List MemPlace} (h : DataW.trod enc Tryz.prog W 0 (fun _ => true) true fuel 28 [c0, c1] = some x) :
  ∃ neg ao len cap zs, c0 = .bool neg ∧ c1 = .slice ao len cap ∧ RowAt W .u64 ao len cap zs ∧ Wd 18446744073709551616 zs ∧ cap ≤ 9223372036854775807 := by
 obtain ⟨y0, y1, n, _, _, h0, h1⟩ := trod_struct2 Tryz.underlying28 h
 simp only [cells_bool, cells_nat, List.drop_zero, List.take_succ_cons, List.take_zero, List.drop_succ_cons] at h0 h1
 obtain ⟨neg, hb, _⟩ := DataW.trod_bool Tryz.underlying4 h0
 simp at hb
 obtain ⟨ao, len, cap, zs, hv, hr, hw, hc⟩ := row_of_trod h1
 exact ⟨neg, ao, len, cap, zs, hb, hv, hr, hw, hc⟩
theorem own : ownKnob Tryz.prog.godebug = none := by kernel_rfl
theorem laidOut : laidOutB Tryz.prog = true := by kernel_rfl
theorem cells_two4 : Tryz.prog.cellsOf 34 = 13 := by kernel_rfl
theorem cells_poly4 : Tryz.prog.cellsOf 24 = 1 := by kernel_rfl
theorem cells_rat4 : Tryz.prog.cellsOf 30 = 3 := by kernel_rfl
theorem cells_span4 : Tryz.prog.cellsOf 32 = 6 := by kernel_rfl
theorem trod_struct5 {H : Type} {enc : TypeId × Value → H} {P : Program} {w : World} {base : Nat} {spare : Nat → Bool} {held : Bool} {t : TypeId} {f0 f1 f2 f3 f4 : Field} {fuel : Nat} {cs : List Value} {x : DataW H × List MemPlace} (ht : P.underlying t = some (.struct #[f0, f1, f2, f3, f4])) (h : DataW.trod enc P w base spare held fuel t cs = some x) :
  ∃ y0 y1 y2 y3 y4 n, DataW.trod enc P w base spare held n f0.type ((cs.drop f0.offset).take (P.cellsOf f0.type)) = some y0 ∧
   DataW.trod enc P w base spare held n f1.type ((cs.drop f1.offset).take (P.cellsOf f1.type)) = some y1 ∧ DataW.trod enc P w base spare held n f2.type ((cs.drop f2.offset).take (P.cellsOf f2.type)) = some y2 ∧
   DataW.trod enc P w base spare held n f3.type ((cs.drop f3.offset).take (P.cellsOf f3.type)) = some y3 ∧ DataW.trod enc P w base spare held n f4.type ((cs.drop f4.offset).take (P.cellsOf f4.type)) = some y4 := by
 obtain ⟨xs, n, _, rfl, hl, hlen, hf⟩ := DataW.trod_struct ht h
 match xs, hlen with
 | [y0, y1, y2, y3, y4], _ => exact ⟨y0, y1, y2, y3, y4, n, by simpa using hf 0 f0 rfl, by simpa using hf 1 f1 rfl, by simpa using hf 2 f2 rfl, by simpa using hf 3 f3 rfl, by simpa using hf 4 f4 rfl⟩
theorem raws4_of_trod {H : Type} {enc : TypeId × Value → H} {W : World} {fuel : Nat} {v : Value} {x : DataW H × List MemPlace} (h : DataW.trod enc Tryz.prog W 0 (fun _ => true) true fuel 24 [v] = some x) :
  ∃ ao len cap rs, v = .slice ao len cap ∧ RawsAt W ao len cap rs ∧ cap ≤ 9223372036854775807 := by
 rcases Go.Deep.open_slice Tryz.underlying24 h with ⟨hcs, _⟩ | ⟨a, l, c, m, n, D, Pl, hcs, _, hl, hm, hmm, _, hx⟩
 ·
  simp at hcs; subst hcs
  exact ⟨none, 0, 0, [], rfl, ⟨rfl, Nat.le_refl _, fun _ => rfl, Or.inl rfl⟩, by decide⟩
 ·
  simp at hcs; subst hcs
  simp only [if_true] at hmm
  simp only [cells_int] at hx
  by_cases h0 : l = 0
  ·
   subst h0
   exact ⟨some a, 0, c, [], rfl, ⟨rfl, Nat.zero_le _, fun e => (by cases e), Or.inl rfl⟩, hm⟩
  ·
   obtain ⟨b, off, spot⟩ := a
   have hs : spot = none := by
    obtain ⟨cs0, hcells0, _⟩ := hx 0 (by omega)
    obtain ⟨_, hlen0, hc0⟩ := World.cells?_some hcells0
    have h1 := hc0 0 (by omega)
    rw [List.getElem?_eq_getElem (by omega)] at h1
    simpa [Addr.add] using World.cell?_spot h1
   subst hs
   have hv : ∀ t, ∃ r : Bool × List Int, t < l → RawAt W b (off + t * 2) r.1 r.2 := by
    intro t
    by_cases ht : t < l
    ·
     obtain ⟨cs, hcells, htr⟩ := hx t (by omega)
     obtain ⟨_, hlen, hc⟩ := World.cells?_some hcells
     match cs, hlen with
     | [v0, v1], _ =>
      obtain ⟨neg, ao, la, ca, zs, rfl, rfl, hr, hw, _⟩ := int_of_trod htr
      have g : ∀ j, j < 2 → W.cell? ⟨b, off + t * 2 + j, none⟩ = [Value.bool neg, .slice ao la ca][j]? := by
       intro j hj
       have := hc j hj
       rw [add_off, add_off] at this; exact this
      exact ⟨(neg, zs), fun _ => ⟨ao, la, ca, ⟨g 0 (by omega), g 1 (by omega)⟩, hr, hw⟩⟩
    ·
     exact ⟨(false, []), fun h => absurd h ht⟩
   refine ⟨some ⟨b, off, none⟩, l, c, (List.range l).map fun t => Classical.choose (hv t), rfl, ⟨by simp, hl, fun e => (by cases e), Or.inr ⟨b, off, rfl, fun t ht => ?_⟩⟩, hm⟩
   have ht' : t < l := by simpa using ht
   have e : ((List.range l).map fun t => Classical.choose (hv t))[t] = Classical.choose (hv t) := by simp
   rw [e]
   exact Classical.choose_spec (hv t) ht'
theorem rat4_of_trod {H : Type} {enc : TypeId × Value → H} {W : World} {fuel : Nat} {c0 c1 c2 : Value} {x : DataW H × List MemPlace} (h : DataW.trod enc Tryz.prog W 0 (fun _ => true) true fuel 30 [c0, c1, c2] = some x) :
  ∃ neg ao len cap zs po lp cp ds, c0 = .bool neg ∧ c1 = .slice ao len cap ∧ c2 = .slice po lp cp ∧ (RowAt W .u64 ao len cap zs ∧ Wd 18446744073709551616 zs) ∧ (RowAt W .u64 po lp cp ds ∧ Wd 18446744073709551616 ds) := by
 obtain ⟨y0, y1, n, _, _, h0, h1⟩ := trod_struct2 Tryz.underlying30 h
 simp only [cells_int, cells_nat, List.drop_zero, List.take_succ_cons, List.take_zero, List.drop_succ_cons] at h0 h1
 obtain ⟨neg, ao, len, cap, zs, rfl, rfl, hr, hw, _⟩ := int_of_trod h0
 obtain ⟨po, lp, cp, ds, hv, hr2, hw2, _⟩ := row_of_trod h1
 exact ⟨neg, ao, len, cap, zs, po, lp, cp, ds, rfl, rfl, hv, ⟨hr, hw⟩, ⟨hr2, hw2⟩⟩
theorem items6_of_trod {H : Type} {enc : TypeId × Value → H} {W : World} {fuel : Nat} {lo : Option Addr} {len cap : Nat} {x : DataW H × List MemPlace} (h : DataW.trod enc Tryz.prog W 0 (fun _ => true) true fuel 22 [.slice lo len cap] = some x) : Items6 W lo len ∧ len ≤ 9223372036854775807 := by
 rcases Go.Deep.open_slice Tryz.underlying22 h with ⟨hcs, _⟩ | ⟨a, l, c, m, n, D, Pl, hcs, _, hl, hm, hmm, _, hx⟩
 ·
  simp at hcs; obtain ⟨rfl, rfl, rfl⟩ := hcs
  exact ⟨fun i hi => absurd hi (by omega), by decide⟩
 ·
  simp at hcs; obtain ⟨rfl, rfl, rfl⟩ := hcs
  refine ⟨fun i hi => ?_, Nat.le_trans hl hm⟩
  simp only [if_true] at hmm
  simp only [cells_two4] at hx
  obtain ⟨cs, hcells, htr⟩ := hx i (by omega)
  obtain ⟨_, hlen, hc⟩ := World.cells?_some hcells
  match cs, hlen with
  | [v0, v1, v2, v3, v4, v5, v6, v7, v8, v9, v10, v11, v12], _ =>
   obtain ⟨b, off, spot⟩ := a
   have hs : spot = none := by
    obtain ⟨cs0, hcells0, _⟩ := hx 0 (by omega)
    obtain ⟨_, hlen0, hc0⟩ := World.cells?_some hcells0
    have h1 := hc0 0 (by omega)
    rw [List.getElem?_eq_getElem (by omega)] at h1
    simpa [Addr.add] using World.cell?_spot h1
   subst hs
   obtain ⟨y0, y1, y2, y3, y4, n', t0, t1, t2, t3, t4⟩ := trod_struct5 Tryz.underlying34 htr
   simp only [cells_int, cells_poly4, cells_rat4, cells_span4, List.drop_zero, List.take_succ_cons, List.take_zero, List.drop_succ_cons] at t0 t1 t2 t3 t4
   obtain ⟨z0, z1, n2, _, _, s0, s1⟩ := trod_struct2 Tryz.underlying32 t4
   simp only [cells_rat4, List.drop_zero, List.take_succ_cons, List.take_zero, List.drop_succ_cons] at s0 s1
   obtain ⟨ao, la, ca, rs, rfl, hp, hca⟩ := raws4_of_trod t0
   obtain ⟨bo, lb, cb, ts, rfl, hs, hcb⟩ := raws4_of_trod t1
   obtain ⟨n, co, lc, cc, _, rfl, rfl, _, _, _⟩ := int_of_trod t2
   obtain ⟨n4, o4, l4, c4, zs, p4, m4, k4, ds, rfl, rfl, rfl, hz4, hd4⟩ := rat4_of_trod t3
   obtain ⟨n5, o5, l5, c5, x5, p5, m5, k5, d5, rfl, rfl, rfl, hz5, hd5⟩ := rat4_of_trod s0
   obtain ⟨n6, o6, l6, c6, x6, p6, m6, k6, d6, rfl, rfl, rfl, hz6, hd6⟩ := rat4_of_trod s1
   have g : ∀ j, j < 13 → W.cell? ⟨b, off + i * 13 + j, none⟩ = [.slice ao la ca, .slice bo lb cb, .bool n, .slice co lc cc, .bool n4, .slice o4 l4 c4, .slice p4 m4 k4, .bool n5, .slice o5 l5 c5, .slice p5 m5 k5, .bool n6, .slice o6 l6 c6, .slice p6 m6 k6][j]? := by
    intro j hj
    have := hc j hj
    rw [add_off, add_off] at this; exact this
   refine ⟨b, off, rfl, cell_lt (p := ⟨b, off + i * 13, none⟩) (v := .slice ao la ca) (by simp), ao, bo, co, la, ca, lb, cb, lc, cc, n, n4, n5, n6, o4, p4, o5, p5, o6, p6, l4, c4, m4, k4, l5, c5, m5, k5, l6, c6, m6, k6, rs, ts, zs, ds, x5, d5, x6, d6, fun j v hj => ?_, ⟨hp, hs, hca, hcb⟩, hz4.1, hz4.2, hd4.1, hd4.2, ⟨hz5.1, hz5.2, hd5.1, hd5.2⟩, hz6.1, hz6.2, hd6.1, hd6.2⟩
   by_cases h13 : j < 13
   ·
    rw [g j h13]; exact hj
   ·
    rw [List.getElem?_eq_none (by show 13 ≤ j; omega)] at hj; cases hj
end Go.Proofs.YthjkdnlbdhhmbaaGreatDoor
