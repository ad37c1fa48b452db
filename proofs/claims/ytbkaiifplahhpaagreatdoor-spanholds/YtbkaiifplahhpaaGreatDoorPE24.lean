/-
  A pack of walks and facts: Read, RM, TI, TM.
-/
import Derived.Test.YtbkaiifplahhpaaGreatDoorPE07
import Derived.Test.YtbkaiifplahhpaaGreatDoorPE16
import Derived.Test.YtbkaiifplahhpaaGreatDoorPE17
import Derived.Test.YtbkaiifplahhpaaGreatDoorPE19
import Derived.ProofKit
import Derived.OpenShut
import Derived.Deep.Slices
import Derived.Deep.Strs
import Derived.Lib.SmallJoins
set_option maxRecDepth 100000
set_option maxHeartbeats 40000000
set_option linter.unusedVariables false
set_option linter.unusedSimpArgs false
namespace Go.Proofs.YtbkaiifplahhpaaGreatDoor
open Go.RowKit Go.ChangeShapes Go.WideShapes Go.ChangeAt
theorem cells_int : Tryz.prog.cellsOf 26 = 2 := by kernel_rfl
theorem cells_bool : Tryz.prog.cellsOf 4 = 1 := by kernel_rfl
theorem cells_nat : Tryz.prog.cellsOf 24 = 1 := by kernel_rfl
theorem cells_i64 : Tryz.prog.cellsOf 3 = 1 := by kernel_rfl
theorem cells_u64 : Tryz.prog.cellsOf 68 = 1 := by kernel_rfl
theorem add_off {b off j : Nat} : Addr.add ⟨b, off, none⟩ j = ⟨b, off + j, none⟩ := by
 by_cases h0 : j = 0
 ·
  subst h0; simp [Addr.add]
 ·
  simp [Addr.add, h0]
theorem row_of_trod {H : Type} {enc : TypeId × Value → H} {W : World} {fuel : Nat} {v : Value} {x : DataW H × List MemPlace} (h : DataW.trod enc Tryz.prog W 0 (fun _ => true) true fuel 24 [v] = some x) :
  ∃ ao len cap zs, v = .slice ao len cap ∧ RowAt W .u64 ao len cap zs ∧ Wd 18446744073709551616 zs ∧ cap ≤ 9223372036854775807 := by
 rcases open_ints Tryz.underlying24 Tryz.underlying68 cells_u64 h with ⟨hcs, _⟩ | ⟨a, len, cap, zs, hcs, _, hl, hm, hz, _, hcell, hwz⟩
 ·
  simp at hcs; subst hcs
  exact ⟨none, 0, 0, [], rfl, RowAt.nilRow W .u64, Wd.nil _, by decide⟩
 ·
  simp at hcs; subst hcs
  simp only [if_true] at hz
  refine ⟨some a, len, cap, zs.take len, rfl, ⟨by simp; omega, hl, fun e => (by cases e), ?_⟩, ?_, hm⟩
  ·
   by_cases h0 : len = 0
   ·
    exact Or.inl h0
   ·
    right
    obtain ⟨b, off, spot⟩ := a
    have hs : spot = none := by simpa [Addr.add] using World.cell?_spot (hcell 0 (by omega))
    subst hs
    refine ⟨b, off, rfl, ?_, fun t ht => ?_⟩
    ·
     have := hcell 0 (by omega)
     rw [add_off] at this; exact cell_lt this
    ·
     have := hcell t (by omega)
     rw [add_off] at this
     rw [dig_take ht]; exact this
  ·
   intro z hz'
   have := bounds_u64 (hwz z (List.mem_of_mem_take hz'))
   omega
theorem int_of_trod {H : Type} {enc : TypeId × Value → H} {W : World} {fuel : Nat} {c0 c1 : Value} {x : DataW H × List MemPlace} (h : DataW.trod enc Tryz.prog W 0 (fun _ => true) true fuel 26 [c0, c1] = some x) :
  ∃ neg ao len cap zs, c0 = .bool neg ∧ c1 = .slice ao len cap ∧ RowAt W .u64 ao len cap zs ∧ Wd 18446744073709551616 zs ∧ cap ≤ 9223372036854775807 := by
 obtain ⟨y0, y1, n, _, _, h0, h1⟩ := trod_struct2 Tryz.underlying26 h
 simp only [cells_bool, cells_nat, List.drop_zero, List.take_succ_cons, List.take_zero, List.drop_succ_cons] at h0 h1
 obtain ⟨neg, hb, _⟩ := DataW.trod_bool Tryz.underlying4 h0
 simp at hb
 obtain ⟨ao, len, cap, zs, hv, hr, hw, hc⟩ := row_of_trod h1
 exact ⟨neg, ao, len, cap, zs, hb, hv, hr, hw, hc⟩
theorem own : ownKnob Tryz.prog.godebug = none := by kernel_rfl
theorem laidOut : laidOutB Tryz.prog = true := by kernel_rfl
end Go.Proofs.YtbkaiifplahhpaaGreatDoor
namespace Go.Proofs.YtbkaiifplahhpaaGreatDoor
open Go.RowKit Go.ChangeShapes Go.WideShapes Go.ChangeAt
theorem cells_rat : Tryz.prog.cellsOf 28 = 3 := by kernel_rfl
theorem rat_of_trod {H : Type} {enc : TypeId × Value → H} {W : World} {fuel : Nat} {c0 c1 c2 : Value} {x : DataW H × List MemPlace} (h : DataW.trod enc Tryz.prog W 0 (fun _ => true) true fuel 28 [c0, c1, c2] = some x) :
  ∃ neg ao len cap zs po lp cp ds, c0 = .bool neg ∧ c1 = .slice ao len cap ∧ c2 = .slice po lp cp ∧ (RowAt W .u64 ao len cap zs ∧ Wd 18446744073709551616 zs) ∧ (RowAt W .u64 po lp cp ds ∧ Wd 18446744073709551616 ds) := by
 obtain ⟨y0, y1, n, _, _, h0, h1⟩ := trod_struct2 Tryz.underlying28 h
 simp only [cells_int, cells_nat, List.drop_zero, List.take_succ_cons, List.take_zero, List.drop_succ_cons] at h0 h1
 obtain ⟨neg, ao, len, cap, zs, rfl, rfl, hr, hw, _⟩ := int_of_trod h0
 obtain ⟨po, lp, cp, ds, hv, hr2, hw2, _⟩ := row_of_trod h1
 exact ⟨neg, ao, len, cap, zs, po, lp, cp, ds, rfl, rfl, hv, ⟨hr, hw⟩, ⟨hr2, hw2⟩⟩
end Go.Proofs.YtbkaiifplahhpaaGreatDoor
namespace Go.Proofs.YtbkaiifplahhpaaGreatDoor
open Go.RowKit Go.ChangeShapes Go.WideShapes Go.ChangeAt
theorem cells_two3 : Tryz.prog.cellsOf 32 = 16 := by kernel_rfl
theorem cells_span : Tryz.prog.cellsOf 30 = 6 := by kernel_rfl
theorem elemsS_of_trod {H : Type} {enc : TypeId × Value → H} {W : World} {fuel : Nat} {lo : Option Addr} {len cap : Nat} {x : DataW H × List MemPlace} (h : DataW.trod enc Tryz.prog W 0 (fun _ => true) true fuel 22 [.slice lo len cap] = some x) : ElemsS W lo len ∧ len ≤ 9223372036854775807 := by
 rcases Go.Deep.open_slice Tryz.underlying22 h with ⟨hcs, _⟩ | ⟨a, l, c, m, n, D, Pl, hcs, _, hl, hm, hmm, _, hx⟩
 ·
  simp at hcs; obtain ⟨rfl, rfl, rfl⟩ := hcs
  exact ⟨fun i hi => absurd hi (by omega), by decide⟩
 ·
  simp at hcs; obtain ⟨rfl, rfl, rfl⟩ := hcs
  refine ⟨fun i hi => ?_, Nat.le_trans hl hm⟩
  simp only [if_true] at hmm
  simp only [cells_two3] at hx
  obtain ⟨cs, hcells, htr⟩ := hx i (by omega)
  obtain ⟨_, hlen, hc⟩ := World.cells?_some hcells
  match cs, hlen with
  | [v0, v1, v2, v3, v4, v5, v6, v7, v8, v9, v10, v11, v12, v13, v14, v15], _ =>
   obtain ⟨b, off, spot⟩ := a
   have hs : spot = none := by
    obtain ⟨cs0, hcells0, _⟩ := hx 0 (by omega)
    obtain ⟨_, hlen0, hc0⟩ := World.cells?_some hcells0
    have h1 := hc0 0 (by omega)
    rw [List.getElem?_eq_getElem (by omega)] at h1
    simpa [Addr.add] using World.cell?_spot h1
   subst hs
   obtain ⟨y0, y1, y2, y3, n', _, _, t0, t1, t2, t3⟩ := Go.Joins.trod_struct4 Tryz.underlying32 htr
   simp only [cells_span, cells_rat, cells_i64, List.drop_zero, List.take_succ_cons, List.take_zero, List.drop_succ_cons] at t0 t1 t2 t3
   obtain ⟨z0, z1, n2, _, _, s0, s1⟩ := trod_struct2 Tryz.underlying30 t0
   obtain ⟨z2, z3, n3, _, _, s2, s3⟩ := trod_struct2 Tryz.underlying30 t1
   simp only [cells_rat, List.drop_zero, List.take_succ_cons, List.take_zero, List.drop_succ_cons] at s0 s1 s2 s3
   obtain ⟨n1, o1, l1, c1, x1, p1, m1, k1, d1, rfl, rfl, rfl, hx1, hy1⟩ := rat_of_trod s0
   obtain ⟨n2, o2, l2, c2, x2, p2, m2, k2, d2, rfl, rfl, rfl, hx2, hy2⟩ := rat_of_trod s1
   obtain ⟨n3, o3, l3, c3, x3, p3, m3, k3, d3, rfl, rfl, rfl, hx3, hy3⟩ := rat_of_trod s2
   obtain ⟨n4, o4, l4, c4, x4, p4, m4, k4, d4, rfl, rfl, rfl, hx4, hy4⟩ := rat_of_trod s3
   obtain ⟨n5, o5, l5, c5, x5, p5, m5, k5, d5, rfl, rfl, rfl, hx5, hy5⟩ := rat_of_trod t2
   obtain ⟨nn, hn, _, hwn⟩ := DataW.trod_int Tryz.underlying3 t3
   simp at hn; subst hn
   have g : ∀ j, j < 16 → W.cell? ⟨b, off + i * 16 + j, none⟩ = [.bool n1, .slice o1 l1 c1, .slice p1 m1 k1, .bool n2, .slice o2 l2 c2, .slice p2 m2 k2, .bool n3, .slice o3 l3 c3, .slice p3 m3 k3, .bool n4, .slice o4 l4 c4, .slice p4 m4 k4, .bool n5, .slice o5 l5 c5, .slice p5 m5 k5, .int .i64 nn][j]? := by
    intro j hj
    have := hc j hj
    rw [add_off, add_off] at this; exact this
   have g0 := g 0 (by omega)
   refine ⟨b, off, rfl, cell_lt (p := ⟨b, off + i * 16, none⟩) (v := .bool n1) g0, n1, n2, n3, n4, n5, o1, p1, o2, p2, o3, p3, o4, p4, o5, p5, l1, c1, m1, k1, l2, c2, m2, k2, l3, c3, m3, k3, l4, c4, m4, k4, l5, c5, m5, k5, nn, x1, d1, x2, d2, x3, d3, x4, d4, x5, d5, fun j v hj => ?_, ⟨hx1.1, hx1.2, hy1.1, hy1.2⟩, ⟨hx2.1, hx2.2, hy2.1, hy2.2⟩, ⟨hx3.1, hx3.2, hy3.1, hy3.2⟩, ⟨hx4.1, hx4.2, hy4.1, hy4.2⟩, ⟨hx5.1, hx5.2, hy5.1, hy5.2⟩⟩
   by_cases h16 : j < 16
   ·
    rw [g j h16]; exact hj
   ·
    rw [List.getElem?_eq_none (by show 16 ≤ j; omega)] at hj; cases hj
end Go.Proofs.YtbkaiifplahhpaaGreatDoor
namespace Go.Proofs.YtbkaiifplahhpaaGreatDoor
open Go.RowKit Go.ChangeShapes Go.WideShapes Go.ChangeAt
theorem elemsN_of_trod {H : Type} {enc : TypeId × Value → H} {W : World} {fuel : Nat} {lo : Option Addr} {len cap : Nat} {x : DataW H × List MemPlace} (h : DataW.trod enc Tryz.prog W 0 (fun _ => true) true fuel 22 [.slice lo len cap] = some x) : ElemsN W lo len := by
 rcases Go.Deep.open_slice Tryz.underlying22 h with ⟨hcs, _⟩ | ⟨a, l, c, m, n, D, Pl, hcs, _, hl, hm, hmm, _, hx⟩
 ·
  simp at hcs; obtain ⟨rfl, rfl, rfl⟩ := hcs
  exact fun i hi => absurd hi (by omega)
 ·
  simp at hcs; obtain ⟨rfl, rfl, rfl⟩ := hcs
  intro i hi b off hlo
  obtain rfl := Option.some.inj hlo
  simp only [if_true] at hmm
  simp only [cells_two3] at hx
  obtain ⟨cs, hcells, htr⟩ := hx i (by omega)
  obtain ⟨_, hlen, hc⟩ := World.cells?_some hcells
  match cs, hlen with
  | [v0, v1, v2, v3, v4, v5, v6, v7, v8, v9, v10, v11, v12, v13, v14, v15], _ =>
   obtain ⟨y0, y1, y2, y3, n', _, _, t0, t1, t2, t3⟩ := Go.Joins.trod_struct4 Tryz.underlying32 htr
   simp only [cells_span, cells_rat, cells_i64, List.drop_zero, List.take_succ_cons, List.take_zero, List.drop_succ_cons] at t0 t1 t2 t3
   obtain ⟨nn, hn, _, hwn⟩ := DataW.trod_int Tryz.underlying3 t3
   simp at hn; subst hn
   have hb := bounds_i64 hwn
   have h15 := hc 15 (by omega)
   rw [add_off, add_off] at h15
   exact ⟨nn, h15, hb.1, hb.2⟩
end Go.Proofs.YtbkaiifplahhpaaGreatDoor
