/-
  A pack of walks and facts: Read, JN.
-/
import Derived.Test.YtchmdfjmleoajaaGreatPG05
import Derived.Test.YtchmdfjmleoajaaGreatPG16
import Derived.ProofKit
import Derived.OpenShut
import Derived.Deep.Slices
import Derived.Deep.Strs
set_option maxRecDepth 100000
set_option maxHeartbeats 40000000
set_option linter.unusedVariables false
set_option linter.unusedSimpArgs false
namespace Go.Proofs.YtchmdfjmleoajaaGreat
open Go.RowKit Go.ChangeShapes Go.WideShapes Go.ChangeAt
theorem cells_int : Tryz.prog.cellsOf 28 = 2 := by kernel_rfl
theorem cells_bool : Tryz.prog.cellsOf 4 = 1 := by kernel_rfl
theorem cells_nat : Tryz.prog.cellsOf 26 = 1 := by kernel_rfl
theorem cells_i64 : Tryz.prog.cellsOf 3 = 1 := by kernel_rfl
theorem cells_u64 : Tryz.prog.cellsOf 77 = 1 := by kernel_rfl
theorem add_off {b off j : Nat} : Addr.add ⟨b, off, none⟩ j = ⟨b, off + j, none⟩ := by
 by_cases h0 : j = 0
 ·
  subst h0; simp [Addr.add]
 ·
  simp [Addr.add, h0]
theorem row_of_trod {H : Type} {enc : TypeId × Value → H} {W : World} {fuel : Nat} {v : Value} {x : DataW H × List MemPlace} (h : DataW.trod enc Tryz.prog W 0 (fun _ => true) true fuel 26 [v] = some x) :
  ∃ ao len cap zs, v = .slice ao len cap ∧ RowAt W .u64 ao len cap zs ∧ Wd 18446744073709551616 zs ∧ cap ≤ 9223372036854775807 := by
 rcases open_ints Tryz.underlying26 Tryz.underlying77 cells_u64 h with ⟨hcs, _⟩ | ⟨a, len, cap, zs, hcs, _, hl, hm, hz, _, hcell, hwz⟩
 ·
  simp at hcs; subst hcs
  exact ⟨none, 0, 0, [], rfl, RowAt.nilRow W .u64, Wd.nil _, by decide⟩
 ·
  simp at hcs; subst hcs
  simp only [if_true] at hz
  refine ⟨some a, len, cap, zs.take len, rfl, ⟨by simp; omega, hl, fun e => (by cases e), ?_⟩, ?_, hm⟩
  ·
   by_cases h0 : len = 0
   ·
    exact Or.inl h0
   ·
    right
    obtain ⟨b, off, spot⟩ := a
    have hs : spot = none := by simpa [Addr.add] using World.cell?_spot (hcell 0 (by omega))
    subst hs
    refine ⟨b, off, rfl, ?_, fun t ht => ?_⟩
    ·
     have := hcell 0 (by omega)
     rw [add_off] at this; exact cell_lt this
    ·
     have := hcell t (by omega)
     rw [add_off] at this
     rw [dig_take ht]; exact this
  ·
   intro z hz'
   have := bounds_u64 (hwz z (List.mem_of_mem_take hz'))
   omega
theorem int_of_trod {H : Type} {enc : TypeId × Value → H} {W : World} {fuel : Nat} {c0 c1 : Value} {x : DataW H × List MemPlace} (h : DataW.trod enc Tryz.prog W 0 (fun _ => true) true fuel 28 [c0, c1] = some x) :
  ∃ neg ao len cap zs, c0 = .bool neg ∧ c1 = .slice ao len cap ∧ RowAt W .u64 ao len cap zs ∧ Wd 18446744073709551616 zs ∧ cap ≤ 9223372036854775807 := by
 obtain ⟨y0, y1, n, _, _, h0, h1⟩ := trod_struct2 Tryz.underlying28 h
 simp only [cells_bool, cells_nat, List.drop_zero, List.take_succ_cons, List.take_zero, List.drop_succ_cons] at h0 h1
 obtain ⟨neg, hb, _⟩ := DataW.trod_bool Tryz.underlying4 h0
 simp at hb
 obtain ⟨ao, len, cap, zs, hv, hr, hw, hc⟩ := row_of_trod h1
 exact ⟨neg, ao, len, cap, zs, hb, hv, hr, hw, hc⟩
theorem own : ownKnob Tryz.prog.godebug = none := by kernel_rfl
theorem laidOut : laidOutB Tryz.prog = true := by kernel_rfl
end Go.Proofs.YtchmdfjmleoajaaGreat
namespace Go.Proofs.YtchmdfjmleoajaaGreat
open Go.RowKit Go.ChangeShapes Go.WideShapes Go.ChangeAt
theorem cells_move : Tryz.prog.cellsOf 30 = 4 := by kernel_rfl
theorem cells_poly : Tryz.prog.cellsOf 24 = 1 := by kernel_rfl
theorem raws_of_trod {H : Type} {enc : TypeId × Value → H} {W : World} {fuel : Nat} {v : Value} {x : DataW H × List MemPlace} (h : DataW.trod enc Tryz.prog W 0 (fun _ => true) true fuel 24 [v] = some x) :
  ∃ ao len cap rs, v = .slice ao len cap ∧ RawsAt W ao len cap rs ∧ cap ≤ 9223372036854775807 := by
 rcases Go.Deep.open_slice Tryz.underlying24 h with ⟨hcs, _⟩ | ⟨a, l, c, m, n, D, Pl, hcs, _, hl, hm, hmm, _, hx⟩
 ·
  simp at hcs; subst hcs
  exact ⟨none, 0, 0, [], rfl, ⟨rfl, Nat.le_refl _, fun _ => rfl, Or.inl rfl⟩, by decide⟩
 ·
  simp at hcs; subst hcs
  simp only [if_true] at hmm
  simp only [cells_int] at hx
  by_cases h0 : l = 0
  ·
   subst h0
   exact ⟨some a, 0, c, [], rfl, ⟨rfl, Nat.zero_le _, fun e => (by cases e), Or.inl rfl⟩, hm⟩
  ·
   obtain ⟨b, off, spot⟩ := a
   have hs : spot = none := by
    obtain ⟨cs0, hcells0, _⟩ := hx 0 (by omega)
    obtain ⟨_, hlen0, hc0⟩ := World.cells?_some hcells0
    have h1 := hc0 0 (by omega)
    rw [List.getElem?_eq_getElem (by omega)] at h1
    simpa [Addr.add] using World.cell?_spot h1
   subst hs
   have hv : ∀ t, ∃ r : Bool × List Int, t < l → RawAt W b (off + t * 2) r.1 r.2 := by
    intro t
    by_cases ht : t < l
    ·
     obtain ⟨cs, hcells, htr⟩ := hx t (by omega)
     obtain ⟨_, hlen, hc⟩ := World.cells?_some hcells
     match cs, hlen with
     | [v0, v1], _ =>
      obtain ⟨neg, ao, la, ca, zs, rfl, rfl, hr, hw, _⟩ := int_of_trod htr
      have g : ∀ j, j < 2 → W.cell? ⟨b, off + t * 2 + j, none⟩ = [Value.bool neg, .slice ao la ca][j]? := by
       intro j hj
       have := hc j hj
       rw [add_off, add_off] at this; exact this
      exact ⟨(neg, zs), fun _ => ⟨ao, la, ca, ⟨g 0 (by omega), g 1 (by omega)⟩, hr, hw⟩⟩
    ·
     exact ⟨(false, []), fun h => absurd h ht⟩
   refine ⟨some ⟨b, off, none⟩, l, c, (List.range l).map fun t => Classical.choose (hv t), rfl, ⟨by simp, hl, fun e => (by cases e), Or.inr ⟨b, off, rfl, fun t ht => ?_⟩⟩, hm⟩
   have ht' : t < l := by simpa using ht
   have e : ((List.range l).map fun t => Classical.choose (hv t))[t] = Classical.choose (hv t) := by simp
   rw [e]
   exact Classical.choose_spec (hv t) ht'
theorem moves_of_trod {H : Type} {enc : TypeId × Value → H} {W : World} {fuel : Nat} {lo : Option Addr} {len cap : Nat} {x : DataW H × List MemPlace} (h : DataW.trod enc Tryz.prog W 0 (fun _ => true) true fuel 22 [.slice lo len cap] = some x) : MovesAt W lo len ∧ len ≤ 9223372036854775807 := by
 rcases Go.Deep.open_slice Tryz.underlying22 h with ⟨hcs, _⟩ | ⟨a, l, c, m, n, D, Pl, hcs, _, hl, hm, hmm, _, hx⟩
 ·
  simp at hcs; obtain ⟨rfl, rfl, rfl⟩ := hcs
  exact ⟨fun i hi => absurd hi (by omega), by decide⟩
 ·
  simp at hcs; obtain ⟨rfl, rfl, rfl⟩ := hcs
  refine ⟨fun i hi => ?_, Nat.le_trans hl hm⟩
  simp only [if_true] at hmm
  simp only [cells_move] at hx
  obtain ⟨cs, hcells, htr⟩ := hx i (by omega)
  obtain ⟨_, hlen, hc⟩ := World.cells?_some hcells
  match cs, hlen with
  | [v0, v1, v2, v3], _ =>
   obtain ⟨b, off, spot⟩ := a
   have hs : spot = none := by
    obtain ⟨cs0, hcells0, _⟩ := hx 0 (by omega)
    obtain ⟨_, hlen0, hc0⟩ := World.cells?_some hcells0
    have h1 := hc0 0 (by omega)
    rw [List.getElem?_eq_getElem (by omega)] at h1
    simpa [Addr.add] using World.cell?_spot h1
   subst hs
   obtain ⟨y0, y1, y2, n', _, _, t0, t1, t2⟩ := Go.Deep.trod_struct3 Tryz.underlying30 htr
   simp only [cells_int, cells_i64, cells_poly, List.drop_zero, List.take_succ_cons, List.take_zero, List.drop_succ_cons] at t0 t1 t2
   obtain ⟨po, pl, pc, rs, rfl, hp, hpc⟩ := raws_of_trod t0
   obtain ⟨nc, co, lc, cc, xs, rfl, rfl, hrx, hwx, _⟩ := int_of_trod t1
   obtain ⟨nn, hn, _, hwn⟩ := DataW.trod_int Tryz.underlying3 t2
   simp at hn; subst hn
   have g : ∀ j, j < 4 → W.cell? ⟨b, off + i * 4 + j, none⟩ = [Value.slice po pl pc, .bool nc, .slice co lc cc, .int .i64 nn][j]? := by
    intro j hj
    have := hc j hj
    rw [add_off, add_off] at this; exact this
   have hb := bounds_i64 hwn
   have g0 := g 0 (by omega)
   exact ⟨b, off, rfl, cell_lt (p := ⟨b, off + i * 4, none⟩) (v := .slice po pl pc) g0, po, co, pl, pc, lc, cc, nc, nn, rs, xs, ⟨g0, g 1 (by omega), g 2 (by omega), g 3 (by omega)⟩, hp, hpc, hrx, hwx, hb.1, hb.2⟩
end Go.Proofs.YtchmdfjmleoajaaGreat
