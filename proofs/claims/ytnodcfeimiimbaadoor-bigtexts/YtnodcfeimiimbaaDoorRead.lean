/-
  What is read of a list of pairs of numbers.
-/
import Derived.Test.YtnodcfeimiimbaaDoorLA0
import Derived.ProofKit
import Derived.OpenShut
import Derived.Deep.Slices
import Derived.Deep.Strs
namespace Go.Proofs.YtnodcfeimiimbaaDoor
open Go.RowKit Go.ChangeShapes Go.WideShapes Go.ChangeAt
set_option linter.unusedVariables false
set_option linter.unusedSimpArgs false

theorem cells_two : Tryd.prog.cellsOf 32 = 5 := by kernel_rfl
theorem cells_int : Tryd.prog.cellsOf 30 = 2 := by kernel_rfl
theorem cells_bool : Tryd.prog.cellsOf 4 = 1 := by kernel_rfl
theorem cells_nat : Tryd.prog.cellsOf 28 = 1 := by kernel_rfl
theorem cells_i64 : Tryd.prog.cellsOf 3 = 1 := by kernel_rfl
theorem cells_u64 : Tryd.prog.cellsOf 54 = 1 := by kernel_rfl

theorem add_off {b off j : Nat} : Addr.add ⟨b, off, none⟩ j = ⟨b, off + j, none⟩ := by
  by_cases h0 : j = 0
  · subst h0; simp [Addr.add]
  · simp [Addr.add, h0]

/-- words, off a reading -/
theorem row_of_trod {H : Type} {enc : TypeId × Value → H} {W : World} {fuel : Nat} {v : Value} {x : DataW H × List MemPlace} (h : DataW.trod enc Tryd.prog W 0 (fun _ => true) true fuel 28 [v] = some x) :
    ∃ ao len cap zs, v = .slice ao len cap ∧ RowAt W .u64 ao len cap zs ∧ Wd 18446744073709551616 zs ∧ cap ≤ 9223372036854775807 := by
  rcases open_ints Tryd.underlying28 Tryd.underlying54 cells_u64 h with ⟨hcs, _⟩ | ⟨a, len, cap, zs, hcs, _, hl, hm, hz, _, hcell, hwz⟩
  · simp at hcs; subst hcs
    exact ⟨none, 0, 0, [], rfl, RowAt.nilRow W .u64, Wd.nil _, by decide⟩
  · simp at hcs; subst hcs
    simp only [if_true] at hz
    refine ⟨some a, len, cap, zs.take len, rfl, ⟨by simp; omega, hl, fun e => (by cases e), ?_⟩, ?_, hm⟩
    · by_cases h0 : len = 0
      · exact Or.inl h0
      · right
        obtain ⟨b, off, spot⟩ := a
        have hs : spot = none := by simpa [Addr.add] using World.cell?_spot (hcell 0 (by omega))
        subst hs
        refine ⟨b, off, rfl, ?_, fun t ht => ?_⟩
        · have := hcell 0 (by omega)
          rw [add_off] at this; exact cell_lt this
        · have := hcell t (by omega)
          rw [add_off] at this
          rw [dig_take ht]; exact this
    · intro z hz'
      have := bounds_u64 (hwz z (List.mem_of_mem_take hz'))
      omega
/-- a sign and words, off a reading -/
theorem int_of_trod {H : Type} {enc : TypeId × Value → H} {W : World} {fuel : Nat} {c0 c1 : Value} {x : DataW H × List MemPlace} (h : DataW.trod enc Tryd.prog W 0 (fun _ => true) true fuel 30 [c0, c1] = some x) :
    ∃ neg ao len cap zs, c0 = .bool neg ∧ c1 = .slice ao len cap ∧ RowAt W .u64 ao len cap zs ∧ Wd 18446744073709551616 zs ∧ cap ≤ 9223372036854775807 := by
  obtain ⟨y0, y1, n, _, _, h0, h1⟩ := trod_struct2 Tryd.underlying30 h
  simp only [cells_bool, cells_nat, List.drop_zero, List.take_succ_cons, List.take_zero, List.drop_succ_cons] at h0 h1
  obtain ⟨neg, hb, _⟩ := DataW.trod_bool Tryd.underlying4 h0
  simp at hb
  obtain ⟨ao, len, cap, zs, hv, hr, hw, hc⟩ := row_of_trod h1
  exact ⟨neg, ao, len, cap, zs, hb, hv, hr, hw, hc⟩

/-- the list of pairs, off a reading -/
theorem elems_of_trod {H : Type} {enc : TypeId × Value → H} {W : World} {fuel : Nat} {lo : Option Addr} {len cap : Nat} {x : DataW H × List MemPlace} (h : DataW.trod enc Tryd.prog W 0 (fun _ => true) true fuel 22 [.slice lo len cap] = some x) : ElemsAt W lo len ∧ len ≤ 9223372036854775807 := by
  rcases Go.Deep.open_slice Tryd.underlying22 h with ⟨hcs, _⟩ | ⟨a, l, c, m, n, D, Pl, hcs, _, hl, hm, hmm, _, hx⟩
  · simp at hcs; obtain ⟨rfl, rfl, rfl⟩ := hcs
    exact ⟨fun i hi => absurd hi (by omega), by decide⟩
  · simp at hcs; obtain ⟨rfl, rfl, rfl⟩ := hcs
    refine ⟨fun i hi => ?_, Nat.le_trans hl hm⟩
    simp only [if_true] at hmm
    simp only [cells_two] at hx
    obtain ⟨cs, hcells, htr⟩ := hx i (by omega)
    obtain ⟨_, hlen, hc⟩ := World.cells?_some hcells
    match cs, hlen with
    | [v0, v1, v2, v3, v4], _ =>
      obtain ⟨b, off, spot⟩ := a
      have hs : spot = none := by
        obtain ⟨cs0, hcells0, _⟩ := hx 0 (by omega)
        obtain ⟨_, hlen0, hc0⟩ := World.cells?_some hcells0
        have h1 := hc0 0 (by omega)
        rw [List.getElem?_eq_getElem (by omega)] at h1
        simpa [Addr.add] using World.cell?_spot h1
      subst hs
      obtain ⟨y0, y1, y2, n', _, _, t0, t1, t2⟩ := Go.Deep.trod_struct3 Tryd.underlying32 htr
      simp only [cells_int, cells_i64, List.drop_zero, List.take_succ_cons, List.take_zero, List.drop_succ_cons] at t0 t1 t2
      obtain ⟨na, ao, la, ca, xs, rfl, rfl, hrx, hwx, _⟩ := int_of_trod t0
      obtain ⟨nb, bo, lb, cb, ys, rfl, rfl, hry, hwy, _⟩ := int_of_trod t1
      obtain ⟨nn, hn, _, hwn⟩ := DataW.trod_int Tryd.underlying3 t2
      simp at hn; subst hn
      have g : ∀ j, j < 5 → W.cell? ⟨b, off + i * 5 + j, none⟩ = [Value.bool na, .slice ao la ca, .bool nb, .slice bo lb cb, .int .i64 nn][j]? := by
        intro j hj
        have := hc j hj
        rw [add_off, add_off] at this; exact this
      have hb := bounds_i64 hwn
      have g0 := g 0 (by omega)
      exact ⟨b, off, rfl, cell_lt (p := ⟨b, off + i * 5, none⟩) (v := .bool na) (by simpa using g0), na, nb, ao, bo, la, ca, lb, cb, nn, xs, ys, ⟨by simpa using g0, by simpa using g 1 (by omega), by simpa using g 2 (by omega), by simpa using g 3 (by omega), by simpa using g 4 (by omega)⟩, hrx, hwx, hry, hwy, hb.1, hb.2⟩

theorem own : ownKnob Tryd.prog.godebug = none := by kernel_rfl
theorem laidOut : laidOutB Tryd.prog = true := by kernel_rfl
end Go.Proofs.YtnodcfeimiimbaaDoor
