/-
  What is read of a list of polynomials with numbers.
-/
import Derived.Test.YtnodcfeimiimbaaJL
import Derived.Test.YtnodcfeimiimbaaRead
namespace Go.Proofs.Ytnodcfeimiimbaa
open Go.RowKit Go.ChangeShapes Go.WideShapes Go.ChangeAt
set_option linter.unusedVariables false
set_option linter.unusedSimpArgs false

theorem cells_move : Try.prog.cellsOf 30 = 4 := by kernel_rfl
theorem cells_poly : Try.prog.cellsOf 24 = 1 := by kernel_rfl

/-- a list of signs and words, off a reading -/
theorem raws_of_trod {H : Type} {enc : TypeId × Value → H} {W : World} {fuel : Nat} {v : Value} {x : DataW H × List MemPlace} (h : DataW.trod enc Try.prog W 0 (fun _ => true) true fuel 24 [v] = some x) :
    ∃ ao len cap rs, v = .slice ao len cap ∧ RawsAt W ao len cap rs ∧ cap ≤ 9223372036854775807 := by
  rcases Go.Deep.open_slice Try.underlying24 h with ⟨hcs, _⟩ | ⟨a, l, c, m, n, D, Pl, hcs, _, hl, hm, hmm, _, hx⟩
  · simp at hcs; subst hcs
    exact ⟨none, 0, 0, [], rfl, ⟨rfl, Nat.le_refl _, fun _ => rfl, Or.inl rfl⟩, by decide⟩
  · simp at hcs; subst hcs
    simp only [if_true] at hmm
    simp only [cells_int] at hx
    by_cases h0 : l = 0
    · subst h0
      exact ⟨some a, 0, c, [], rfl, ⟨rfl, Nat.zero_le _, fun e => (by cases e), Or.inl rfl⟩, hm⟩
    · obtain ⟨b, off, spot⟩ := a
      have hs : spot = none := by
        obtain ⟨cs0, hcells0, _⟩ := hx 0 (by omega)
        obtain ⟨_, hlen0, hc0⟩ := World.cells?_some hcells0
        have h1 := hc0 0 (by omega)
        rw [List.getElem?_eq_getElem (by omega)] at h1
        simpa [Addr.add] using World.cell?_spot h1
      subst hs
      have hv : ∀ t, ∃ r : Bool × List Int, t < l → RawAt W b (off + t * 2) r.1 r.2 := by
        intro t
        by_cases ht : t < l
        · obtain ⟨cs, hcells, htr⟩ := hx t (by omega)
          obtain ⟨_, hlen, hc⟩ := World.cells?_some hcells
          match cs, hlen with
          | [v0, v1], _ =>
            obtain ⟨neg, ao, la, ca, zs, rfl, rfl, hr, hw, _⟩ := int_of_trod htr
            have g : ∀ j, j < 2 → W.cell? ⟨b, off + t * 2 + j, none⟩ = [Value.bool neg, .slice ao la ca][j]? := by
              intro j hj
              have := hc j hj
              rw [add_off, add_off] at this; exact this
            exact ⟨(neg, zs), fun _ => ⟨ao, la, ca, ⟨by simpa using g 0 (by omega), by simpa using g 1 (by omega)⟩, hr, hw⟩⟩
        · exact ⟨(false, []), fun h => absurd h ht⟩
      refine ⟨some ⟨b, off, none⟩, l, c, (List.range l).map fun t => Classical.choose (hv t), rfl, ⟨by simp, hl, fun e => (by cases e), Or.inr ⟨b, off, rfl, fun t ht => ?_⟩⟩, hm⟩
      have ht' : t < l := by simpa using ht
      have e : ((List.range l).map fun t => Classical.choose (hv t))[t] = Classical.choose (hv t) := by simp
      rw [e]
      exact Classical.choose_spec (hv t) ht'

/-- the list, off a reading -/
theorem moves_of_trod {H : Type} {enc : TypeId × Value → H} {W : World} {fuel : Nat} {lo : Option Addr} {len cap : Nat} {x : DataW H × List MemPlace} (h : DataW.trod enc Try.prog W 0 (fun _ => true) true fuel 22 [.slice lo len cap] = some x) : MovesAt W lo len ∧ len ≤ 9223372036854775807 := by
  rcases Go.Deep.open_slice Try.underlying22 h with ⟨hcs, _⟩ | ⟨a, l, c, m, n, D, Pl, hcs, _, hl, hm, hmm, _, hx⟩
  · simp at hcs; obtain ⟨rfl, rfl, rfl⟩ := hcs
    exact ⟨fun i hi => absurd hi (by omega), by decide⟩
  · simp at hcs; obtain ⟨rfl, rfl, rfl⟩ := hcs
    refine ⟨fun i hi => ?_, Nat.le_trans hl hm⟩
    simp only [if_true] at hmm
    simp only [cells_move] at hx
    obtain ⟨cs, hcells, htr⟩ := hx i (by omega)
    obtain ⟨_, hlen, hc⟩ := World.cells?_some hcells
    match cs, hlen with
    | [v0, v1, v2, v3], _ =>
      obtain ⟨b, off, spot⟩ := a
      have hs : spot = none := by
        obtain ⟨cs0, hcells0, _⟩ := hx 0 (by omega)
        obtain ⟨_, hlen0, hc0⟩ := World.cells?_some hcells0
        have h1 := hc0 0 (by omega)
        rw [List.getElem?_eq_getElem (by omega)] at h1
        simpa [Addr.add] using World.cell?_spot h1
      subst hs
      obtain ⟨y0, y1, y2, n', _, _, t0, t1, t2⟩ := Go.Deep.trod_struct3 Try.underlying30 htr
      simp only [cells_int, cells_i64, cells_poly, List.drop_zero, List.take_succ_cons, List.take_zero, List.drop_succ_cons] at t0 t1 t2
      obtain ⟨po, pl, pc, rs, rfl, hp, hpc⟩ := raws_of_trod t0
      obtain ⟨nc, co, lc, cc, xs, rfl, rfl, hrx, hwx, _⟩ := int_of_trod t1
      obtain ⟨nn, hn, _, hwn⟩ := DataW.trod_int Try.underlying3 t2
      simp at hn; subst hn
      have g : ∀ j, j < 4 → W.cell? ⟨b, off + i * 4 + j, none⟩ = [Value.slice po pl pc, .bool nc, .slice co lc cc, .int .i64 nn][j]? := by
        intro j hj
        have := hc j hj
        rw [add_off, add_off] at this; exact this
      have hb := bounds_i64 hwn
      have g0 := g 0 (by omega)
      exact ⟨b, off, rfl, cell_lt (p := ⟨b, off + i * 4, none⟩) (v := .slice po pl pc) (by simpa using g0), po, co, pl, pc, lc, cc, nc, nn, rs, xs, ⟨by simpa using g0, by simpa using g 1 (by omega), by simpa using g 2 (by omega), by simpa using g 3 (by omega)⟩, hp, hpc, hrx, hwx, hb.1, hb.2⟩
end Go.Proofs.Ytnodcfeimiimbaa
