/-
  A pack of walks and facts: RM, FL0.
-/
import Derived.Test.YtiiefpnkpfliiaaGreatDoorPC23
import Derived.Test.YtiiefpnkpfliiaaGreatDoorPC28
import Derived.Test.YtiiefpnkpfliiaaGreatDoorRows
import Derived.ProofKit
import Derived.LaidMore
import Derived.Lib.LaidTab
import Derived.OpenShut
set_option maxRecDepth 100000
set_option maxHeartbeats 40000000
set_option linter.unusedVariables false
set_option linter.unusedSimpArgs false
namespace Go.Proofs.YtiiefpnkpfliiaaGreatDoor
open Go.RowKit Go.ChangeShapes Go.WideShapes Go.ChangeAt
theorem cells_pair : Tryz.prog.cellsOf 30 = 7 := by kernel_rfl
theorem cells_rat : Tryz.prog.cellsOf 28 = 3 := by kernel_rfl
theorem rat_of_trod {H : Type} {enc : TypeId × Value → H} {W : World} {fuel : Nat} {c0 c1 c2 : Value} {x : DataW H × List MemPlace} (h : DataW.trod enc Tryz.prog W 0 (fun _ => true) true fuel 28 [c0, c1, c2] = some x) :
  ∃ neg ao len cap zs po lp cp ds, c0 = .bool neg ∧ c1 = .slice ao len cap ∧ c2 = .slice po lp cp ∧ (RowAt W .u64 ao len cap zs ∧ Wd 18446744073709551616 zs) ∧ (RowAt W .u64 po lp cp ds ∧ Wd 18446744073709551616 ds) := by
 obtain ⟨y0, y1, n, _, _, h0, h1⟩ := trod_struct2 Tryz.underlying28 h
 simp only [cells_int, cells_nat, List.drop_zero, List.take_succ_cons, List.take_zero, List.drop_succ_cons] at h0 h1
 obtain ⟨neg, ao, len, cap, zs, rfl, rfl, hr, hw, _⟩ := int_of_trod h0
 obtain ⟨po, lp, cp, ds, hv, hr2, hw2, _⟩ := row_of_trod h1
 exact ⟨neg, ao, len, cap, zs, po, lp, cp, ds, rfl, rfl, hv, ⟨hr, hw⟩, ⟨hr2, hw2⟩⟩
theorem elemsR_of_trod {H : Type} {enc : TypeId × Value → H} {W : World} {fuel : Nat} {lo : Option Addr} {len cap : Nat} {x : DataW H × List MemPlace} (h : DataW.trod enc Tryz.prog W 0 (fun _ => true) true fuel 22 [.slice lo len cap] = some x) : ElemsR W lo len ∧ len ≤ 9223372036854775807 := by
 rcases Go.Deep.open_slice Tryz.underlying22 h with ⟨hcs, _⟩ | ⟨a, l, c, m, n, D, Pl, hcs, _, hl, hm, hmm, _, hx⟩
 ·
  simp at hcs; obtain ⟨rfl, rfl, rfl⟩ := hcs
  exact ⟨fun i hi => absurd hi (by omega), by decide⟩
 ·
  simp at hcs; obtain ⟨rfl, rfl, rfl⟩ := hcs
  refine ⟨fun i hi => ?_, Nat.le_trans hl hm⟩
  simp only [if_true] at hmm
  simp only [cells_pair] at hx
  obtain ⟨cs, hcells, htr⟩ := hx i (by omega)
  obtain ⟨_, hlen, hc⟩ := World.cells?_some hcells
  match cs, hlen with
  | [v0, v1, v2, v3, v4, v5, v6], _ =>
   obtain ⟨b, off, spot⟩ := a
   have hs : spot = none := by
    obtain ⟨cs0, hcells0, _⟩ := hx 0 (by omega)
    obtain ⟨_, hlen0, hc0⟩ := World.cells?_some hcells0
    have h1 := hc0 0 (by omega)
    rw [List.getElem?_eq_getElem (by omega)] at h1
    simpa [Addr.add] using World.cell?_spot h1
   subst hs
   obtain ⟨y0, y1, y2, n', _, _, t0, t1, t2⟩ := Go.Deep.trod_struct3 Tryz.underlying30 htr
   simp only [cells_rat, cells_i64, List.drop_zero, List.take_succ_cons, List.take_zero, List.drop_succ_cons] at t0 t1 t2
   obtain ⟨na, ao, la, ca, xs, po, lp, cp, ds, rfl, rfl, rfl, hx1, hx2⟩ := rat_of_trod t0
   obtain ⟨nb, bo, lb, cb, ys, qo, lq, cq, fs, rfl, rfl, rfl, hy1, hy2⟩ := rat_of_trod t1
   obtain ⟨nn, hn, _, hwn⟩ := DataW.trod_int Tryz.underlying3 t2
   simp at hn; subst hn
   have g : ∀ j, j < 7 → W.cell? ⟨b, off + i * 7 + j, none⟩ = [Value.bool na, .slice ao la ca, .slice po lp cp, .bool nb, .slice bo lb cb, .slice qo lq cq, .int .i64 nn][j]? := by
    intro j hj
    have := hc j hj
    rw [add_off, add_off] at this; exact this
   have hb := bounds_i64 hwn
   have g0 := g 0 (by omega)
   exact ⟨b, off, rfl, cell_lt (p := ⟨b, off + i * 7, none⟩) (v := .bool na) (g0), na, nb, ao, po, bo, qo, la, ca, lp, cp, lb, cb, lq, cq, nn, xs, ds, ys, fs, ⟨g0, g 1 (by omega), g 2 (by omega), g 3 (by omega), g 4 (by omega), g 5 (by omega), g 6 (by omega)⟩, hx1.1, hx1.2, hx2.1, hx2.2, hy1.1, hy1.2, hy2.1, hy2.2, hb.1, hb.2⟩
end Go.Proofs.YtiiefpnkpfliiaaGreatDoor
namespace Go.Proofs.YtiiefpnkpfliiaaGreatDoor
open Go.RowKit Go.ChangeShapes Go.WideShapes Go.ChangeAt
theorem gTab : Tryz.prog.globalNamed "internal/strconv.uint64pow10" = some 4 := by kernel_rfl
theorem tTab : (Tryz.prog.globals[4]?).map (·.type) = some 178 := by kernel_rfl
theorem cTab : Tryz.prog.cellsOf 178 = 20 := by kernel_rfl
theorem dTab : (Rows.laid_internal_strconv_uint64pow10 : DataW Unit) = Lib.tabData .u64 Lib.pow10Tab := by kernel_rfl
theorem pow_of_laid {W : World} (h : laidMetH Tryz.prog [("math/bits.deBruijn32tab", Rows.laid_math_bits_deBruijn32tab), ("math/bits.deBruijn64tab", Rows.laid_math_bits_deBruijn64tab), ("internal/strconv.uint64pow10", Rows.laid_internal_strconv_uint64pow10)] W) : Pow10 W := by
 rw [MakeChecks.laidMetH_plain _ _ _ (by kernel_rfl)] at h
 obtain ⟨ps, ⟨_, _, _, _, _, _, _, _, _, _, ⟨_, _, _, _, _, _, _, _, _, _, ⟨g, t, cs, fuel, p, q, hg, ht, hv, hd, _, _⟩, _⟩, _⟩, _⟩ := h
 obtain rfl := Option.some.inj (gTab.symm.trans hg)
 obtain rfl := Option.some.inj (tTab.symm.trans ht)
 rw [dTab] at hd
 have hcs := Lib.cells_of_tab Tryz.underlying178 Tryz.underlying59 cells_u64 cTab hd
 show W.var? Tryz.prog "internal/strconv.uint64pow10" = some _
 rw [hv, ← hcs]
theorem gTab6 : Tryz.prog.globalNamed "math/bits.deBruijn64tab" = some 0 := by kernel_rfl
theorem tTab6 : (Tryz.prog.globals[0]?).map (·.type) = some 123 := by kernel_rfl
theorem cTab6 : Tryz.prog.cellsOf 5 = 1 := by kernel_rfl
theorem dTab6 : (Rows.laid_math_bits_deBruijn64tab : DataW Unit) = .agg (Lib.deBruijn64tab.map fun (n : Nat) => DataW.lit (.int .u8 (n : Int))) := by kernel_rfl
theorem bits_of_laid {W : World} (h : laidMetH Tryz.prog [("math/bits.deBruijn32tab", Rows.laid_math_bits_deBruijn32tab), ("math/bits.deBruijn64tab", Rows.laid_math_bits_deBruijn64tab), ("internal/strconv.uint64pow10", Rows.laid_internal_strconv_uint64pow10)] W) : TabAt 0 Lib.deBruijn64tab W := by
 rw [MakeChecks.laidMetH_plain _ _ _ (by kernel_rfl)] at h
 obtain ⟨ps, ⟨_, _, _, _, _, _, _, _, _, _, ⟨g0, t0, cs0, f0, p0, q0, hg0, ht0, hv0, hd0, _, _⟩, _⟩, _⟩ := h
 obtain rfl := Option.some.inj (gTab6.symm.trans hg0)
 obtain rfl := Option.some.inj (tTab6.symm.trans ht0)
 obtain ⟨xs, m1, rfl, hx1, hlen, hn, hel⟩ := DataW.trod_array Tryz.underlying123 hd0
 intro j hj
 have hj64 : j < 64 := hj
 have h1 := hel j hj64
 have hjx : j < xs.length := by omega
 rw [List.getElem?_eq_getElem hjx] at h1
 obtain ⟨k, e1, e2, _⟩ := DataW.trod_int Tryz.underlying5 h1
 rw [cTab6] at e1
 rw [dTab6] at hx1
 simp only [Prod.mk.injEq, DataW.agg.injEq] at hx1
 have h2 : (xs.map (·.1))[j]? = (Lib.deBruijn64tab.map fun (n : Nat) => (DataW.lit (.int .u8 (n : Int)) : DataW Unit))[j]? := by rw [hx1.1]
 rw [List.getElem?_map, List.getElem?_map, List.getElem?_eq_getElem hjx, List.getElem?_eq_getElem hj, e2] at h2
 simp only [Option.map_some, Option.some.injEq, DataW.lit.injEq, Lit.int.injEq, true_and] at h2
 rw [World.var?_cell hg0 hv0 j]
 have h3 : (cs0.toList.drop (j * 1)).take 1 = [Value.int .u8 k] := e1
 have h4 : cs0.toList[j]? = some (Value.int .u8 k) := by
  have h5 := congrArg (fun l => l[0]?) h3
  simpa using h5
 rw [← Array.getElem?_toList, h4, h2, List.getD_eq_getElem?_getD, List.getElem?_eq_getElem hj]
 rfl
theorem door_met (os : Os) (args : Array Value) : laidMetH Tryz.prog [("math/bits.deBruijn32tab", Rows.laid_math_bits_deBruijn32tab), ("math/bits.deBruijn64tab", Rows.laid_math_bits_deBruijn64tab), ("internal/strconv.uint64pow10", Rows.laid_internal_strconv_uint64pow10)] ((World.doorLaid Tryz.prog 400 os).forCall (fun _ _ => 0) ⟨#[], args, []⟩).memory :=
 laidMetH_of_parts3 (fuel := 8) (laidMet_of_run' 8 (by kernel_rfl) (by kernel_rfl)) (by kernel_rfl) (by kernel_rfl)
end Go.Proofs.YtiiefpnkpfliiaaGreatDoor
