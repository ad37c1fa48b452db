/-
  Walks: Shift, Mirror, Turn of polynomials.
-/
import Derived.Test.YtnodcfeimiimbaaJF
import Derived.Test.YtnodcfeimiimbaaJH
namespace Go.Proofs.Ytnodcfeimiimbaa
open Go.RowKit
set_option linter.unusedVariables false
set_option linter.unusedSimpArgs false

/-- a polynomial in new memory and no error: what a call hands back -/
def NewPolyErr (w w' : World) (e : Ending) (p : List Int) : Prop := ∃ ao len, e = .returned (.tuple #[.slice ao len len, .int .i64 0]) ∧ PolyAt w' ao len len p ∧ Below w.heap.size w w'
theorem NewPB.at {w w' : World} {e : Ending} {p : List Int} (h : NewPB w w' e p) : ∃ ao len, e = .returned (.slice ao len len) ∧ PolyAt w' ao len len p ∧ Below w.heap.size w w' := by
  rcases h with ⟨h0, he, hb⟩ | ⟨h0, g, he, hp, _, _, hb⟩
  · obtain rfl : p = [] := List.eq_nil_of_length_eq_zero h0
    exact ⟨_, _, he, PolyAt.nilPoly _, hb⟩
  · exact ⟨_, _, he, hp.poly rfl, hb⟩

set_option maxRecDepth 100000 in
set_option maxHeartbeats 1000000 in
theorem bshift_ok (ao : Option Addr) (len cap : Nat) (p : List Int) (n : Bool) (co : Option Addr) (lc cc : Nat) (c : Int) (w : World) (hp : PolyAt w ao len cap p) (hl : len ≤ 1025) (hL : Lead p) (hv : IntAt w n co lc cc c) (hlim : ShLim 1000000000 c p) :
    Calls Try.prog 9 #[.slice ao len cap, .agg #[.bool n, .slice co lc cc]] w fun e w' => NewPolyErr w w' e (sh c p) := by
  have hA : Below w.heap.size w (w.alloc (.cells #[.bool n, .slice co lc cc] 28)) := (Below.refl _ _).alloc (Nat.le_refl _) _
  have hlc : lc ≤ 1000000000 := by rw [hv.lim]; exact hlim.1
  have hcon := checkMove_ok ao len cap p n co lc cc c _ (hp.later hA) hl hL (hlim.2.1.mono (by decide)) (hv.later hA) (by omega)
  have HV : Hid (IntAt (w.alloc (.cells #[.bool n, .slice co lc cc] 28)) n co lc cc c ∧ Boxed (w.alloc (.cells #[.bool n, .slice co lc cc] 28)) w.heap.size n co lc cc ∧ PolyAt (w.alloc (.cells #[.bool n, .slice co lc cc] 28)) ao len cap p ∧ ShLim 1000000000 c p) := ⟨hv.later hA, ⟨by simp [go_sem], by simp [go_sem]⟩, hp.later hA, hlim⟩
  clear hp hL hlim hv
  go_enter Try.func9, Try.ntmps9
  go_wp2_with (first
    | (go_at_call 24; refine hcon.mono ?_; rintro e w1 ⟨rfl, hb1⟩; obtain ⟨q0, q1⟩ := HV.out.2.1.later hb1 (by simp))
    | (go_at_call 26; refine (shifted_any ao len cap p n co lc cc c _ (HV.out.2.2.1.later hb1) (by omega) (HV.out.1.later hb1) HV.out.2.2.2).mono ?_; intro e w2 hN; obtain ⟨ao2, l2, rfl, hp2, hb2⟩ := hN.at; clear hN))
  exact bodyPost_ret (v := .tuple #[.slice ao2 l2 l2, .int .i64 0]) (by simp [results, Try.results9, go_sem]) rfl ⟨_, _, rfl, hp2, bnext hA (bnext hb1 hb2)⟩

set_option maxRecDepth 100000 in
set_option maxHeartbeats 1000000 in
theorem bmirror_ok (ao : Option Addr) (len cap : Nat) (p : List Int) (w : World) (hp : PolyAt w ao len cap p) (hl : len ≤ 1025) (hL : Lead p) (hlim : Lim 1000000000 p) :
    Calls Try.prog 11 #[.slice ao len cap] w fun e w' => NewPolyErr w w' e (mir p.length p) := by
  have hcon := boundCheck_ok ao len cap p _ hp hl hL (hlim.mono (by decide))
  have HV : Hid (PolyAt w ao len cap p ∧ Lim 1000000000 p) := ⟨hp, hlim⟩
  clear hp hL hlim
  go_enter Try.func11, Try.ntmps11
  go_wp2_with (first
    | (go_at_call 30; refine hcon.mono ?_; rintro e w1 ⟨rfl, hb1⟩)
    | (go_at_call 31; refine (mirrored_any ao len cap p _ (HV.out.1.later hb1) (by omega) HV.out.2).mono ?_; intro e w2 hN; obtain ⟨ao2, l2, rfl, hp2, hb2⟩ := hN.at; clear hN))
  exact bodyPost_ret (v := .tuple #[.slice ao2 l2 l2, .int .i64 0]) (by simp [results, Try.results11, go_sem]) rfl ⟨_, _, rfl, hp2, bnext hb1 hb2⟩

set_option maxRecDepth 100000 in
set_option maxHeartbeats 1000000 in
theorem bturn_ok (ao : Option Addr) (len cap : Nat) (p : List Int) (w : World) (hp : PolyAt w ao len cap p) (hl : len ≤ 1025) (hcap : cap ≤ 9223372036854775807) (hL : Lead p) (hlim : Lim 1000000000 p) :
    Calls Try.prog 15 #[.slice ao len cap] w fun e w' => ∃ q, TurnOf p q ∧ NewPolyErr w w' e q := by
  have hcon := boundCheck_ok ao len cap p _ hp hl hL (hlim.mono (by decide))
  have HV : Hid (PolyAt w ao len cap p ∧ Lim 1000000000 p ∧ Lead p) := ⟨hp, hlim, hL⟩
  clear hp hL hlim
  go_enter Try.func15, Try.ntmps15
  go_wp2_with (first
    | (go_at_call 30; refine hcon.mono ?_; rintro e w1 ⟨rfl, hb1⟩)
    | (go_at_call 35; refine (turned_any ao len cap p _ (HV.out.1.later hb1) (by omega) hcap HV.out.2.1 HV.out.2.2).mono ?_; rintro e w2 ⟨q, hT, hN⟩; obtain ⟨ao2, l2, rfl, hp2, hb2⟩ := hN.at; clear hN))
  exact bodyPost_ret (v := .tuple #[.slice ao2 l2 l2, .int .i64 0]) (by simp [results, Try.results15, go_sem]) rfl ⟨q, hT, _, _, rfl, hp2, bnext hb1 hb2⟩
end Go.Proofs.Ytnodcfeimiimbaa
