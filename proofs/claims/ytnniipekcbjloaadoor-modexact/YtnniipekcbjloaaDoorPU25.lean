/-
  PX: walks: slices.Backward, and modp's Eval, which ranges over it.
-/
import Derived.Test.YtnniipekcbjloaaDoorPU15
import Derived.Test.YtnniipekcbjloaaDoorPU16
import Derived.Test.YtnniipekcbjloaaDoorPU18
import Derived.Test.YtnniipekcbjloaaDoorPU19
import Derived.Test.YtnniipekcbjloaaDoorPU23
import Derived.Test.YtnniipekcbjloaaDoorPU24
import Derived.RangeFuncNested
import Derived.RangeFuncBound
import Derived.RangeFuncCalls
import Derived.RangeFuncLeaves
import Derived.Shelf.Abstract
import Derived.Shelf.RegionOpen
import Derived.WalkKit
import Derived.OwnWalkIn
import Derived.TacticsInMore
import Derived.LoopNIn
import Derived.LoopIn
import Derived.RegionIn
import Derived.OrdersIn
import Derived.OrdersHeld
import Derived.ProofKit
import Derived.OpenShut
import Derived.Deep.Slices
import Derived.Deep.Strs
namespace Go.Proofs.YtnniipekcbjloaaDoor
open Go.RowKit Go.Shelf
set_option linter.unusedVariables false
set_option linter.unusedSimpArgs false
attribute [local go_sem] Oper.semAt_some
/-- a place, and a number modulo p that stands there -/
abbrev Res (p : Int) : Type := {x : Nat × Int // 0 ≤ x.2 ∧ x.2 < p}
/-- what has come from behind when m are left -/
def backL {p : Int} (zs : List Int) (h : ∀ j, 0 ≤ dig zs j ∧ dig zs j < p) (m : Nat) : List (Res p) := ((List.range zs.length).reverse.take (zs.length - m)).map fun j => ⟨(j, dig zs j), h j⟩
theorem backL_step {p : Int} {zs : List Int} (h : ∀ j, 0 ≤ dig zs j ∧ dig zs j < p) {j : Nat} (hj : j < zs.length) : backL zs h j = backL zs h (j + 1) ++ [⟨(j, dig zs j), h j⟩] := by
  unfold backL
  rw [show zs.length - j = (zs.length - (j + 1)) + 1 by omega, List.take_add_one, List.map_append]
  congr 1
  rw [List.getElem?_reverse (by simp; omega), List.length_range, List.getElem?_range (by omega)]
  simp only [Option.toList, List.map_cons, List.map_nil]
  simp only [show zs.length - 1 - (zs.length - (j + 1)) = j by omega]
theorem backL_len {p : Int} (zs : List Int) (h : ∀ j, 0 ≤ dig zs j ∧ dig zs j < p) (m : Nat) : (backL zs h m).length = zs.length - m := by simp [backL]
theorem backL_none {p : Int} (zs : List Int) (h : ∀ j, 0 ≤ dig zs j ∧ dig zs j < p) : backL zs h zs.length = [] := by simp [backL]
/-- blocks below n₀ stay, but for g -/
def KpX (g n₀ : Nat) (W W' : World) : Prop := ∀ k, k < n₀ → k ≠ g → W'.heap[k]? = W.heap[k]?
theorem KpX.refl (g n₀ : Nat) (W : World) : KpX g n₀ W W := fun _ _ _ => rfl
theorem KpX.trans {g n₀ : Nat} {A B C : World} (h : KpX g n₀ A B) (k : KpX g n₀ B C) : KpX g n₀ A C := fun j h1 h2 => (k j h1 h2).trans (h j h1 h2)
theorem KpX.put {g n₀ : Nat} {w : World} (hn : n₀ ≤ w.heap.size) (W : World) (l : Nat) (o o' : Obj) (hl : w.heap.size ≤ l) (h : W.heap[l]? = some o) (_ : o.isCells = false) (_ : o.isWalk = false) : KpX g n₀ W (W.putObj l o') := fun k h1 h2 =>
  (belowK_b hn W l o o' hl h (by assumption) (by assumption)).block k h1
theorem KpX.cell {g n₀ : Nat} {W W' : World} (h : KpX g n₀ W W') {k j : Nat} (h1 : k < n₀) (h2 : k ≠ g) : W'.cell? ⟨k, j, none⟩ = W.cell? ⟨k, j, none⟩ := by
  simp only [World.cell?, h k h1 h2]
theorem KeepsOthers.ofBelow {W W' : World} (h : Below W.heap.size W W') : KeepsOthers W W' := ⟨h.size, fun k o hk _ => (h.block k (heap_lt hk)).trans hk⟩
set_option maxRecDepth 100000 in
set_option maxHeartbeats 2000000 in
theorem back1_in {p : Int} (F : Fence) (n : Nat) (h : F.fn 68) (hro : F.round = none) (hn : 1 ≤ n) (l Bs g n₀ len cap : Nat) (ao : Option Addr) (zs : List Int) (hz : ∀ j, 0 ≤ dig zs j ∧ dig zs j < p) (hlen : len = zs.length) (hl : len ≤ 4194304) (hb : 0 < len → ∀ a : Addr, ao = some a → a.block < n₀ ∧ a.block ≠ g) (J Jx : List (Res p) → World → Prop)
    (hY : ∀ pre x W, J pre W → pre.length < len → YieldAt F (n - 1) Tryd.prog l #[.int .i64 (x.1.1 : Int), .int .u64 x.1.2] W fun e W' =>
      (e = .returned (.bool true) ∧ J (pre ++ [x]) W' ∧ KpX g n₀ W W') ∨ (e = .returned (.bool false) ∧ Jx (pre ++ [x]) W'))
    (W : World) (hBs : W.cell? ⟨Bs, 0, none⟩ = some (.slice ao len cap)) (hBn : Bs < n₀ ∧ Bs ≠ g) (hc : RowAt W .u64 ao len cap zs) (h0 : J [] W) :
    CallsIn F n Tryd.prog 68 #[.func (.yield l) #[] #[], .pointer (some ⟨Bs, 0, none⟩)] W fun e W' => (∃ v, e = .returned v) ∧
      ((∃ ys, ys = backL zs hz 0 ∧ J ys W') ∨ (∃ pre, (∃ k, k ≤ len ∧ pre = backL zs hz k) ∧ Jx pre W')) := by
  refine callsIn_of_wp Tryd.func68 rfl h ?_ hro
  simp only [Tryd.ntmps68, List.size_toArray, List.length_cons, List.length_nil, Nat.reduceAdd, Nat.reduceSub, Array.replicate_succ, Array.replicate_zero, List.push_toArray, List.append_toArray, List.nil_append, List.cons_append]
  gi_wp2
  gi_loopw [3] (fun i wr => ∃ m : Nat, m ≤ len ∧ i = .int .i64 ((m : Int) - 1) ∧ J (backL zs hz m) wr ∧ KpX g n₀ W wr)
    (fun i _ => (intOf i + 1).toNat)
  case atStart => exact ⟨len, Nat.le_refl _, by go_num, by rw [hlen, backL_none]; exact h0, KpX.refl _ _ _⟩
  case round =>
    obtain ⟨m, hm, rfl, hJs, hnx⟩ := hrel
    have hbs : wr.cell? ⟨Bs, 0, none⟩ = some (.slice ao len cap) := (hnx.cell hBn.1 hBn.2).trans hBs
    rcases m with _ | j
    · gi_wp2
      go_end0
      exact ⟨⟨_, rfl⟩, .inl ⟨_, rfl, hJs⟩⟩
    · obtain ⟨b, off, rfl, _, hcell⟩ := hc.get (by omega)
      have hbb := hb (by omega) ⟨b, off, none⟩ rfl
      have hcx : wr.cell? ⟨b, off + j, none⟩ = some (.int .u64 (dig zs j)) := (hnx.cell hbb.1 hbb.2).trans (hcell j (by omega))
      have hst := backL_step (zs := zs) hz (j := j) (by omega)
      obtain ⟨fn, tmps, assign, body, hy, hR⟩ := hY _ ⟨(j, dig zs j), hz j⟩ wr hJs (by rw [backL_len]; omega)
      dsimp only at hy
      rw [← hst] at hR
      obtain ⟨z, hzz⟩ : ∃ z, dig zs j = z := ⟨_, rfl⟩
      rw [hzz] at hcx hy
      have z1 : (j : Int) < (len : Int) := by omega
      have z2 : (0 : Int) ≤ (j : Int) := by omega
      clear hzz
      gi_wp2
      refine hR.mono ?_
      rintro e W3 (⟨rfl, hJ3, hk3⟩ | ⟨rfl, hJx3⟩)
      · gi_wp2
        go_roundw
        case rel => exact ⟨j, by omega, by go_num, hJ3, hnx.trans hk3⟩
        case measure => simp [intOf]
      · gi_wp2
        refine bodyPost_ret (results_none rfl _ _ _) rfl ?_
        exact ⟨⟨_, rfl⟩, .inr ⟨_, ⟨j, by omega, rfl⟩, hJx3⟩⟩
set_option maxHeartbeats 1000000 in
theorem back_in (F : Fence) (n : Nat) (h : F.fn 45) (hro : F.round = none) (a : Option Addr) (len cap : Nat) (w : World) :
    CallsIn F n Tryd.prog 45 #[.slice a len cap] w fun e w' => e = .returned (.func (.func 68) #[] #[.pointer (some ⟨w.heap.size, 0, none⟩)]) ∧ w' = w.alloc (.cells #[.slice a len cap] 24) := by
  refine callsIn_of_wp Tryd.func45 rfl h ?_ hro
  simp only [Tryd.ntmps45, List.size_toArray, List.length_cons, List.length_nil, Nat.reduceAdd, Nat.reduceSub, Array.replicate_succ, Array.replicate_zero, List.push_toArray, List.append_toArray, List.nil_append, List.cons_append]
  gi_wp2
  go_ret
  exact ⟨rfl, rfl⟩
/-- slices.Backward's value gives the places and numbers from the last one on -/
theorem back_stops {p : Int} (F : Fence) (n : Nat) (h : F.fn 68) (hro : F.round = none) (hn : 1 ≤ n) (Bs g n₀ len cap : Nat) (ao : Option Addr) (zs : List Int) (hz : ∀ j, 0 ≤ dig zs j ∧ dig zs j < p) (hl : len ≤ 4194304) (w : World) (hBs : Bs < n₀ ∧ Bs ≠ g)
    (hb : 0 < len → ∀ a : Addr, ao = some a → a.block < n₀ ∧ a.block ≠ g) (hc : w.cell? ⟨Bs, 0, none⟩ = some (.slice ao len cap)) (hr : RowAt w .u64 ao len cap zs) :
    SeqStopsK F n Tryd.prog 68 #[.pointer (some ⟨Bs, 0, none⟩)] (fun x : Res p => #[Value.int .i64 (x.1.1 : Int), Value.int .u64 x.1.2]) (KpX g n₀) (fun ys => ys = backL zs hz 0)
      (fun pre => ∃ k, k ≤ len ∧ pre = backL zs hz k) len w := fun l J Jx W hW _ _ hY h0 =>
  back1_in F n h hro hn l Bs g n₀ len cap ao zs hz hr.hlen hl hb J Jx hY W ((hW.cell (p := ⟨Bs, 0, none⟩) (cell_lt hc)).trans hc) hBs (hr.later hW) h0
/-- an operation in a round of the wide fence, out of the one outside -/
theorem opIn_round {P : Program} {o : Oper} {a : Act} {w : World} {K : Act → World → Prop} {Q : Exit → Act → World → Prop} {n l : Nat} (hd : ∀ c, o.op ≠ .defer c) (h : o.wp P a w K Q) : o.wpIn (Fence.wide.inRound l) n P a w K Q := by
  refine ⟨fun _ _ => trivial, ?_⟩
  rw [show (Fence.wide.inRound l).round = some l from rfl, Oper.semAt_eq (some l) _ _ hd]
  unfold Oper.wp at h
  generalize (execOp a.eval o).run P w = r at h ⊢
  cases r with
  | ok x w' =>
    cases x <;> simp only [Oper.upon, Oper.uponIn] at h ⊢
    case value v => exact h
    case skip => exact h
    case defer d => exact h
    case enter f args => exact ⟨fun e => (by cases e), CallsIn.inRound l (callsIn_wide.2 h)⟩
    case row row args => exact ⟨fun e => (by cases e), fun c cs _ => let ⟨v, w'', r, s⟩ := h c cs; ⟨v, w'', r, stepsIn_wide.2 s⟩⟩
  | halt x w' =>
    cases x <;> simp only [Oper.upon, Oper.uponIn] at h ⊢
    case panic u => exact h
theorem anyIn_round {P : Program} {md : Region.Mode} {ops : Array Oper} {Q : Exit → Act → World → Prop} {n l : Nat} (hnd : ∀ (i : Nat) (o : Oper), ops[i]? = some o → ∀ c, o.op ≠ .defer c) (hlo : ¬ LetsOut Q) : ∀ (fuel : Nat) (listed : Array Bool) (a : Act) (w : World), wpAny P md ops Q fuel listed a w → wpAnyIn (Fence.wide.inRound l) n P md ops Q fuel listed a w
  | 0, _, _, _, h => h
  | fuel + 1, listed, a, w, h => ⟨h.1, fun i hi => by
    have h2 := wpOp_mono (fun a' w' h' => anyIn_round (n := n) (l := l) hnd hlo fuel _ a' w' h') (h.2 i hi)
    unfold Go.wpOp at h2
    unfold Go.wpOpIn
    cases ho : ops[i]? with
    | none => simp only [ho] at h2 ⊢; exact h2
    | some o =>
      simp only [ho] at h2 ⊢
      split
      · rename_i hw
        rw [if_pos hw] at h2
        rcases h2 with h2 | h2
        · exact opIn_round (hnd i o ho) h2
        · exact absurd h2.2 hlo
      · rename_i hw
        rw [if_neg hw] at h2
        exact ⟨fun _ _ => trivial, h2⟩⟩
/-- is no operation a defer? -/
def noDefer (ops : Array Oper) : Bool := ops.toList.all fun o => match o.op with | .defer _ => false | _ => true
theorem noDefer_is {ops : Array Oper} (h : noDefer ops = true) (i : Nat) (o : Oper) (ho : ops[i]? = some o) (c : Call) : o.op ≠ .defer c := fun e => by
  have h1 := List.all_eq_true.1 h o (Array.mem_toList_iff.2 (Array.mem_of_getElem? ho))
  simp only [e] at h1
  cases h1
/-- a region that draws, in a round, by what is held -/
theorem region_in_round {P : Program} {id : Nat} {ops : Array Oper} {Q : Exit → Act → World → Prop} {S : World → Prop} {a : Act} {w : World} {n l : Nat} (hm : P.follows .mixedOrders = true) (hnd : noDefer ops = true) (hlo : ¬ LetsOut Q) (hS : S w.drew)
    (h : S w.drew → wpAnyH P .any ops (NoPanic Q) S ops.size (Array.replicate ops.size false) a w.drew) : (Code.region id ops true).wpIn (Fence.wide.inRound l) n P Q a w :=
  Code.wpIn_mono NoPanic.imp (wpIn_region_any hm (anyIn_round (Q := NoPanic Q) (noDefer_is hnd) (fun ⟨a', w', h'⟩ => hlo ⟨a', w', h'⟩) _ _ _ _ (wpAny_of_held _ _ _ _ (h hS))))
/-- Horner's rule over what has come -/
def hfoldM (p c : Int) (l : List (Res p)) : Int := l.foldl (fun s x => (s * c + x.1.2) % p) 0
theorem hfoldM_snoc (p c : Int) (l : List (Res p)) (x : Res p) : hfoldM p c (l ++ [x]) = (hfoldM p c l * c + x.1.2) % p := by simp [hfoldM]
theorem hfoldM_back (p c : Int) (zs : List Int) (hz : ∀ j, 0 ≤ dig zs j ∧ dig zs j < p) : ∀ d m, d = zs.length - m → m ≤ zs.length → hfoldM p c (backL zs hz m) = horM p c (zs.drop m)
  | 0, m, hd, hm => by
    have : m = zs.length := by omega
    subst this
    rw [backL_none, List.drop_length]; rfl
  | d + 1, m, hd, hm => by
    have h := backL_step (zs := zs) hz (j := m) (by omega)
    rw [h, hfoldM_snoc, hfoldM_back p c zs hz d (m + 1) (by omega) (by omega)]
    exact (horM_drop (by omega)).symm
theorem hfoldM_all (p c : Int) (zs : List Int) (hz : ∀ j, 0 ≤ dig zs j ∧ dig zs j < p) : hfoldM p c (backL zs hz 0) = horM p c zs := by
  rw [hfoldM_back p c zs hz zs.length 0 rfl (Nat.zero_le _), List.drop_zero]
theorem hfoldM_in {p : Int} (hp : 0 < p) (c : Int) (l : List (Res p)) : 0 ≤ hfoldM p c l ∧ hfoldM p c l < p := by
  by_cases h : l = []
  · subst h; exact ⟨Int.le_refl _, hp⟩
  · obtain ⟨l', x, rfl⟩ : ∃ l' x, l = l' ++ [x] := ⟨l.dropLast, l.getLast h, (List.dropLast_concat_getLast h).symm⟩
    rw [hfoldM_snoc]; exact mod_in hp _
set_option maxRecDepth 100000 in
set_option maxHeartbeats 2000000 in
theorem mEval_good (p c : Int) (ao : Option Addr) (la ca : Nat) (f : List Int) (w : World) (hp : PrimeT p w) (hf : GoodF p w ao la ca f) (hc : 0 ≤ c ∧ c < p) :
    Calls Tryd.prog 16 #[.slice ao la ca, .int .u64 c, .int .u64 p] w fun e w' => e = .returned (.tuple #[.int .u64 (horM p c f), .int .i64 0]) ∧ Below w.heap.size w w' := by
  have hp2 := hp.1.two
  have hp3 := hp.2.1
  have H1 : Hid (∀ W, Below w.heap.size w W → Calls Tryd.prog 18 #[.slice ao la ca, .int .u64 p] W fun e w' => e = .returned (.int .i64 0) ∧ Below W.heap.size W w') := fun W hb => mcheck_any p ao la ca f W (hp.later hb) (hf.later hb)
  have HF : Hid (FRow p w ao la ca f ∧ la ≤ 1025 ∧ (0 ≤ c ∧ c < p) ∧ (0 < p ∧ p < 18446744073709551616) ∧ (0 < p ∧ p ≤ 2147483648)) := ⟨hf.1, hf.2.2, hc, by omega, by omega⟩
  have hz : ∀ j, 0 ≤ dig f j ∧ dig f j < p := fun j => hf.1.wd.dig (by omega) j
  have hfar : Hid (0 < la → ∀ a : Addr, ao = some a → a.block < w.heap.size) := fun hla a ha => by
    rcases hf.1.row.hat with h0 | ⟨b, off, e, hb, _⟩
    · omega
    · rw [ha] at e; cases e; exact hb
  have hcp : ¬ p ≤ c := by omega
  refine (callsIn_wide (n := 4)).1 ?_
  refine callsIn_of_wp_marks Tryd.func16 rfl trivial ?_ rfl
  simp only [Tryd.ntmps16, List.size_toArray, List.length_cons, List.length_nil, Nat.reduceAdd, Nat.reduceSub, Array.replicate_succ, Array.replicate_zero, List.push_toArray, List.append_toArray, List.nil_append, List.cons_append]
  obtain ⟨X, hX⟩ : ∃ X, X = (w.alloc (.cells #[.int .u64 c] 25)).alloc (.cells #[.int .u64 p] 25) := ⟨_, rfl⟩
  have HX : Hid (Below w.heap.size w X ∧ X.cell? ⟨w.heap.size, 0, none⟩ = some (.int .u64 c) ∧ X.cell? ⟨w.heap.size + 1, 0, none⟩ = some (.int .u64 p) ∧ X.heap.size = w.heap.size + 2) := by
    rw [hX]; exact ⟨((Below.refl _ _).alloc (Nat.le_refl _) _).alloc (by simp) _, by simp [go_sem], by simp [go_sem], by simp⟩
  clear hp hf hc
  gi_wp2_with (first
    | (refine ⟨trivial, ?_⟩; gi_at_call 18; rw [← hX]; refine (callsIn_wide.2 (H1.out X HX.out.1)).mono ?_; rintro e w1 ⟨rfl, hb1⟩; have HB1 : Hid (Below X.heap.size X w1) := hb1; have c0 : w1.cell? ⟨w.heap.size, 0, none⟩ = some (.int .u64 c) := (hb1.cell (p := ⟨w.heap.size, 0, none⟩) (by have := HX.out.2.2.2; show w.heap.size < _; omega)).trans HX.out.2.1; have c1 : w1.cell? ⟨w.heap.size + 1, 0, none⟩ = some (.int .u64 p) := (hb1.cell (p := ⟨w.heap.size + 1, 0, none⟩) (by have := HX.out.2.2.2; show w.heap.size + 1 < _; omega)).trans HX.out.2.2.1)
    | (refine ⟨trivial, ?_⟩; gi_at_call 45; refine (back_in Fence.wide _ trivial rfl _ _ _ _).mono ?_; rintro e w' ⟨rfl, rfl⟩))
  have c2 : w1.cell? ⟨w1.heap.size, 0, none⟩ = none := by simp [World.cell?]
  obtain ⟨Y, hY⟩ : ∃ Y, Y = (w1.alloc (.cells #[.int .u64 0] 25)).alloc (.cells #[.slice ao la ca] 24) := ⟨_, rfl⟩
  have HY : Hid (Below w1.heap.size w1 Y ∧ Y.cell? ⟨w1.heap.size, 0, none⟩ = some (.int .u64 0) ∧ Y.cell? ⟨w1.heap.size + 1, 0, none⟩ = some (.slice ao la ca) ∧ Y.heap.size = w1.heap.size + 2 ∧ Y.frozen? ⟨w1.heap.size, 0, none⟩ = false) := by
    rw [hY]; exact ⟨((Below.refl _ _).alloc (Nat.le_refl _) _).alloc (by simp) _, by simp [go_sem], by simp [go_sem], by simp, by simp [go_sem]⟩
  have HBY : Hid (Below w.heap.size w Y) := bnextM (B := 0) HX.out.1 (bnextM (B := 0) HB1.out HY.out.1)
  have hgs : w.heap.size + 2 ≤ w1.heap.size := by rw [← HX.out.2.2.2]; exact HB1.out.size
  rw [← hY]
  clear hY
  refine wpIn_rangeFunc_ownF rfl (by omega) (gf := 68) (lb := #[.pointer (some ⟨w1.heap.size + 1, 0, none⟩)]) rfl trivial (enters_of Tryd.func68 (by kernel_rfl) rfl)
    (back_stops Fence.wide _ trivial rfl (by omega) (w1.heap.size + 1) w1.heap.size (w1.heap.size + 2) la ca ao f hz (by have := HF.out.2.1; omega) Y ⟨by omega, by omega⟩ (fun hla a ha => ⟨by have := hfar.out hla a ha; omega, by have := hfar.out hla a ha; omega⟩) HY.out.2.2.1 (HF.out.1.later HBY.out).row) KpX.trans (KpX.put (by have := HY.out.2.2.2.1; omega)) (Below.refl _ _) (fun _ => rfl)
    (fun pre W => (W.cell? ⟨w1.heap.size, 0, none⟩ = some (.int .u64 (hfoldM p c pre)) ∧ W.frozen? ⟨w1.heap.size, 0, none⟩ = false ∧ W.cell? ⟨w.heap.size, 0, none⟩ = some (.int .u64 c) ∧ W.cell? ⟨w.heap.size + 1, 0, none⟩ = some (.int .u64 p) ∧ W.cell? ⟨w1.heap.size + 1, 0, none⟩ = some (.slice ao la ca)) ∧ Below w.heap.size w W)
    (fun _ _ _ => False)
    (OwnFrom.and (Own.from (fun s A B row hs hg hr => ⟨cell_kept hs.1 hg hr, (frozen_kept hs.1 hg hr).trans hs.2.1, cell_kept hs.2.2.1 hg hr, cell_kept hs.2.2.2.1 hg hr, cell_kept hs.2.2.2.2 hg hr⟩) _) (ownFrom_below (Nat.le_refl _) HBY.out.size))
    (fun _ _ _ _ _ hs _ _ => hs)
    ⟨⟨HY.out.2.1, HY.out.2.2.2.2, (HY.out.1.cell (p := ⟨w.heap.size, 0, none⟩) (by show w.heap.size < _; omega)).trans c0, (HY.out.1.cell (p := ⟨w.heap.size + 1, 0, none⟩) (by show w.heap.size + 1 < _; omega)).trans c1, HY.out.2.2.1⟩, HBY.out⟩
    (fun x => { tmps := #[.slice ao la ca, .int .u64 c, .int .u64 p, undef, .pointer (some ⟨w.heap.size, 0, none⟩), .pointer (some ⟨w.heap.size + 1, 0, none⟩), .int .u64 0, .int .i64 0, .int .i64 0, .pointer (some ⟨w1.heap.size, 0, none⟩), undef, .int .u64 x.1.2, .slice ao la ca, .int .u64 p, .int .i64 0, .int .i64 0, .bool false, undef, .int .u64 c, .int .u64 p, .bool (decide (p ≤ c)), .slice ao la ca, .func (.func 68) #[] #[.pointer (some ⟨w1.heap.size + 1, 0, none⟩)], .int .i64 (x.1.1 : Int), .int .u64 x.1.2, undef, undef, undef, undef, undef, undef, undef, undef], defers := [] }) ?assign ?body ?done ?stop
  case assign =>
    intro l x W K hK
    gi_wp2
    exact hK
  case body =>
    rintro l pre x W ⟨⟨hcv, hfv, hcc, hcp, hbx⟩, hB⟩ _
    have hd : 1 ≤ 4 - 1 - 1 := by omega
    have hmx : Tryd.prog.follows .mixedOrders = true := by kernel_rfl
    have hvb := hfoldM_in HF.out.2.2.2.1.1 c pre
    obtain ⟨v, hv⟩ : ∃ v, hfoldM p c pre = v := ⟨_, rfl⟩
    rw [hv] at hcv hvb
    obtain ⟨a, ha⟩ : ∃ a, x.1.2 = a := ⟨_, rfl⟩
    have hab := x.2
    rw [ha] at hab
    obtain ⟨y, hy⟩ : ∃ y, v * c % p = y := ⟨_, rfl⟩
    have hyb : 0 ≤ y ∧ y < p := by rw [← hy]; exact mod_in HF.out.2.2.2.1.1 _
    obtain ⟨z, hzz⟩ : ∃ z, (y + a) % p = z := ⟨_, rfl⟩
    have HT : Hid (∀ W', Calls Tryd.prog 47 #[.int .u64 p, .int .u64 v, .int .u64 c] W' fun e w' => e = .returned (.int .u64 y) ∧ Below W'.heap.size W' w') := fun W' =>
      mtimes_any p v c y W' HF.out.2.2.2.1 ⟨hvb.1, by have := HF.out.2.2.2.1; omega⟩ ⟨HF.out.2.2.1.1, by have := HF.out.2.2; omega⟩ hy
    have HPL : Hid (∀ W', Calls Tryd.prog 46 #[.int .u64 p, .int .u64 y, .int .u64 a] W' fun e w' => e = .returned (.int .u64 z) ∧ w' = W') := fun W' => mplus_any p y a z W' HF.out.2.2.2.2 hyb hab hzz
    have HZ : Hid (hfoldM p c (pre ++ [x]) = z) := by
      show _ = _
      rw [hfoldM_snoc, hv, ha, ← hzz, ← hy, Int.add_emod (v * c % p), Int.emod_emod_of_dvd _ (Int.dvd_refl p), ← Int.add_emod]
    have HK : Hid (W.cell? ⟨w1.heap.size, 0, none⟩ = some (.int .u64 v) ∧ W.frozen? ⟨w1.heap.size, 0, none⟩ = false ∧ W.cell? ⟨w.heap.size, 0, none⟩ = some (.int .u64 c) ∧ W.cell? ⟨w.heap.size + 1, 0, none⟩ = some (.int .u64 p) ∧ Below w.heap.size w W) := ⟨hcv, hfv, hcc, hcp, hB⟩
    have hgW : Hid (w.heap.size ≤ w1.heap.size ∧ w1.heap.size + 2 ≤ w1.heap.size + 2) := ⟨by omega, Nat.le_refl _⟩
    clear hy hyb hzz hab hvb
    rw [ha]
    have HG : Hid (w1.heap.size ≤ W.heap.size ∧ w1.heap.size + 1 < W.heap.size) := ⟨Nat.le_of_lt (cell_lt HK.out.1), cell_lt hbx⟩
    have KS : Hid (∀ w', Below w1.heap.size W w' → w'.cell? ⟨w.heap.size, 0, none⟩ = some (.int .u64 c) ∧ w'.cell? ⟨w.heap.size + 1, 0, none⟩ = some (.int .u64 p)) := fun w' hb => ⟨(hb.cell (p := ⟨w.heap.size, 0, none⟩) (by show w.heap.size < _; omega)).trans HK.out.2.2.1, (hb.cell (p := ⟨w.heap.size + 1, 0, none⟩) (by show w.heap.size + 1 < _; omega)).trans HK.out.2.2.2.1⟩
    gi_wp2
    refine region_in_round (S := fun w' => (w'.cell? ⟨w.heap.size, 0, none⟩ = some (.int .u64 c) ∧ w'.cell? ⟨w.heap.size + 1, 0, none⟩ = some (.int .u64 p))) (by kernel_rfl) (by kernel_rfl) (by rintro ⟨a', w', h'⟩; exact h') (by (try dsimp only); exact KS.out _ (Below.refl _ _).drew) (fun hHeld => ?_)
    refine wpAnyH_take (i := 0) (oi := Oper.mk (some 25) _ _ _ _ _) (v := ?_) rfl (by decide +kernel) (by decide +kernel) (by decide +kernel) (fun _ _ _ h => h) (Or.inl ⟨by rfl, ?_⟩) (by assumption) ?_
    rotate_left
    · (intro w hSw; (try dsimp only at hSw); go_simp <;> (try with_reducible rfl))
    (try simp only [Act.put, List.setIfInBounds_toArray, List.set_cons_zero, List.set_cons_succ])
    refine wpAnyH_take (i := 1) (oi := Oper.mk (some 26) _ _ _ _ _) (v := ?_) rfl (by decide +kernel) (by decide +kernel) (by decide +kernel) (fun _ _ _ h => h) (Or.inl ⟨by rfl, ?_⟩) (by assumption) ?_
    rotate_left
    · (intro w hSw; (try dsimp only at hSw); go_simp <;> (try with_reducible rfl))
    (try simp only [Act.put, List.setIfInBounds_toArray, List.set_cons_zero, List.set_cons_succ])
    refine wpAnyH_take (i := 3) (oi := Oper.mk (some 28) _ _ _ _ _) (v := ?_) rfl (by decide +kernel) (by decide +kernel) (by decide +kernel) (fun _ _ _ h => h) (Or.inl ⟨by rfl, ?_⟩) (by assumption) ?_
    rotate_left
    · (intro w hSw; (try dsimp only at hSw); go_simp <;> (try with_reducible rfl))
    (try simp only [Act.put, List.setIfInBounds_toArray, List.set_cons_zero, List.set_cons_succ])
    refine wpAnyH_take (i := 5) (oi := Oper.mk (some 30) _ _ _ _ _) (v := ?_) rfl (by decide +kernel) (by decide +kernel) (by decide +kernel) (fun _ _ _ h => h) (Or.inl ⟨by rfl, ?_⟩) (by assumption) ?_
    rotate_left
    · (intro w hSw; (try dsimp only at hSw); go_simp <;> (try with_reducible rfl))
    (try simp only [Act.put, List.setIfInBounds_toArray, List.set_cons_zero, List.set_cons_succ])
    refine wpAnyH_ready (rs := [2]) (by decide +kernel) (by simp) ?_
    refine AllReadyH.cons (o := Oper.mk (some 27) _ _ _ _ _) rfl (fun K hK => ?_) AllReadyH.nil
    go_simp
    clear hHeld
    refine hK.out _ _ (by (try dsimp only); exact KS.out _ (Below.refl _ _).drew) (fun hHeld => ?_)
    clear hK K
    (try simp only [Act.put, List.setIfInBounds_toArray, List.set_cons_zero, List.set_cons_succ])
    refine wpAnyH_ready (rs := [4]) (by decide +kernel) (by simp) ?_
    refine AllReadyH.cons (o := Oper.mk (some 29) _ _ _ _ _) rfl (fun K hK => ?_) AllReadyH.nil
    go_simp
    (go_at_call 47; refine (HT.out _).mono ?_; rintro e w4 ⟨rfl, hb4'⟩; have hb4 : Below W.heap.size W w4 := bnextM (B := 0) (Below.refl _ _).drew hb4'; have k0 : w4.cell? ⟨w1.heap.size, 0, none⟩ = some (.int .u64 v) := (hb4.cell (p := ⟨w1.heap.size, 0, none⟩) (cell_lt HK.out.1)).trans HK.out.1; have k1 : w4.frozen? ⟨w1.heap.size, 0, none⟩ = false := (hb4.frozen (p := ⟨w1.heap.size, 0, none⟩) (cell_lt HK.out.1)).trans HK.out.2.1; clear hb4')
    (try go_wp2_with fail)
    clear hHeld
    refine hK.out _ _ (by (try dsimp only); exact KS.out _ (hb4.mono HG.out.1)) (fun hHeld => ?_)
    clear hK K
    (try simp only [Act.put, List.setIfInBounds_toArray, List.set_cons_zero, List.set_cons_succ])
    refine wpAnyH_ready (rs := [6]) (by decide +kernel) (by simp) ?_
    refine AllReadyH.cons (o := Oper.mk (some 31) _ _ _ _ _) rfl (fun K hK => ?_) AllReadyH.nil
    go_simp
    (go_at_call 46; refine (HPL.out _).mono ?_; rintro e w5 ⟨rfl, hw5⟩; replace hw5 := hw5.symm; subst hw5)
    (try go_wp2_with fail)
    clear hHeld
    refine hK.out _ _ (by (try dsimp only); exact KS.out _ (hb4.mono HG.out.1)) (fun hHeld => ?_)
    clear hK K
    (try simp only [Act.put, List.setIfInBounds_toArray, List.set_cons_zero, List.set_cons_succ])
    refine wpAnyH_ready (rs := [7]) (by decide +kernel) (by simp) ?_
    refine AllReadyH.cons (o := Oper.mk none _ _ _ _ _) rfl (fun K hK => ?_) AllReadyH.nil
    go_simp
    clear hHeld
    refine hK.out _ _ (by (try dsimp only); exact KS.out _ ((hb4.mono HG.out.1).setCell (p := ⟨w1.heap.size, 0, none⟩) (Nat.le_refl _) _)) (fun hHeld => ?_)
    clear hK K
    (try simp only [Act.put, List.setIfInBounds_toArray, List.set_cons_zero, List.set_cons_succ])
    refine wpAnyH_done (by decide +kernel) ?_ _
    refine NoPanic.normal ?_
    refine ⟨(KeepsOthers.ofBelow hb4).trans (KeepsOthers.setCell _ _ _), fun k h1 h2 => ?_, ⟨by rw [HZ.out]; exact World.cell?_setCell_same' _ _ _ (by rw [k0]; rfl), by rw [World.frozen?_setCell]; exact k1, (KS.out _ ((hb4.mono HG.out.1).setCell (p := ⟨w1.heap.size, 0, none⟩) (Nat.le_refl _) _)).1, (KS.out _ ((hb4.mono HG.out.1).setCell (p := ⟨w1.heap.size, 0, none⟩) (Nat.le_refl _) _)).2, ?_⟩, (bnextM (B := 0) HK.out.2.2.2.2 hb4).setCell (p := ⟨w1.heap.size, 0, none⟩) hgW.out.1 _⟩
    · rw [Below.heap_setCell _ _ _ _ h2]
      exact hb4.block k (by have := HG.out.2; omega)
    · rw [World.cell?_setCell_other _ _ _ _ (fun e => by have := congrArg Addr.block e; simp at this)]
      exact (hb4.cell (p := ⟨w1.heap.size + 1, 0, none⟩) (cell_lt hbx)).trans hbx
  case done =>
    rintro D ys W hD rfl ⟨⟨hcv, hfv, hcc, hcp, hbx⟩, hB⟩ hK
    rw [hfoldM_all] at hcv
    gi_wp2
    refine ⟨by simp, .inl ⟨_, _, rfl, run_takeDeferred hK, ?_⟩⟩
    refine ⟨.tuple #[.int .u64 (horM p c f), .int .i64 0], by simp [results, Tryd.results16, go_sem], rfl, hB.trans (belowK_b (w := w) (Nat.le_refl _) W D _ _ (by have := HBY.out.size; omega) hK rfl rfl)⟩
  case stop =>
    rintro D cc pre W _ _ h _
    exact h.elim
end Go.Proofs.YtnniipekcbjloaaDoor
/-
  MN: ModPowers' walk.
-/
namespace Go.Proofs.YtnniipekcbjloaaDoor
open Go.RowKit Go.Shelf
set_option linter.unusedVariables false
set_option linter.unusedSimpArgs false
/-- the cells of the law's variable -/
theorem sixcells {w : World} {b : Nat} {v0 v1 v2 v3 v4 v5 : Value} (h : ∀ j v, [v0, v1, v2, v3, v4, v5][j]? = some v → w.cell? ⟨b, j, none⟩ = some v) :
    w.cell? ⟨b, 0, none⟩ = some v0 ∧ w.cell? ⟨b, 1, none⟩ = some v1 ∧ w.cell? ⟨b, 2, none⟩ = some v2 ∧ w.cell? ⟨b, 3, none⟩ = some v3 ∧ w.cell? ⟨b, 4, none⟩ = some v4 ∧ w.cell? ⟨b, 5, none⟩ = some v5 :=
  ⟨h 0 _ rfl, h 1 _ rfl, h 2 _ rfl, h 3 _ rfl, h 4 _ rfl, h 5 _ rfl⟩
theorem newcells (w : World) (b : Nat) (vs : List Value) (t : TypeId) (hb : b = w.heap.size) (w' : World) (h : Below (w.alloc (.cells vs.toArray t)).heap.size (w.alloc (.cells vs.toArray t)) w') : ∀ j v, vs[j]? = some v → w'.cell? ⟨b, j, none⟩ = some v := fun j v hj => by
  subst hb
  rw [h.cell (p := ⟨w.heap.size, j, none⟩) (by simp)]
  simpa [go_sem] using hj
theorem rows2 {w : World} {ao bo : Option Addr} {la ca lb cb : Nat} {x y : List Int} (hx : RowAt w .u64 ao la ca x ∧ Wd 18446744073709551616 x ∧ la ≤ 9223372036854775807) (hy : RowAt w .u64 bo lb cb y ∧ Wd 18446744073709551616 y ∧ lb ≤ 9223372036854775807) (t : TypeId) :
    RowsAt (w.alloc (.cells #[.slice ao la ca, .slice bo lb cb] t)) w.heap.size 2 (fun t => if t = 0 then ao else bo) (fun t => if t = 0 then la else lb) (fun t => if t = 0 then ca else cb) (fun t => if t = 0 then x else y) := by
  have hb : Below w.heap.size w (w.alloc (.cells #[.slice ao la ca, .slice bo lb cb] t)) := (Below.refl _ _).alloc (Nat.le_refl _) _
  constructor
  · intro t ht
    by_cases h : t = 0
    · subst h; simp [go_sem]
    · obtain rfl : t = 1 := by omega
      simp [go_sem]
  · intro t ht
    by_cases h : t = 0
    · subst h; exact hx.1.later hb
    · simp only [if_neg h]; exact hy.1.later hb
  · intro t ht
    by_cases h : t = 0
    · subst h; exact hx.2.1
    · simp only [if_neg h]; exact hy.2.1
  · intro t ht
    by_cases h : t = 0
    · subst h; exact hx.2.2
    · simp only [if_neg h]; exact hy.2.2
/-- what is left of a power, as the law holds it -/
def PowA (p : Int) (g : List Int) (w : World) (o : Option Addr) (l c : Nat) (r : List Int) (A : Int → Int) : Prop := GoodF p w o l c r ∧ r.length < g.length ∧ Md p g (fun x => ev r x) A
theorem PowA.later {p : Int} {g : List Int} {w w' : World} {o : Option Addr} {l c : Nat} {r : List Int} {A : Int → Int} (h : PowA p g w o l c r A) (hb : Below w.heap.size w w') : PowA p g w' o l c r A := ⟨h.1.later hb, h.2⟩
end Go.Proofs.YtnniipekcbjloaaDoor
/-
  Walks: poly's product, in memory of its own.
-/
namespace Go.Proofs.YtnniipekcbjloaaDoor
open Go.RowKit
set_option linter.unusedVariables false
set_option linter.unusedSimpArgs false
theorem PMulSt.skip {p s l : List Int} {i : Nat} (h : PMulSt p s i 0 l) (hi : i < p.length) (h0 : dig p i = 0) : PMulSt p s (i + 1) 0 l := by
  refine ⟨h.1, fun x => ?_⟩
  rw [h.2 x, ev_take _ _ _ hi, h0]
  simp [ev]
end Go.Proofs.YtnniipekcbjloaaDoor
/-
  Walks: poly's faces, of whatever is handed in.
-/
namespace Go.Proofs.YtnniipekcbjloaaDoor
open Go.RowKit
set_option linter.unusedVariables false
set_option linter.unusedSimpArgs false
/-- what is handed in: m tells whether it is a polynomial -/
structure PArg (w : World) (ao : Option Addr) (len cap : Nat) (rs : List (Bool × List Int)) (m : Bool) (p : List Int) : Prop where
  raws : RawsAt w ao len cap rs
  short : len ≤ 11
  lims : ∀ t, (rv rs t).2.length ≤ 3
  may : pmayB len rs = m
  good : m = true → PolyAt w ao len cap p ∧ Lead p ∧ Lim 3 p
theorem PArg.later {w w' : World} {ao : Option Addr} {len cap : Nat} {rs : List (Bool × List Int)} {m : Bool} {p : List Int} (h : PArg w ao len cap rs m p) (hb : Below w.heap.size w w') : PArg w' ao len cap rs m p :=
  ⟨h.raws.later hb, h.short, h.lims, h.may, fun e => ⟨(h.good e).1.later hb, (h.good e).2⟩⟩
end Go.Proofs.YtnniipekcbjloaaDoor
/-
  Walks: copies and equality of lists, answers written over.
-/
namespace Go.Proofs.YtnniipekcbjloaaDoor
open Go.RowKit
set_option linter.unusedVariables false
set_option linter.unusedSimpArgs false
theorem add_none2 (g j : Nat) : (⟨g, 0, none⟩ : Addr).add j = ⟨g, j, none⟩ := by simp [Addr.add]; intro h; exact h.symm
/-- a list whose numbers are being written over -/
structure SpP (B : Nat) (w : World) (g : Nat) (p : List Int) (k : Nat) : Prop where
  soft : ∀ j, w.frozen? ⟨g, j, none⟩ = false
  coef : ∀ t, k ≤ t → t < p.length → CoefO B w g (t * 2) (dig p t)
  apart : ∀ s t, k ≤ s → k ≤ t → s < p.length → t < p.length → s ≠ t → ∀ (a b : Addr) (l l' c c' : Nat), w.cell? ⟨g, s * 2 + 1, none⟩ = some (.slice (some a) l c) → w.cell? ⟨g, t * 2 + 1, none⟩ = some (.slice (some b) l' c') → a.block ≠ b.block
  away : ∀ t, k ≤ t → t < p.length → ∀ (a : Addr) (l c : Nat), w.cell? ⟨g, t * 2 + 1, none⟩ = some (.slice (some a) l c) → a.block ≠ g
  there : ∀ j, j < p.length * 2 → ∃ u, w.cell? ⟨g, j, none⟩ = some u
theorem SpP.step {B : Nat} {w w1 : World} {g k l c : Nat} {p : List Int} {ao : Option Addr} {x y : Value} (h : SpP B w g p k) (hk : k < p.length) (hc : w.cell? ⟨g, k * 2 + 1, none⟩ = some (.slice ao l c)) (hs : Stay ao w w1) (hg : g < w.heap.size) : SpP B ((w1.setCell ⟨g, k * 2, none⟩ x).setCell ⟨g, k * 2 + 1, none⟩ y) g p (k + 1) := by
  have hng : ∀ a : Addr, ao = some a → a.block ≠ g := fun a ha => by subst ha; exact h.away k (Nat.le_refl _) hk a l c hc
  have e1 : ∀ j, w1.cell? ⟨g, j, none⟩ = w.cell? ⟨g, j, none⟩ := fun j => hs.cell hg hng
  have e2 : ∀ t, k + 1 ≤ t → ∀ i, i < 2 → ((w1.setCell ⟨g, k * 2, none⟩ x).setCell ⟨g, k * 2 + 1, none⟩ y).cell? ⟨g, t * 2 + i, none⟩ = w.cell? ⟨g, t * 2 + i, none⟩ := fun t ht i hi => by
    rw [setCell_ne (by rintro ⟨_, h⟩; simp only at h; omega), setCell_ne (by rintro ⟨_, h⟩; simp only at h; omega), e1]
  refine ⟨fun j => by rw [soft_far, soft_far, hs.frozen hg hng]; exact h.soft j, fun t ht htl => ?_, fun s t hs' ht hsl htl hn a b l l' c c' q1 q2 => h.apart s t (by omega) (by omega) hsl htl hn a b l l' c c' (by rw [← e2 s hs' 1 (by omega)]; exact q1) (by rw [← e2 t ht 1 (by omega)]; exact q2), fun t ht htl a l c q => h.away t (by omega) htl a l c (by rw [← e2 t ht 1 (by omega)]; exact q), fun j hj => ?_⟩
  · obtain ⟨n, bo, l', c', ⟨q0, q1⟩, q2, ho⟩ := h.coef t (by omega) htl
    refine ⟨n, bo, l', c', ⟨(e2 t ht 0 (by omega)).trans q0, by rw [e2 t ht 1 (by omega)]; exact q1⟩, q2, ?_⟩
    rcases ho with ho | ⟨g', off, cur, r1, r2, r3, r4⟩
    · exact Or.inl ho
    · refine Or.inr ⟨g', off, cur, r1, r2, ?_, r4⟩
      have hne : g' ≠ g := by subst r1; exact h.away t (by omega) htl _ _ _ q1
      rw [Below.heap_setCell _ ⟨g, k * 2 + 1, none⟩ y _ hne, Below.heap_setCell _ ⟨g, k * 2, none⟩ x _ hne]
      rw [hs.block g' (heap_lt r3) ?_]
      · exact r3
      · intro a ha
        subst ha
        subst r1
        exact h.apart k t (Nat.le_refl _) (by omega) hk htl (by omega) _ _ _ _ _ _ hc q1
  · obtain ⟨u, hu⟩ := h.there j hj
    obtain ⟨u0, hu0⟩ := h.there (k * 2) (by omega)
    obtain ⟨u1, hu1⟩ := h.there (k * 2 + 1) (by omega)
    rw [← e1] at hu hu0 hu1
    by_cases q1 : j = k * 2 + 1
    · subst q1; exact ⟨y, by simp [go_sem, hu0, hu1]⟩
    · by_cases q0 : j = k * 2
      · subst q0; exact ⟨x, by simp [go_sem, hu0, hu1]⟩
      · exact ⟨u, by rw [setCell_ne (by rintro ⟨_, h⟩; simp only at h; omega), setCell_ne (by rintro ⟨_, h⟩; simp only at h; omega)]; exact hu⟩
theorem SpP.olds {B : Nat} {w : World} {g n k : Nat} {p : List Int} (h : SpP B w g p k) (hn : n = p.length) : ∃ olds : List Value, olds.length = n * 2 ∧ ∀ j u, olds[j]? = some u → w.cell? ⟨g, j, none⟩ = some u := by
  subst hn
  refine ⟨(List.range (p.length * 2)).map fun j => (w.cell? ⟨g, j, none⟩).getD undef, by simp, fun j u hj => ?_⟩
  rw [List.getElem?_map] at hj
  by_cases hl : j < p.length * 2
  · rw [List.getElem?_range hl] at hj
    obtain ⟨z, hz⟩ := h.there j hl
    simp only [Option.map_some, hz, Option.getD_some, Option.some.injEq] at hj
    rw [hz, hj]
  · rw [List.getElem?_eq_none (by simpa using hl)] at hj
    cases hj
theorem SpP.later {B : Nat} {w w' : World} {g k : Nat} {p : List Int} (h : SpP B w g p k) (hb : Below w.heap.size w w') (hg : g < w.heap.size) (hk : p.length ≤ k) : SpP B w' g p k :=
  ⟨fun j => (hb.frozen (p := ⟨g, j, none⟩) hg).trans (h.soft j), fun t h1 h2 => absurd h2 (by omega), fun s t h1 _ h2 => absurd h2 (by omega), fun t h1 h2 => absurd h2 (by omega), fun j hj => by
    obtain ⟨u, hu⟩ := h.there j hj
    exact ⟨u, (hb.cell (p := ⟨g, j, none⟩) hg).trans hu⟩⟩
end Go.Proofs.YtnniipekcbjloaaDoor
/-
  Walks: the law's own small ones: what is too heavy, what is one and two, is, wakes.
-/
namespace Go.Proofs.YtnniipekcbjloaaDoor
open Go.RowKit
set_option linter.unusedVariables false
set_option linter.unusedSimpArgs false
/-- the cells of a variable -/
def Cells (w : World) (r : Nat) (vs : List Value) : Prop := ∀ (j : Nat) (u : Value), vs[j]? = some u → w.cell? ⟨r, j, none⟩ = some u
theorem Cells.later {w w' : World} {r : Nat} {vs : List Value} (h : Cells w r vs) (hb : Below w.heap.size w w') (hr : r < w.heap.size) : Cells w' r vs := fun j u hu => (hb.cell (p := ⟨r, j, none⟩) hr).trans (h j u hu)
theorem Cells.new (w : World) (vs : Array Value) (t : TypeId) : Cells (w.alloc (.cells vs t)) w.heap.size vs.toList := fun j u hu => by
  have h := World.news_of_block (cs := vs) (t := t) (fr := (0, 0)) (heap_alloc_new w _) j u hu
  rw [add_none2] at h
  exact h
end Go.Proofs.YtnniipekcbjloaaDoor
/-
  Walks: wakes; what is handed in, off what lies there; the law's items.
-/
namespace Go.Proofs.YtnniipekcbjloaaDoor
open Go.RowKit
set_option linter.unusedVariables false
set_option linter.unusedSimpArgs false
/-- one of the law's items -/
def Item4 (w : World) (b o : Nat) : Prop := ∃ (ao bo co : Option Addr) (la ca lb cb lc cc : Nat) (n n4 n5 n6 : Bool) (o4 p4 o5 p5 o6 p6 : Option Addr) (l4 c4 m4 k4 l5 c5 m5 k5 l6 c6 m6 k6 : Nat) (rs ts : List (Bool × List Int)) (zs : List Int), (∀ (j : Nat) (u : Value), [.slice ao la ca, .slice bo lb cb, .bool n, .slice co lc cc, .bool n4, .slice o4 l4 c4, .slice p4 m4 k4, .bool n5, .slice o5 l5 c5, .slice p5 m5 k5, .bool n6, .slice o6 l6 c6, .slice p6 m6 k6][j]? = some u → w.cell? ⟨b, o + j, none⟩ = some u) ∧ RawsAt w ao la ca rs ∧ RawsAt w bo lb cb ts ∧ RowAt w .u64 co lc cc zs ∧ Wd 18446744073709551616 zs ∧ ca ≤ 9223372036854775807 ∧ cb ≤ 9223372036854775807
theorem Item4.elim {w : World} {b o : Nat} {P : Prop} (h : Item4 w b o) (k : ∀ (ao bo co : Option Addr) (la ca lb cb lc cc : Nat) (n n4 n5 n6 : Bool) (o4 p4 o5 p5 o6 p6 : Option Addr) (l4 c4 m4 k4 l5 c5 m5 k5 l6 c6 m6 k6 : Nat) (rs ts : List (Bool × List Int)) (zs : List Int), (∀ (j : Nat) (u : Value), [.slice ao la ca, .slice bo lb cb, .bool n, .slice co lc cc, .bool n4, .slice o4 l4 c4, .slice p4 m4 k4, .bool n5, .slice o5 l5 c5, .slice p5 m5 k5, .bool n6, .slice o6 l6 c6, .slice p6 m6 k6][j]? = some u → w.cell? ⟨b, o + j, none⟩ = some u) ∧ RawsAt w ao la ca rs ∧ RawsAt w bo lb cb ts ∧ RowAt w .u64 co lc cc zs ∧ Wd 18446744073709551616 zs ∧ ca ≤ 9223372036854775807 ∧ cb ≤ 9223372036854775807 → P) : P := by
  obtain ⟨ao, bo, co, la, ca, lb, cb, lc, cc, n, n4, n5, n6, o4, p4, o5, p5, o6, p6, l4, c4, m4, k4, l5, c5, m5, k5, l6, c6, m6, k6, rs, ts, zs, h⟩ := h
  exact k ao bo co la ca lb cb lc cc n n4 n5 n6 o4 p4 o5 p5 o6 p6 l4 c4 m4 k4 l5 c5 m5 k5 l6 c6 m6 k6 rs ts zs h
end Go.Proofs.YtnniipekcbjloaaDoor
/-
  What is read of a list of pairs of numbers.
-/
namespace Go.Proofs.YtnniipekcbjloaaDoor
open Go.RowKit Go.ChangeShapes Go.WideShapes Go.ChangeAt
set_option linter.unusedVariables false
set_option linter.unusedSimpArgs false
theorem cells_int : Tryd.prog.cellsOf 65 = 2 := by kernel_rfl
theorem cells_bool : Tryd.prog.cellsOf 4 = 1 := by kernel_rfl
theorem cells_nat : Tryd.prog.cellsOf 63 = 1 := by kernel_rfl
theorem cells_u64 : Tryd.prog.cellsOf 25 = 1 := by kernel_rfl
theorem add_off {b off j : Nat} : Addr.add ⟨b, off, none⟩ j = ⟨b, off + j, none⟩ := by
  by_cases h0 : j = 0
  · subst h0; simp [Addr.add]
  · simp [Addr.add, h0]
/-- words, off a reading -/
theorem row_of_trod {H : Type} {enc : TypeId × Value → H} {W : World} {fuel : Nat} {v : Value} {x : DataW H × List MemPlace} (h : DataW.trod enc Tryd.prog W 0 (fun _ => true) true fuel 63 [v] = some x) :
    ∃ ao len cap zs, v = .slice ao len cap ∧ RowAt W .u64 ao len cap zs ∧ Wd 18446744073709551616 zs ∧ cap ≤ 9223372036854775807 := by
  rcases open_ints Tryd.underlying63 Tryd.underlying25 cells_u64 h with ⟨hcs, _⟩ | ⟨a, len, cap, zs, hcs, _, hl, hm, hz, _, hcell, hwz⟩
  · simp at hcs; subst hcs
    exact ⟨none, 0, 0, [], rfl, RowAt.nilRow W .u64, Wd.nil _, by decide⟩
  · simp at hcs; subst hcs
    simp only [if_true] at hz
    refine ⟨some a, len, cap, zs.take len, rfl, ⟨by simp; omega, hl, fun e => (by cases e), ?_⟩, ?_, hm⟩
    · by_cases h0 : len = 0
      · exact Or.inl h0
      · right
        obtain ⟨b, off, spot⟩ := a
        have hs : spot = none := by simpa [Addr.add] using World.cell?_spot (hcell 0 (by omega))
        subst hs
        refine ⟨b, off, rfl, ?_, fun t ht => ?_⟩
        · have := hcell 0 (by omega)
          rw [add_off] at this; exact cell_lt this
        · have := hcell t (by omega)
          rw [add_off] at this
          rw [dig_take ht]; exact this
    · intro z hz'
      have := bounds_u64 (hwz z (List.mem_of_mem_take hz'))
      omega
/-- a sign and words, off a reading -/
theorem int_of_trod {H : Type} {enc : TypeId × Value → H} {W : World} {fuel : Nat} {c0 c1 : Value} {x : DataW H × List MemPlace} (h : DataW.trod enc Tryd.prog W 0 (fun _ => true) true fuel 65 [c0, c1] = some x) :
    ∃ neg ao len cap zs, c0 = .bool neg ∧ c1 = .slice ao len cap ∧ RowAt W .u64 ao len cap zs ∧ Wd 18446744073709551616 zs ∧ cap ≤ 9223372036854775807 := by
  obtain ⟨y0, y1, n, _, _, h0, h1⟩ := trod_struct2 Tryd.underlying65 h
  simp only [cells_bool, cells_nat, List.drop_zero, List.take_succ_cons, List.take_zero, List.drop_succ_cons] at h0 h1
  obtain ⟨neg, hb, _⟩ := DataW.trod_bool Tryd.underlying4 h0
  simp at hb
  obtain ⟨ao, len, cap, zs, hv, hr, hw, hc⟩ := row_of_trod h1
  exact ⟨neg, ao, len, cap, zs, hb, hv, hr, hw, hc⟩
theorem own : ownKnob Tryd.prog.godebug = none := by kernel_rfl
end Go.Proofs.YtnniipekcbjloaaDoor
/-
  What is read of a list of the law's items. (gen/uo.py)
-/
namespace Go.Proofs.YtnniipekcbjloaaDoor
open Go.RowKit Go.ChangeShapes Go.WideShapes Go.ChangeAt
set_option linter.unusedVariables false
set_option linter.unusedSimpArgs false
/-- a list of signs and words, off a reading -/
theorem raws4_of_trod {H : Type} {enc : TypeId × Value → H} {W : World} {fuel : Nat} {v : Value} {x : DataW H × List MemPlace} (h : DataW.trod enc Tryd.prog W 0 (fun _ => true) true fuel 27 [v] = some x) :
    ∃ ao len cap rs, v = .slice ao len cap ∧ RawsAt W ao len cap rs ∧ cap ≤ 9223372036854775807 := by
  rcases Go.Deep.open_slice Tryd.underlying27 h with ⟨hcs, _⟩ | ⟨a, l, c, m, n, D, Pl, hcs, _, hl, hm, hmm, _, hx⟩
  · simp at hcs; subst hcs
    exact ⟨none, 0, 0, [], rfl, ⟨rfl, Nat.le_refl _, fun _ => rfl, Or.inl rfl⟩, by decide⟩
  · simp at hcs; subst hcs
    simp only [if_true] at hmm
    simp only [cells_int] at hx
    by_cases h0 : l = 0
    · subst h0
      exact ⟨some a, 0, c, [], rfl, ⟨rfl, Nat.zero_le _, fun e => (by cases e), Or.inl rfl⟩, hm⟩
    · obtain ⟨b, off, spot⟩ := a
      have hs : spot = none := by
        obtain ⟨cs0, hcells0, _⟩ := hx 0 (by omega)
        obtain ⟨_, hlen0, hc0⟩ := World.cells?_some hcells0
        have h1 := hc0 0 (by omega)
        rw [List.getElem?_eq_getElem (by omega)] at h1
        simpa [Addr.add] using World.cell?_spot h1
      subst hs
      have hv : ∀ t, ∃ r : Bool × List Int, t < l → RawAt W b (off + t * 2) r.1 r.2 := by
        intro t
        by_cases ht : t < l
        · obtain ⟨cs, hcells, htr⟩ := hx t (by omega)
          obtain ⟨_, hlen, hc⟩ := World.cells?_some hcells
          match cs, hlen with
          | [v0, v1], _ =>
            obtain ⟨neg, ao, la, ca, zs, rfl, rfl, hr, hw, _⟩ := int_of_trod htr
            have g : ∀ j, j < 2 → W.cell? ⟨b, off + t * 2 + j, none⟩ = [Value.bool neg, .slice ao la ca][j]? := by
              intro j hj
              have := hc j hj
              rw [add_off, add_off] at this; exact this
            exact ⟨(neg, zs), fun _ => ⟨ao, la, ca, ⟨g 0 (by omega), g 1 (by omega)⟩, hr, hw⟩⟩
        · exact ⟨(false, []), fun h => absurd h ht⟩
      refine ⟨some ⟨b, off, none⟩, l, c, (List.range l).map fun t => Classical.choose (hv t), rfl, ⟨by simp, hl, fun e => (by cases e), Or.inr ⟨b, off, rfl, fun t ht => ?_⟩⟩, hm⟩
      have ht' : t < l := by simpa using ht
      have e : ((List.range l).map fun t => Classical.choose (hv t))[t] = Classical.choose (hv t) := by simp
      rw [e]
      exact Classical.choose_spec (hv t) ht'
end Go.Proofs.YtnniipekcbjloaaDoor
/-
  PY: walks: modp's faces with what they refuse, in one form; the law's forms, copies, comparing; its items with their polynomials, off a reading.
-/
namespace Go.Proofs.YtnniipekcbjloaaDoor
open Go.RowKit Go.Shelf
set_option linter.unusedVariables false
set_option linter.unusedSimpArgs false
/-- the error that tells whether Q -/
def condC (c : Int) (Q : Prop) : Prop := (Q ∧ c = 0) ∨ (¬ Q ∧ c = 90)
theorem condC.ex (Q : Prop) : ∃ c, condC c Q := by
  by_cases h : Q
  · exact ⟨0, Or.inl ⟨h, rfl⟩⟩
  · exact ⟨90, Or.inr ⟨h, rfl⟩⟩
theorem condC.or {c : Int} {Q : Prop} (h : condC c Q) : c = 0 ∨ c = 90 := h.imp And.right And.right
theorem condC.yes {c : Int} {Q : Prop} (h : condC c Q) (e : c = 0) : Q := by
  rcases h with h | h
  · exact h.1
  · rw [h.2] at e; cases e
theorem condC.zero {c : Int} {Q : Prop} (h : condC c Q) (k : Q) : c = 0 := by
  rcases h with h | h
  · exact h.2
  · exact absurd k h.1
/-- a face's answer: the error c, and a row of its own where that is none -/
def AnsF (w w' : World) (e : Ending) (c : Int) (P : List Int → Prop) : Prop :=
  ∃ o l k, e = .returned (.tuple #[.slice o l k, .int .i64 c]) ∧ (c = 90 → o = none ∧ l = 0 ∧ k = 0) ∧ (c = 0 → ∃ zs, Own w.heap.size w' .u64 25 o l k zs ∧ P zs ∧ l ≤ 4194304) ∧ Below w.heap.size w w'
theorem AnsF.ok {w w' : World} {e : Ending} {P R : List Int → Prop} (h : FaceF w w' e P) (hR : ∀ z, P z → R z) : AnsF w w' e 0 R := by
  obtain ⟨o, l, k, zs, he, ho, hp, hk, hb⟩ := h
  exact ⟨o, l, k, he, fun h => (by cases h), fun _ => ⟨zs, ho, hR zs hp, Nat.le_trans ho.row.hcap hk⟩, hb⟩
theorem AnsF.ok2 {w w' : World} {e : Ending} {R : List Int → Prop} (h : ∃ o l k zs, e = .returned (.tuple #[.slice o l k, .int .i64 0]) ∧ Own w.heap.size w' .u64 25 o l k zs ∧ R zs ∧ l ≤ 4194304 ∧ Below w.heap.size w w') : AnsF w w' e 0 R := by
  obtain ⟨o, l, k, zs, he, ho, hp, hk, hb⟩ := h
  exact ⟨o, l, k, he, fun h => (by cases h), fun _ => ⟨zs, ho, hp, hk⟩, hb⟩
theorem AnsF.no {w w' : World} {e : Ending} {R : List Int → Prop} (h : e = .returned (.tuple #[.slice none 0 0, .int .i64 90]) ∧ Below w.heap.size w w') : AnsF w w' e 90 R :=
  ⟨none, 0, 0, h.1, fun _ => ⟨rfl, rfl, rfl⟩, fun h => (by cases h), h.2⟩
/-- two raw rows, a number, and the table -/
def Raw2 (p : Int) (w : World) (ao bo : Option Addr) (la ca lb cb : Nat) (f g : List Int) : Prop := (0 ≤ p ∧ p < 18446744073709551616) ∧ TabAt 0 Lib.deBruijn64tab w ∧ RawF w ao la ca f ∧ RawF w bo lb cb g
theorem Raw2.good {p : Int} {w : World} {ao bo : Option Addr} {la ca lb cb : Nat} {f g : List Int} (h : Raw2 p w ao bo la ca lb cb f g) (k : okF p la f ∧ okF p lb g) : Good2 p w ao bo la ca lb cb f g := ⟨⟨k.1.1.1, k.1.1.2, h.2.1⟩, h.2.2.1.good k.1, h.2.2.2.good k.2⟩
theorem mcheck_c (p c : Int) (ao bo : Option Addr) (la ca lb cb : Nat) (f g : List Int) (w : World) (h : Raw2 p w ao bo la ca lb cb f g) (hc : condC c (okF p la f)) :
    Calls Tryd.prog 18 #[.slice ao la ca, .int .u64 p] w fun e w' => e = .returned (.int .i64 c) ∧ Below w.heap.size w w' := by
  rcases hc with ⟨k, rfl⟩ | ⟨k, rfl⟩
  · exact mcheck_any p ao la ca f w ⟨k.1.1, k.1.2, h.2.1⟩ (h.2.2.1.good k)
  · exact mcheck_no p ao la ca f w h.1 h.2.1 h.2.2.1 k
theorem mAdd_c (p c : Int) (ao bo : Option Addr) (la ca lb cb : Nat) (f g : List Int) (w : World) (h : Raw2 p w ao bo la ca lb cb f g) (hc : condC c (okF p la f ∧ okF p lb g)) :
    Calls Tryd.prog 19 #[.slice ao la ca, .slice bo lb cb, .int .u64 p] w fun e w' => AnsF w w' e c fun z => Pm p z ∧ EqM p (fun x => ev z x) (fun x => ev f x + ev g x) := by
  rcases hc with ⟨k, rfl⟩ | ⟨k, rfl⟩
  · exact (mAdd_any p ao bo la ca lb cb f g w (h.good k)).mono fun e w' hf => AnsF.ok hf fun z hz => ⟨hz.1, hz.2.1⟩
  · exact (mAdd_no p ao bo la ca lb cb f g w h.1 h.2.1 h.2.2.1 h.2.2.2 k).mono fun e w' hf => AnsF.no hf
theorem mSub_c (p c : Int) (ao bo : Option Addr) (la ca lb cb : Nat) (f g : List Int) (w : World) (h : Raw2 p w ao bo la ca lb cb f g) (hc : condC c (okF p la f ∧ okF p lb g)) :
    Calls Tryd.prog 21 #[.slice ao la ca, .slice bo lb cb, .int .u64 p] w fun e w' => AnsF w w' e c fun z => Pm p z ∧ EqM p (fun x => ev z x) (fun x => ev f x - ev g x) := by
  rcases hc with ⟨k, rfl⟩ | ⟨k, rfl⟩
  · exact (mSub_any p ao bo la ca lb cb f g w (h.good k)).mono fun e w' hf => AnsF.ok hf fun z hz => ⟨hz.1, hz.2.1⟩
  · exact (mSub_no p ao bo la ca lb cb f g w h.1 h.2.1 h.2.2.1 h.2.2.2 k).mono fun e w' hf => AnsF.no hf
theorem mMul_c (p c : Int) (ao bo : Option Addr) (la ca lb cb : Nat) (f g : List Int) (w : World) (h : Raw2 p w ao bo la ca lb cb f g) (hl : la + lb ≤ 1026) (hc : condC c (okF p la f ∧ okF p lb g)) :
    Calls Tryd.prog 22 #[.slice ao la ca, .slice bo lb cb, .int .u64 p] w fun e w' => AnsF w w' e c fun z => z = prodL p f g := by
  rcases hc with ⟨k, rfl⟩ | ⟨k, rfl⟩
  · exact (mMul_any p ao bo la ca lb cb f g w (h.good k) hl).mono fun e w' hf => AnsF.ok hf fun z hz => hz
  · exact (mMul_no p ao bo la ca lb cb f g w h.1 h.2.1 h.2.2.1 h.2.2.2 k).mono fun e w' hf => AnsF.no hf
theorem mDer_c (p c : Int) (ao bo : Option Addr) (la ca lb cb : Nat) (f g : List Int) (w : World) (h : Raw2 p w ao bo la ca lb cb f g) (hc : condC c (okF p la f)) :
    Calls Tryd.prog 23 #[.slice ao la ca, .int .u64 p] w fun e w' => AnsF w w' e c fun z => TrimOf z (derM p f) := by
  rcases hc with ⟨k, rfl⟩ | ⟨k, rfl⟩
  · exact (mDer_any p ao la ca f w ⟨k.1.1, k.1.2, h.2.1⟩ (h.2.2.1.good k)).mono fun e w' hf => AnsF.ok2 hf
  · exact (mDer_no p ao la ca f w h.1 h.2.1 h.2.2.1 k).mono fun e w' hf => AnsF.no hf
theorem mMonic_c (p c : Int) (ao bo : Option Addr) (la ca lb cb : Nat) (f g : List Int) (w : World) (h : Raw2 p w ao bo la ca lb cb f g) (hc : condC c (okF p la f)) :
    Calls Tryd.prog 24 #[.slice ao la ca, .int .u64 p] w fun e w' => AnsF w w' e c fun z => z = monL p f := by
  rcases hc with ⟨k, rfl⟩ | ⟨k, rfl⟩
  · exact (mMonic_any p ao la ca f w ⟨k.1.1, k.1.2, h.2.1⟩ (h.2.2.1.good k)).mono fun e w' hf => AnsF.ok hf fun z hz => hz
  · exact (mMonic_no p ao la ca f w h.1 h.2.1 h.2.2.1 k).mono fun e w' hf => AnsF.no hf
set_option maxRecDepth 100000 in
set_option maxHeartbeats 1000000 in
theorem mEval_no (p x : Int) (ao bo : Option Addr) (la ca lb cb : Nat) (f g : List Int) (w : World) (h : Raw2 p w ao bo la ca lb cb f g) (hk : ¬ (okF p la f ∧ x < p)) :
    Calls Tryd.prog 16 #[.slice ao la ca, .int .u64 x, .int .u64 p] w fun e w' => e = .returned (.tuple #[.int .u64 0, .int .i64 90]) ∧ Below w.heap.size w w' := by
  obtain ⟨c1, hc1⟩ := condC.ex (okF p la f)
  have HC : Hid (∀ W, Below w.heap.size w W → Calls Tryd.prog 18 #[.slice ao la ca, .int .u64 p] W fun e w' => e = .returned (.int .i64 c1) ∧ Below W.heap.size W w') := fun W hb => mcheck_c p c1 ao bo la ca lb cb f g W ⟨h.1, mtab_later h.2.1 hb, h.2.2.1.later hb, h.2.2.2.later hb⟩ hc1
  obtain ⟨X, hX⟩ : ∃ X, X = (w.alloc (.cells #[.int .u64 x] 25)).alloc (.cells #[.int .u64 p] 25) := ⟨_, rfl⟩
  have HX : Hid (Below w.heap.size w X ∧ X.cell? ⟨w.heap.size, 0, none⟩ = some (.int .u64 x) ∧ X.cell? ⟨w.heap.size + 1, 0, none⟩ = some (.int .u64 p) ∧ X.heap.size = w.heap.size + 2) := by
    rw [hX]; exact ⟨((Below.refl _ _).alloc (Nat.le_refl _) _).alloc (by simp) _, by simp [go_sem], by simp [go_sem], by simp⟩
  have hle : Hid (c1 = 0 → p ≤ x) := fun e => by
    by_cases hx : x < p
    · exact absurd ⟨hc1.yes e, hx⟩ hk
    · omega
  have hor := hc1.or
  clear h hk hc1
  rcases hor with rfl | rfl
  · have hpx := hle.out rfl
    refine (callsIn_wide (n := 4)).1 ?_
    refine callsIn_of_wp_marks Tryd.func16 rfl trivial ?_ rfl
    simp only [Tryd.ntmps16, List.size_toArray, List.length_cons, List.length_nil, Nat.reduceAdd, Nat.reduceSub, Array.replicate_succ, Array.replicate_zero, List.push_toArray, List.append_toArray, List.nil_append, List.cons_append]
    gi_wp2_with (refine ⟨trivial, ?_⟩; gi_at_call 18; rw [← hX]; refine (callsIn_wide.2 (HC.out X HX.out.1)).mono ?_; rintro e w1 ⟨rfl, hb1⟩; have c0 : w1.cell? ⟨w.heap.size, 0, none⟩ = some (.int .u64 x) := (hb1.cell (p := ⟨w.heap.size, 0, none⟩) (by have := HX.out.2.2.2; show w.heap.size < _; omega)).trans HX.out.2.1; have c1 : w1.cell? ⟨w.heap.size + 1, 0, none⟩ = some (.int .u64 p) := (hb1.cell (p := ⟨w.heap.size + 1, 0, none⟩) (by have := HX.out.2.2.2; show w.heap.size + 1 < _; omega)).trans HX.out.2.2.1)
    exact ⟨.tuple #[.int .u64 0, .int .i64 90], by simp [results, Tryd.results16, go_sem], rfl, bnextM (B := 0) HX.out.1 hb1⟩
  · refine (callsIn_wide (n := 4)).1 ?_
    refine callsIn_of_wp_marks Tryd.func16 rfl trivial ?_ rfl
    simp only [Tryd.ntmps16, List.size_toArray, List.length_cons, List.length_nil, Nat.reduceAdd, Nat.reduceSub, Array.replicate_succ, Array.replicate_zero, List.push_toArray, List.append_toArray, List.nil_append, List.cons_append]
    gi_wp2_with (refine ⟨trivial, ?_⟩; gi_at_call 18; rw [← hX]; refine (callsIn_wide.2 (HC.out X HX.out.1)).mono ?_; rintro e w1 ⟨rfl, hb1⟩)
    exact ⟨.tuple #[.int .u64 0, .int .i64 90], by simp [results, Tryd.results16, go_sem], rfl, bnextM (B := 0) HX.out.1 hb1⟩
end Go.Proofs.YtnniipekcbjloaaDoor
