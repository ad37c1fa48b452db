/-
  Walks: addTimes; a part of a row cleared.
-/
import Derived.Test.YtnodcfeimiimbaaDoorWL
namespace Go.Proofs.YtnodcfeimiimbaaDoor
open Go.RowKit
set_option linter.unusedVariables false
set_option linter.unusedSimpArgs false

theorem zeros_map (k : IntKind) (n : Nat) : (Builtin.zeroCells (Value.int k 0).cells n).toList = (List.replicate n (0 : Int)).map (Value.int k) := by
  simp [Builtin.zeroCells, Value.cells]
  apply List.ext_getElem
  · simp
  · intro i h1 h2
    simp [Nat.mod_one]
theorem touch_setRow {g : Nat} {w : World} (cs : Array Value) : Touch g w (w.setRow g cs) :=
  ⟨rfl, rfl, rfl, by simp [World.setRow], fun k hk => setRow_other w g k cs hk⟩
/-- clear(z), z in a block of the call's own -/
theorem wpList_clear {P : Program} {w : World} {ops : Array Oper} {rest : List Oper} {o : Oper} {a : Act} {Q : Exit → Act → World → Prop} (hgd : o.guard = none) (d : Operand) (dT elem : TypeId)
    (ho : o.op = .call { callee := .builtin .clear, args := #[d], argTypes := #[dT] }) (hu : P.underlying dT = some (.slice elem)) (i : TypeInfo) (k : IntKind) (hi : P.info? elem = some i) (hz : i.zero = some (.int k 0))
    (g off n cap : Nat) (hn : 0 < n) (hd : a.eval d = .slice (some ⟨g, off, none⟩) n cap) (t : TypeId) (L : List Int) (hb : Blk w g k t L) (hfit : off + n ≤ L.length)
    (h : ∀ w', Hid (Blk w' g k t (splice L off (List.replicate n 0)) ∧ Touch g w w') → wpList P ops Q rest (a.put o.dst (.tuple #[])) w') : wpList P ops Q (o :: rest) a w := by
  refine wpList_plain hgd fun K hK => ?_
  have hst := run_storeCells_at P g off t ((List.replicate n (0 : Int)).map (Value.int k)) 0 _ w hb (by simp; omega) (ints_oneCell _ _)
  have hrun : (Builtin.clear_ #[dT] o.type #[.slice (some ⟨g, off, none⟩) n cap]).run P w = .ok (.tuple #[]) (w.setRow g (((L.map (Value.int k)).toArray.toList.take (off + 0) ++ (List.replicate n (0 : Int)).map (Value.int k) ++ (L.map (Value.int k)).toArray.toList.drop (off + 0 + ((List.replicate n (0 : Int)).map (Value.int k)).length)).toArray)) := by
    obtain ⟨m, rfl⟩ : ∃ m, n = m + 1 := ⟨n - 1, by omega⟩
    rw [← zeros_map] at hst ⊢
    simp [Builtin.clear_, run_underlying hu, zeroValue, typeInfo, hi, hz, hst]
  unfold Oper.wp
  simp [execOp, ho, resolve, invoke, builtin, hd, hrun, Result.andThen]
  refine hK _ _ (h _ ⟨?_, touch_setRow _⟩)
  unfold Blk
  rw [setRow_heap w g _ _ t _ hb]
  congr 2
  simp [splice, List.map_append, List.map_take, List.map_drop]

theorem mul64_ex (v u : Int) (hv : 0 ≤ v ∧ v < 18446744073709551616) (hu : 0 ≤ u ∧ u < 18446744073709551616) : ∃ hi lo : Int, (∀ W : World, Calls Tryd.prog 65 #[.int .u64 v, .int .u64 u] W fun e w' => e = .returned (.tuple #[.int .u64 hi, .int .u64 lo]) ∧ w' = W) ∧
    (0 ≤ hi ∧ hi ≤ 18446744073709551614) ∧ (0 ≤ lo ∧ lo < 18446744073709551616) ∧ hi * 18446744073709551616 + lo = v * u := by
  obtain ⟨v, rfl⟩ := Int.eq_ofNat_of_zero_le hv.1
  obtain ⟨u, rfl⟩ := Int.eq_ofNat_of_zero_le hu.1
  refine ⟨_, _, fun W => mul64_any v u W (by omega) (by omega), ?_, by omega, ?_⟩
  · have h : v * u ≤ 18446744073709551615 * 18446744073709551615 := Nat.mul_le_mul (by omega) (by omega)
    omega
  · rw [← Int.natCast_mul]
    have := Nat.div_add_mod (v * u) 18446744073709551616
    omega

/-- the first k digits of x, u times, were added to those of L from off on; c is carried -/
structure MulSt (q : Int) (L x : List Int) (u : Int) (off k : Nat) (c : Int) (Lk : List Int) : Prop where
  len : Lk.length = L.length
  out : ∀ j, j < off ∨ off + k ≤ j → dig Lk j = dig L j
  wd : Wd q Lk
  c0 : 0 ≤ c
  c1 : c < q
  eq : V q Lk off k + c * q ^ k = V q L off k + u * val q (x.take k)
theorem MulSt.start {q : Int} {L x : List Int} {u : Int} (off : Nat) (h : Wd q L) (hq : 0 < q) : MulSt q L x u off 0 0 L :=
  ⟨rfl, fun _ _ => rfl, h, Int.le_refl _, hq, by simp [V_zero, val]⟩
theorem MulSt.step {q : Int} {L x : List Int} {u : Int} {off k : Nat} {c : Int} {Lk : List Int} (h : MulSt q L x u off k c Lk) (hk : off + k < L.length) {d c' : Int} (hd : 0 ≤ d ∧ d < q) (hc : 0 ≤ c' ∧ c' < q)
    (he : d + c' * q = dig L (off + k) + dig x k * u + c) : MulSt q L x u off (k + 1) c' (Lk.set (off + k) d) := by
  have hl : off + k < Lk.length := by rw [h.len]; exact hk
  refine ⟨by simp [h.len], fun j hj => ?_, h.wd.set _ hd, hc.1, hc.2, ?_⟩
  · rw [dig_set _ hl, if_neg (by omega)]; exact h.out j (by omega)
  · have e1 : V q (Lk.set (off + k) d) off k = V q Lk off k := V_congr fun j hj => by rw [dig_set _ hl, if_neg (by omega)]
    rw [V_succ, V_succ, e1, dig_set _ hl, if_pos rfl, val_take_dig, Int.pow_succ]
    have h1 := h.eq
    have e2 : q ^ k * (d + c' * q) = q ^ k * (dig L (off + k) + dig x k * u + c) := by rw [he]
    grind

/-- what addTimes leaves -/
def Timed (w w' : World) (e : Ending) (g off n : Nat) (L xs : List Int) (u : Int) : Prop :=
  ∃ c L', e = .returned (.int .u64 c) ∧ Blk w' g .u64 54 L' ∧ MulSt 18446744073709551616 L xs u off n c L' ∧ Touch g w w'

set_option maxRecDepth 100000 in
set_option maxHeartbeats 1600000 in
theorem addTimes_any (g off n cap : Nat) (bo : Option Addr) (m cb : Nat) (L xs : List Int) (u : Int) (w : World) (hb : Blk w g .u64 54 L) (hW : Wd 18446744073709551616 L) (hn : off + n ≤ L.length) (hnc : n ≤ cap) (hcap : cap ≤ 4611686018427387904)
    (hy : RowAt w .u64 bo m cb xs) (hyW : Wd 18446744073709551616 xs) (hm : m ≤ n) (hap : Apart bo m g off n) (hu : 0 ≤ u ∧ u < 18446744073709551616) :
    Calls Tryd.prog 66 #[.slice (some ⟨g, off, none⟩) n cap, .slice bo m cb, .int .u64 u] w fun e w' => Timed w w' e g off m L xs u := by
  have HH : Hid (Blk w g .u64 54 L ∧ Wd 18446744073709551616 L ∧ off + n ≤ L.length ∧ Wd 18446744073709551616 xs ∧ Apart bo m g off n) := ⟨hb, hW, hn, hyW, hap⟩
  obtain ⟨hu1, hu2⟩ := hu
  clear hb hW hn hyW hap
  go_enter Tryd.func66, Tryd.ntmps66
  go_wp2
  go_loopw [7, 19] (fun c i wr => ∃ (k : Nat) (cv : Int) (Lk : List Int), k ≤ m ∧ i = .int .i64 k ∧ c = .int .u64 cv ∧ MulSt 18446744073709551616 L xs u off k cv Lk ∧ Blk wr g .u64 54 Lk ∧ Touch g w wr) (fun _ i _ => m - (intOf i).toNat)
  case atStart => exact ⟨0, 0, L, Nat.zero_le _, rfl, rfl, MulSt.start off HH.out.2.1 (by decide), HH.out.1, Touch.refl _ _⟩
  case round =>
    obtain ⟨k, cv, Lk, hk, rfl, rfl, hst, hbl, hto⟩ := hrel
    have HS : Hid (MulSt 18446744073709551616 L xs u off k cv Lk ∧ Blk wr g .u64 54 Lk ∧ Touch g w wr) := ⟨hst, hbl, hto⟩
    by_cases hlt : k < m
    · have hyr : RowAt wr .u64 bo m cb xs := row_touch hy HH.out.1 hbl hto HH.out.2.2.2.2 (fun j hj => hst.out j (by omega)) hst.len
      obtain ⟨b', o', rfl, hb', hc'⟩ := hyr.get (by omega)
      have hcy := hc' k hlt
      have hcz := hbl.cell (j := off + k) (by have := hst.len; have := HH.out.2.2.1; omega)
      have hfz := hbl.frozen (off + k)
      have hgs : g < wr.heap.size := hbl.lt
      have bz := hst.wd.dig (by decide) (off + k)
      have bx := HH.out.2.2.2.1.dig (by decide) k
      obtain ⟨z, hz⟩ : ∃ z, dig Lk (off + k) = z := ⟨_, rfl⟩
      obtain ⟨x, hx⟩ : ∃ x, dig xs k = x := ⟨_, rfl⟩
      rw [hz] at hcz bz
      rw [hx] at hcy bx
      obtain ⟨hi, lo, hmul, hhi, hlo, hml⟩ := mul64_ex x u bx ⟨hu1, hu2⟩
      obtain ⟨d1, c1, hrun1, hd1, hc1, he1⟩ := add64_ex lo z 0 hlo bz (by decide) (by decide)
      obtain ⟨d2, c2, hrun2, hd2, hc2, he2⟩ := add64_ex d1 cv 0 hd1 ⟨hst.c0, hst.c1⟩ (by decide) (by decide)
      have HZ : Hid (dig Lk (off + k) = z ∧ dig xs k = x) := ⟨hz, hx⟩
      have htot : x * u ≤ 18446744073709551615 * 18446744073709551615 := Int.mul_le_mul (by omega) (by omega) hu1 (by decide)
      have s1 : hi + c1 ≤ 18446744073709551615 := by omega
      have s2 : hi + c1 + c2 ≤ 18446744073709551615 := by have := hst.c1; omega
      have s0 : 0 ≤ hi + c1 := by omega
      have s3 : 0 ≤ hi + c1 + c2 := by omega
      have HD : Hid ((0 ≤ d2 ∧ d2 < 18446744073709551616) ∧ (0 ≤ hi + c1 + c2 ∧ hi + c1 + c2 < 18446744073709551616) ∧ d2 + (hi + c1 + c2) * 18446744073709551616 = z + x * u + cv) := ⟨hd2, by omega, by omega⟩
      obtain ⟨hhi1, hhi2⟩ := hhi
      obtain ⟨hc11, hc12⟩ := hc1
      obtain ⟨hc21, hc22⟩ := hc2
      clear hd1 hd2 he1 he2 hml hst hbl hto hyr hy hc' hlo bx bz hz hx htot
      go_wp2_with (first | simp only [hrun1] | simp only [hrun2] | (go_at_call 65; refine (hmul _).mono ?_; rintro e w' ⟨rfl, rfl⟩))
      go_roundw
      case rel => exact ⟨k + 1, hi + c1 + c2, Lk.set (off + k) d2, by omega, by go_num, by go_num, HS.out.1.step (by have := HH.out.2.2.1; omega) HD.out.1 HD.out.2.1 (by have := HD.out.2.2; rw [← HZ.out.1, ← HZ.out.2, HS.out.1.out (off + k) (by omega)] at this; exact this), HS.out.2.1.set _ _, HS.out.2.2.set _ _⟩
      case measure => simp [intOf]; omega
    · obtain rfl : k = m := by omega
      clear hst hbl hto hy
      go_wp2
      go_ret
      exact ⟨cv, Lk, rfl, HS.out.2.1, HS.out.1, HS.out.2.2⟩

end Go.Proofs.YtnodcfeimiimbaaDoor
