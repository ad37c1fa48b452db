/-
  Walks: whole.
-/
import Derived.Test.YtafohkcbonlgkaaDoorWD
namespace Go.Proofs.YtafohkcbonlgkaaDoor
open Go.RowKit
set_option linter.unusedVariables false
set_option linter.unusedSimpArgs false

/-- digits two by two -/
def join : List Int → List Int
  | [] => []
  | [a] => [a]
  | a :: b :: r => (a + 4294967296 * b) :: join r
theorem join_val : ∀ ds : List Int, val 18446744073709551616 (join ds) = val 4294967296 ds
  | [] => rfl
  | [a] => by simp [join, val]
  | a :: b :: r => by simp only [join, val, join_val r]; omega
theorem join_wd : ∀ {ds : List Int}, Wd 4294967296 ds → Wd 18446744073709551616 (join ds)
  | [], _ => Wd.nil _
  | [a], h => Wd.one (by have := h.head; omega)
  | a :: b :: r, h => Wd.cons (by have := h.head; have := h.tail.head; omega) (join_wd h.tail.tail)
theorem join_even : ∀ {p : List Int} {k : Nat}, p.length = 2 * k → ∀ s, join (p ++ s) = join p ++ join s
  | [], _, _, s => rfl
  | [a], k, h, s => by simp at h; omega
  | a :: b :: r, k, h, s => by
    have : r.length = 2 * (k - 1) := by simp at h; omega
    simp only [List.cons_append, join, join_even this s]
theorem join_len : ∀ {p : List Int} {k : Nat}, p.length = 2 * k → (join p).length = k
  | [], k, h => by simp at h; simp [join]; omega
  | [a], k, h => by simp at h; omega
  | a :: b :: r, k, h => by
    have : r.length = 2 * (k - 1) := by simp at h; omega
    simp only [join, List.length_cons, join_len this]; simp at h; omega
theorem or_shift (a b : Int) (ha : 0 ≤ a ∧ a < 4294967296) (hb : 0 ≤ b ∧ b < 4294967296) : bits .or .u64 a (b * 4294967296) = a + 4294967296 * b := by
  obtain ⟨a, rfl⟩ := Int.eq_ofNat_of_zero_le ha.1
  obtain ⟨b, rfl⟩ := Int.eq_ofNat_of_zero_le hb.1
  have h := bits_or_u64_nat a (b * 4294967296) (by omega) (by omega)
  have e : a ||| b * 4294967296 = b * 4294967296 + a := by
    have := Nat.shiftLeft_add_eq_or_of_lt (i := 32) (b := a) (by omega) b
    rw [Nat.shiftLeft_eq] at this
    rw [Nat.or_comm]; exact this.symm
  rw [e] at h
  rw [Int.natCast_mul] at h
  refine h.trans ?_
  rw [Int.natCast_add, Int.natCast_mul, Int.add_comm, Int.mul_comm]; rfl

set_option maxRecDepth 100000 in
set_option maxHeartbeats 1000000 in
theorem whole_any (ao : Option Addr) (len cap : Nat) (ds : List Int) (w : World) (hr : RowAt w .u32 ao len cap ds) (hW : Wd 4294967296 ds) (hl : len ≤ 8589934592) (N : Nat) (hN : val 4294967296 ds = N) :
    Calls Tryd.prog 69 #[.slice ao len cap] w fun e w' => NewNat w w' e N := by
  obtain ⟨i0, hi, hz0, hz1, hz2⟩ := info_parts info64
  have HL : Hid (len = ds.length ∧ Wd 4294967296 ds ∧ val 4294967296 ds = N) := ⟨hr.hlen, hW, hN⟩
  clear hW hN
  go_enter Tryd.func69, Tryd.ntmps69
  go_wp2
  go_loopw [3, 4] (fun v i wr => ∃ k : Nat, 2 * k ≤ len + 1 ∧ i = .int .i64 (2 * k : Nat) ∧ wr.ownsRow w.heap.size 67 1 v k ((join (ds.take (2 * k))).map (Value.int .u64)) ∧ Below w.heap.size w wr) (fun _ i _ => len + 1 - (intOf i).toNat)
  case atStart => exact ⟨0, Nat.zero_le _, rfl, World.ownsRow_nil _ _ _ _, Below.refl _ _⟩
  case round =>
    obtain ⟨k, hk, rfl, hown, hbel⟩ := hrel
    obtain ⟨j, hj⟩ : ∃ j, 2 * k = j := ⟨_, rfl⟩
    rw [hj]
    rw [hj] at hk hown
    have HJ : Hid (2 * k = j) := hj
    have hkj : k ≤ j := by omega
    clear hj
    by_cases hlt : j < len
    · obtain ⟨b, off, rfl, hb, hc⟩ := hr.get (by omega)
      have hcell : wr.cell? ⟨b, off + j, none⟩ = some (.int .u32 (dig ds j)) := (hbel.cell (p := ⟨b, off + j, none⟩) hb).trans (hc j hlt)
      obtain ⟨x, hx⟩ : ∃ x, dig ds j = x := ⟨_, rfl⟩
      rw [hx] at hcell
      have hxb : 0 ≤ x ∧ x < 4294967296 := hx ▸ HL.out.2.1.dig (by decide) j
      obtain ⟨hx1, hx2⟩ := hxb
      have hbs : b < wr.heap.size := by have := hbel.size; omega
      have h63 : Hid (k + 1 ≤ maxLen) := by show _ ≤ _; unfold maxLen; omega
      have hby : Hid ((k + 1) * 8 ≤ 140737488355328) := by show _ ≤ _; omega
      have hbz : Hid (w.heap.size ≤ wr.heap.size + 1) := by show _ ≤ _; have := hbel.size; omega
      by_cases hlt2 : j + 1 < len
      · have hcell2 : wr.cell? ⟨b, off + (j + 1), none⟩ = some (.int .u32 (dig ds (j + 1))) := (hbel.cell (p := ⟨b, off + (j + 1), none⟩) hb).trans (hc (j + 1) hlt2)
        obtain ⟨y, hy⟩ : ∃ y, dig ds (j + 1) = y := ⟨_, rfl⟩
        rw [hy] at hcell2
        have hyb : 0 ≤ y ∧ y < 4294967296 := hy ▸ HL.out.2.1.dig (by decide) (j + 1)
        obtain ⟨hy1, hy2⟩ := hyb
        have hor := or_shift x y ⟨hx1, hx2⟩ ⟨hy1, hy2⟩
        clear hc
        have HX : Hid ((join (ds.take (2 * (k + 1)))).map (Value.int .u64) = (join (ds.take j)).map (Value.int .u64) ++ [.int .u64 (x + 4294967296 * y)]) := by
          show _ = _
          have hln := HL.out.1
          have e1 : 2 * (k + 1) = j + 1 + 1 := by have := HJ.out; omega
          rw [e1, take_getD (by omega), take_getD (by omega), List.append_assoc, join_even (k := k) (by have := HJ.out; simp; omega), List.map_append]
          have a1 : ds.getD j 0 = x := hx
          have a2 : ds.getD (j + 1) 0 = y := hy
          rw [a1, a2]; rfl
        clear hx hy
        go_wp2_with (at_builtin; refine wpList_append_lies _ rfl _ _ 24 rfl w.heap.size 67 i0 (.int .u64 0) 1 8 Tryd.underlying24 hi hz0 hz1 hz2 rfl (by decide) _ k _ rfl (hown.alloc _) ⟨wr.heap.size, 0, none⟩ 1 1 [.int .u64 (x + 4294967296 * y)] rfl rfl (World.news_of_block (cs := #[.int .u64 (x + 4294967296 * y)]) (t := 67) (fr := (0, 0)) (heap_alloc_new wr _)) (by simp [Value.oneCell']) (by decide) h63.out hby.out (by simpa using hbz.out) (wr.heap.size + 1) (by simp) ?_; intro g cp w1 hown1 hgrow hat hltg)
        have hB1 : Below w.heap.size w w1 := (hbel.alloc hbel.size _).grown hgrow (by simpa using hbz.out) (own_from hown)
        go_roundw
        case rel => exact ⟨k + 1, by have := HJ.out; omega, by have := HJ.out; go_num, by rw [HX.out]; exact hown1, hB1⟩
        case measure => simp [intOf]; omega
      · obtain rfl : len = j + 1 := by omega
        have HX : Hid ((join (ds.take (2 * (k + 1)))).map (Value.int .u64) = (join (ds.take j)).map (Value.int .u64) ++ [.int .u64 x]) := by
          show _ = _
          have hln := HL.out.1
          rw [List.take_of_length_le (by have := HJ.out; omega)]
          have e1 : ds = ds.take j ++ [x] := by
            have := take_getD (zs := ds) (k := j) (by omega)
            rw [List.take_of_length_le (by omega)] at this
            have a1 : ds.getD j 0 = x := hx
            rw [a1] at this; exact this
          have e2 : join ds = join (ds.take j) ++ [x] := by
            have := congrArg join e1
            rw [join_even (k := k) (by have := HJ.out; simp; omega)] at this
            exact this
          rw [e2, List.map_append]; rfl
        clear hc hx
        go_wp2_with (at_builtin; refine wpList_append_lies _ rfl _ _ 24 rfl w.heap.size 67 i0 (.int .u64 0) 1 8 Tryd.underlying24 hi hz0 hz1 hz2 rfl (by decide) _ k _ rfl (hown.alloc _) ⟨wr.heap.size, 0, none⟩ 1 1 [.int .u64 x] rfl rfl (World.news_of_block (cs := #[.int .u64 x]) (t := 67) (fr := (0, 0)) (heap_alloc_new wr _)) (by simp [Value.oneCell']) (by decide) h63.out hby.out (by simpa using hbz.out) (wr.heap.size + 1) (by simp) ?_; intro g cp w1 hown1 hgrow hat hltg)
        have hB1 : Below w.heap.size w w1 := (hbel.alloc hbel.size _).grown hgrow (by simpa using hbz.out) (own_from hown)
        go_roundw
        case rel => exact ⟨k + 1, by have := HJ.out; omega, by have := HJ.out; go_num, by rw [HX.out]; exact hown1, hB1⟩
        case measure => simp [intOf]; omega
    · have hkl : Hid (ds.take j = ds) := List.take_of_length_le (by have := HL.out.1; omega)
      rw [hkl.out] at hown
      have hlen : (join ds).length = k := by
        have := hown.1; simpa using this
      obtain ⟨ao1, c1, hv, hrow⟩ := row_of_owns hlen hown
      subst hv
      have hcap := cap_of_owns hown
      have hOw := Own.ofRow hlen hown
      go_wp2_with (go_at_call 75; refine (ntrim_any ao1 k c1 (join ds) _ hrow hcap).mono ?_; rintro e w4 ⟨hT, rfl⟩; obtain ⟨ao', n', cap', hn', rfl, hrest⟩ := hT)
      go_ret
      exact Trimmed.natOwn (L := join ds) ⟨ao', n', cap', hn', rfl, hrest⟩ hOw (join_wd HL.out.2.1) (by rw [join_val, HL.out.2.2]) hbel
end Go.Proofs.YtafohkcbonlgkaaDoor
