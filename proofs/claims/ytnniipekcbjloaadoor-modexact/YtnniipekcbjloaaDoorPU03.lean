/-
  WD, WG, WA, WB, WH, WI, WJ, WK, WL, WP.
-/
import Derived.Test.YtnniipekcbjloaaDoorPU01
import Derived.Test.YtnniipekcbjloaaDoorPU02
import Derived.Deep.AppendLies
import Derived.Shelf.Small.Bits
import Derived.Shelf.Bits.Mul64
/- Walks: digits of 32 bits. -/
namespace Go.Proofs.YtnniipekcbjloaaDoor
open Go.RowKit
set_option linter.unusedVariables false
set_option linter.unusedSimpArgs false
set_option maxHeartbeats 400000 in
theorem cut_any (ao : Option Addr) (len cap : Nat) (zs : List Int) (w : World) (hr : RowAt w .u32 ao len cap zs) (hl : cap ≤ 9223372036854775807) :
    Calls Tryd.prog 101 #[.slice ao len cap] w fun e w' => Trimmed w .u32 ao len cap zs e ∧ w' = w := by
  have hcl := hr.hcap
  have hle := hr.hlen
  have HL : Hid (len = zs.length) := hle
  clear hle
  go_enter Tryd.func101, Tryd.ntmps101
  go_wp2
  go_loop [3] (fun i => ∃ k : Nat, k ≤ len ∧ i = .int .i64 k ∧ ∀ t, k ≤ t → t < len → dig zs t = 0) (fun i => (intOf i).toNat)
  case atStart => exact ⟨len, Nat.le_refl _, rfl, fun t h1 h2 => by omega⟩
  case round =>
    obtain ⟨k, hk, rfl, hz⟩ := hrel
    have HZ : Hid (∀ t, k ≤ t → t < len → dig zs t = 0) := hz
    clear hz
    by_cases hk0 : k = 0
    · subst hk0
      go_wp2
      go_ret
      refine ⟨⟨ao, 0, cap, Nat.zero_le _, rfl, hr.take (Nat.zero_le _), can_take (Nat.zero_le _) (fun h => absurd h (by omega)), fun q => val_take_zeros q (Nat.zero_le _) (fun t h1 h2 => HZ.out t h1 (HL.out ▸ h2)), Or.inl ⟨rfl, rfl⟩⟩, rfl⟩
    · have hkp : 0 < k := by omega
      have HR : Hid (RowAt w .u32 ao len cap zs) := hr
      obtain ⟨b, off, rfl, hb, hc⟩ := hr.get (by omega)
      have hcell := hc (k - 1) (by omega)
      clear hc hr
      by_cases hd : dig zs (k - 1) = 0
      · rw [hd] at hcell
        have HD : Hid (dig zs (k - 1) = 0) := hd
        clear hd
        go_wp2
        go_round
        case rel => exact ⟨k - 1, by omega, by go_num, fun t h1 h2 => by
          by_cases e : t = k - 1
          · subst e; exact HD.out
          · exact HZ.out t (by omega) h2⟩
        case measure => simp [intOf]; omega
      · have hd' : (dig zs (k - 1) == 0) = false := by simpa using hd
        obtain ⟨z, hz⟩ : ∃ z, dig zs (k - 1) = z := ⟨_, rfl⟩
        rw [hz] at hcell hd'
        have HD : Hid (dig zs (k - 1) ≠ 0) := hd
        clear hd hz
        go_wp2
        go_ret
        refine ⟨⟨_, k, cap, hk, rfl, HR.out.take hk, can_take (HL.out ▸ hk) (fun _ => HD.out), fun q => val_take_zeros q (HL.out ▸ hk) (fun t h1 h2 => HZ.out t h1 (HL.out ▸ h2)), Or.inl ⟨rfl, rfl⟩⟩, rfl⟩
theorem own_from {w : World} {B : Nat} {t : TypeId} {v : Value} {n : Nat} {xs : List Value} (h : w.ownsRow B t 1 v n xs) : ∀ k, v.ownBlock = some k → B ≤ k := by
  intro k hk
  rcases h.2 with ⟨hv, _⟩ | ⟨g, cap, cur, hv, hg, _⟩
  · subst hv; simp [Value.ownBlock] at hk
  · subst hv; simp [Value.ownBlock] at hk; omega
theorem row_of_owns {w : World} {B : Nat} {t : TypeId} {k : IntKind} {v : Value} {n : Nat} {L : List Int} (hl : L.length = n) (h : w.ownsRow B t 1 v n (L.map (Value.int k))) : ∃ ao cap, v = .slice ao n cap ∧ RowAt w k ao n cap L := by
  rcases h.2 with ⟨hv, h0⟩ | ⟨g, cap, cur, hv, hg, hh, hc1, _, hs, ht⟩
  · subst hv; subst h0
    exact ⟨none, 0, rfl, hl.symm, Nat.le_refl _, fun _ => rfl, Or.inl rfl⟩
  · refine ⟨_, _, hv, hl.symm, hc1, fun e => (by cases e), Or.inr ⟨g, 0, rfl, ?_, fun t' ht' => ?_⟩⟩
    · by_cases e : g < w.heap.size
      · exact e
      · rw [Array.getElem?_eq_none (by omega)] at hh; cases hh
    · have e : cur[t']? = some (.int k (dig L t')) := by
        have e1 : cur.toList[t']? = some (.int k (dig L t')) := by
          have : (cur.toList.take (n * 1))[t']? = (L.map (Value.int k))[t']? := by rw [ht]
          rw [List.getElem?_take, if_pos (by omega)] at this
          rw [this]; simp [dig, show t' < L.length by omega]
        simpa using e1
      simp [World.cell?, hh, e]
theorem cap_of_owns {w : World} {B : Nat} {t : TypeId} {ao : Option Addr} {n cap : Nat} {xs : List Value} (h : w.ownsRow B t 1 (.slice ao n cap) n xs) : cap ≤ 9223372036854775807 := by
  rcases h.2 with ⟨hv, _⟩ | ⟨g, cap', cur, hv, hg, hh, hc1, hm, _⟩
  · cases hv; omega
  · cases hv; exact hm
theorem half_len_le {n l : Nat} (h : l = (mag n).length) : (half n).length ≤ 2 * l := by
  have h0 := mag_val n
  have h1 := val_lt (q := 18446744073709551616) (by decide) (mag_wd n)
  rw [h0, ← h] at h1
  have e : (18446744073709551616 : Int) ^ l = 4294967296 ^ (2 * l) := by
    rw [Int.pow_mul]; rfl
  rw [e] at h1
  by_cases e0 : half n = []
  · rw [e0]; exact Nat.zero_le _
  · have h2 := val_ge (q := 4294967296) (by decide) (half_wd n) (half_can n) e0
    rw [half_val] at h2
    by_cases hk : (half n).length ≤ 2 * l
    · exact hk
    · have h3 := pow_mono' (q := 4294967296) (by decide) (show 2 * l ≤ (half n).length - 1 by omega)
      omega
/-- a word's two halves, the lower first -/
def twice : List Int → List Int
  | [] => []
  | z :: r => z % 4294967296 :: z / 4294967296 :: twice r
theorem twice_length (zs : List Int) : (twice zs).length = 2 * zs.length := by
  induction zs with
  | nil => rfl
  | cons z r ih => simp only [twice, List.length_cons, ih]; omega
theorem twice_append (a b : List Int) : twice (a ++ b) = twice a ++ twice b := by
  induction a with
  | nil => rfl
  | cons z r ih => simp only [List.cons_append, twice, ih]
theorem twice_wd {zs : List Int} (h : Wd 18446744073709551616 zs) : Wd 4294967296 (twice zs) := by
  induction zs with
  | nil => exact Wd.nil _
  | cons z r ih =>
    have := h.head
    exact Wd.cons (by omega) (Wd.cons (by omega) (ih h.tail))
theorem twice_val (zs : List Int) : val 4294967296 (twice zs) = val 18446744073709551616 zs := by
  induction zs with
  | nil => rfl
  | cons z r ih => simp only [twice, val, ih]; omega
set_option maxRecDepth 100000 in
set_option maxHeartbeats 1000000 in
theorem halves_any (ao : Option Addr) (len cap : Nat) (zs : List Int) (w : World) (hr : RowAt w .u64 ao len cap zs) (hW : Wd 18446744073709551616 zs) (hl : len ≤ 4294967296) (N : Nat) (hN : val 18446744073709551616 zs = N) :
    Calls Tryd.prog 88 #[.slice ao len cap] w fun e w' => (∃ ao' l' c', e = .returned (.slice ao' l' c') ∧ RowAt w' .u32 ao' l' c' (half N)) ∧ Below w.heap.size w w' := by
  obtain ⟨i0, hi, hz0, hz1, hz2⟩ := info_parts info32
  have HL : Hid (len = zs.length ∧ Wd 18446744073709551616 zs ∧ val 18446744073709551616 zs = N) := ⟨hr.hlen, hW, hN⟩
  clear hW hN
  go_enter Tryd.func88, Tryd.ntmps88
  go_wp2
  go_loopw [3, 4] (fun v i wr => ∃ k : Nat, k ≤ len ∧ i = .int .i64 k ∧ wr.ownsRow w.heap.size 111 1 v (2 * k) ((twice (zs.take k)).map (Value.int .u32)) ∧ Below w.heap.size w wr) (fun _ i _ => len - (intOf i).toNat)
  case atStart => exact ⟨0, Nat.zero_le _, rfl, World.ownsRow_nil _ _ _ _, Below.refl _ _⟩
  case round =>
    obtain ⟨k, hk, rfl, hown, hbel⟩ := hrel
    by_cases hlt : k < len
    · obtain ⟨b, off, rfl, hb, hc⟩ := hr.get (by omega)
      have hcell : wr.cell? ⟨b, off + k, none⟩ = some (.int .u64 (dig zs k)) := (hbel.cell (p := ⟨b, off + k, none⟩) hb).trans (hc k hlt)
      obtain ⟨z, hz⟩ : ∃ z, dig zs k = z := ⟨_, rfl⟩
      rw [hz] at hcell
      have HZ : Hid (dig zs k = z) := hz
      have hzb : 0 ≤ z ∧ z < 18446744073709551616 := hz ▸ HL.out.2.1.dig (by decide) k
      obtain ⟨hz1', hz2'⟩ := hzb
      have hlt' : (k : Int) < (len : Int) := by omega
      have hge' : (0 : Int) ≤ (k : Int) := by omega
      have hbs : b < wr.heap.size := by have := hbel.size; omega
      have HC : Hid (w.cell? ⟨b, off + k, none⟩ = some (.int .u64 z)) := by show _ = _; rw [hc k hlt, hz]
      have HX : Hid ((twice (zs.take (k + 1))).map (Value.int .u32) = (twice (zs.take k)).map (Value.int .u32) ++ [.int .u32 (IntKind.u32.wrap z), .int .u32 (IntKind.u32.wrap (z / 4294967296))]) := by
        show _ = _
        rw [take_getD (by have := HL.out.1; omega), twice_append, List.map_append]
        have : zs.getD k 0 = z := hz
        rw [this, IntKind.wrap_u32', IntKind.wrap_u32']
        simp only [twice, List.map_cons, List.map_nil]
        rw [Int.emod_eq_of_lt (by omega) (show z / 4294967296 < 4294967296 by omega)]
      have h63 : Hid (2 * k + 2 ≤ maxLen) := by show _ ≤ _; unfold maxLen; omega
      have hby : Hid ((2 * k + 2) * 4 ≤ 140737488355328) := by show _ ≤ _; omega
      clear hz hc
      go_wp2
      go_region_held3 (fun w' => w'.cell? ⟨b, off + k, none⟩ = some (.int .u64 z))
        (first | go_keep | exact (hB1.cell (p := ⟨b, off + k, none⟩) hb).trans HC.out)
        ((refine step_append_lies _ (by rfl) _ _ _ (by rfl) w.heap.size 111 i0 _ 1 4 Tryd.underlying109 hi hz0 hz1 hz2 rfl (by omega) _ (2 * k) _ (by rfl) ((hown.alloc _).drew) ⟨wr.heap.size, 0, none⟩ 2 2 [.int .u32 (IntKind.u32.wrap z), .int .u32 (IntKind.u32.wrap (z / 4294967296))] (by rfl) (by rfl) (World.news_of_block (cs := #[.int .u32 (IntKind.u32.wrap z), .int .u32 (IntKind.u32.wrap (z / 4294967296))]) (t := 111) (fr := (0, 0)) (heap_alloc_new wr _)) (by simp [Value.oneCell']) (by omega) h63.out hby.out (by simp; have := hbel.size; omega) (wr.heap.size + 1) (by simp) ?_; intro g cp w1 hown1 hgrow hat hltg; have hB1 : Below w.heap.size w w1 := ((hbel.alloc hbel.size _).drew).grown hgrow (by simp; have := hbel.size; omega) (own_from hown)))
      go_wp2
      go_roundw
      case rel => exact ⟨k + 1, by omega, by go_num, by rw [HX.out]; exact hown1, hB1⟩
      case measure => simp [intOf]; omega
    · obtain rfl : k = len := by omega
      have hkl : Hid (zs.take k = zs) := List.take_of_length_le (by have := HL.out.1; omega)
      rw [hkl.out] at hown
      obtain ⟨ao1, c1, hv, hrow⟩ := row_of_owns (by rw [twice_length]; have := HL.out.1; omega) hown
      subst hv
      have hcap := cap_of_owns hown
      go_wp2_with (go_at_call 101; refine (cut_any ao1 (2 * k) c1 (twice zs) _ hrow hcap).mono ?_; rintro e w4 ⟨hT, rfl⟩; obtain ⟨ao', n', cap', hn', rfl, hrow', hcan', hval', hrest⟩ := hT)
      go_ret
      have hm : half N = (twice zs).take n' := half_of ((twice_wd HL.out.2.1).take n') hcan' (by rw [hval', twice_val, HL.out.2.2])
      exact ⟨⟨ao', n', cap', rfl, by rw [hm]; exact hrow'⟩, hbel⟩
end Go.Proofs.YtnniipekcbjloaaDoor
/- WE, WF, WG. -/
namespace Go.Proofs.YtnniipekcbjloaaDoor
open Go.RowKit
set_option linter.unusedVariables false
set_option linter.unusedSimpArgs false
/-- digits two by two -/
def join : List Int → List Int
  | [] => []
  | [a] => [a]
  | a :: b :: r => (a + 4294967296 * b) :: join r
theorem join_val : ∀ ds : List Int, val 18446744073709551616 (join ds) = val 4294967296 ds
  | [] => rfl
  | [a] => by simp [join, val]
  | a :: b :: r => by simp only [join, val, join_val r]; omega
theorem join_wd : ∀ {ds : List Int}, Wd 4294967296 ds → Wd 18446744073709551616 (join ds)
  | [], _ => Wd.nil _
  | [a], h => Wd.one (by have := h.head; omega)
  | a :: b :: r, h => Wd.cons (by have := h.head; have := h.tail.head; omega) (join_wd h.tail.tail)
theorem join_even : ∀ {p : List Int} {k : Nat}, p.length = 2 * k → ∀ s, join (p ++ s) = join p ++ join s
  | [], _, _, s => rfl
  | [a], k, h, s => by simp at h; omega
  | a :: b :: r, k, h, s => by
    have : r.length = 2 * (k - 1) := by simp at h; omega
    simp only [List.cons_append, join, join_even this s]
theorem or_shift (a b : Int) (ha : 0 ≤ a ∧ a < 4294967296) (hb : 0 ≤ b ∧ b < 4294967296) : bits .or .u64 a (b * 4294967296) = a + 4294967296 * b := by
  obtain ⟨a, rfl⟩ := Int.eq_ofNat_of_zero_le ha.1
  obtain ⟨b, rfl⟩ := Int.eq_ofNat_of_zero_le hb.1
  have h := bits_or_u64_nat a (b * 4294967296) (by omega) (by omega)
  have e : a ||| b * 4294967296 = b * 4294967296 + a := by
    have := Nat.shiftLeft_add_eq_or_of_lt (i := 32) (b := a) (by omega) b
    rw [Nat.shiftLeft_eq] at this
    rw [Nat.or_comm]; exact this.symm
  rw [e] at h
  rw [Int.natCast_mul] at h
  refine h.trans ?_
  rw [Int.natCast_add, Int.natCast_mul, Int.add_comm, Int.mul_comm]; rfl
set_option maxRecDepth 100000 in
set_option maxHeartbeats 1000000 in
theorem whole_any (ao : Option Addr) (len cap : Nat) (ds : List Int) (w : World) (hr : RowAt w .u32 ao len cap ds) (hW : Wd 4294967296 ds) (hl : len ≤ 8589934592) (N : Nat) (hN : val 4294967296 ds = N) :
    Calls Tryd.prog 90 #[.slice ao len cap] w fun e w' => NewNat w w' e N := by
  obtain ⟨i0, hi, hz0, hz1, hz2⟩ := info_parts info64
  have HL : Hid (len = ds.length ∧ Wd 4294967296 ds ∧ val 4294967296 ds = N) := ⟨hr.hlen, hW, hN⟩
  clear hW hN
  go_enter Tryd.func90, Tryd.ntmps90
  go_wp2
  go_loopw [3, 4] (fun v i wr => ∃ k : Nat, 2 * k ≤ len + 1 ∧ i = .int .i64 (2 * k : Nat) ∧ wr.ownsRow w.heap.size 25 1 v k ((join (ds.take (2 * k))).map (Value.int .u64)) ∧ Below w.heap.size w wr) (fun _ i _ => len + 1 - (intOf i).toNat)
  case atStart => exact ⟨0, Nat.zero_le _, rfl, World.ownsRow_nil _ _ _ _, Below.refl _ _⟩
  case round =>
    obtain ⟨k, hk, rfl, hown, hbel⟩ := hrel
    obtain ⟨j, hj⟩ : ∃ j, 2 * k = j := ⟨_, rfl⟩
    rw [hj]
    rw [hj] at hk hown
    have HJ : Hid (2 * k = j) := hj
    have hkj : k ≤ j := by omega
    clear hj
    by_cases hlt : j < len
    · obtain ⟨b, off, rfl, hb, hc⟩ := hr.get (by omega)
      have hcell : wr.cell? ⟨b, off + j, none⟩ = some (.int .u32 (dig ds j)) := (hbel.cell (p := ⟨b, off + j, none⟩) hb).trans (hc j hlt)
      obtain ⟨x, hx⟩ : ∃ x, dig ds j = x := ⟨_, rfl⟩
      rw [hx] at hcell
      have hxb : 0 ≤ x ∧ x < 4294967296 := hx ▸ HL.out.2.1.dig (by decide) j
      obtain ⟨hx1, hx2⟩ := hxb
      have hbs : b < wr.heap.size := by have := hbel.size; omega
      have h63 : Hid (k + 1 ≤ maxLen) := by show _ ≤ _; unfold maxLen; omega
      have hby : Hid ((k + 1) * 8 ≤ 140737488355328) := by show _ ≤ _; omega
      have hbz : Hid (w.heap.size ≤ wr.heap.size + 1) := by show _ ≤ _; have := hbel.size; omega
      by_cases hlt2 : j + 1 < len
      · have hcell2 : wr.cell? ⟨b, off + (j + 1), none⟩ = some (.int .u32 (dig ds (j + 1))) := (hbel.cell (p := ⟨b, off + (j + 1), none⟩) hb).trans (hc (j + 1) hlt2)
        obtain ⟨y, hy⟩ : ∃ y, dig ds (j + 1) = y := ⟨_, rfl⟩
        rw [hy] at hcell2
        have hyb : 0 ≤ y ∧ y < 4294967296 := hy ▸ HL.out.2.1.dig (by decide) (j + 1)
        obtain ⟨hy1, hy2⟩ := hyb
        have hor := or_shift x y ⟨hx1, hx2⟩ ⟨hy1, hy2⟩
        clear hc
        have HX : Hid ((join (ds.take (2 * (k + 1)))).map (Value.int .u64) = (join (ds.take j)).map (Value.int .u64) ++ [.int .u64 (x + 4294967296 * y)]) := by
          show _ = _
          have hln := HL.out.1
          have e1 : 2 * (k + 1) = j + 1 + 1 := by have := HJ.out; omega
          rw [e1, take_getD (by omega), take_getD (by omega), List.append_assoc, join_even (k := k) (by have := HJ.out; simp; omega), List.map_append]
          have a1 : ds.getD j 0 = x := hx
          have a2 : ds.getD (j + 1) 0 = y := hy
          rw [a1, a2]; rfl
        clear hx hy
        go_wp2_with (at_builtin; refine wpList_append_lies _ rfl _ _ 63 rfl w.heap.size 25 i0 (.int .u64 0) 1 8 Tryd.underlying63 hi hz0 hz1 hz2 rfl (by decide) _ k _ rfl (hown.alloc _) ⟨wr.heap.size, 0, none⟩ 1 1 [.int .u64 (x + 4294967296 * y)] rfl rfl (World.news_of_block (cs := #[.int .u64 (x + 4294967296 * y)]) (t := 25) (fr := (0, 0)) (heap_alloc_new wr _)) (by simp [Value.oneCell']) (by decide) h63.out hby.out (by simpa using hbz.out) (wr.heap.size + 1) (by simp) ?_; intro g cp w1 hown1 hgrow hat hltg)
        have hB1 : Below w.heap.size w w1 := (hbel.alloc hbel.size _).grown hgrow (by simpa using hbz.out) (own_from hown)
        go_roundw
        case rel => exact ⟨k + 1, by have := HJ.out; omega, by have := HJ.out; go_num, by rw [HX.out]; exact hown1, hB1⟩
        case measure => simp [intOf]; omega
      · obtain rfl : len = j + 1 := by omega
        have HX : Hid ((join (ds.take (2 * (k + 1)))).map (Value.int .u64) = (join (ds.take j)).map (Value.int .u64) ++ [.int .u64 x]) := by
          show _ = _
          have hln := HL.out.1
          rw [List.take_of_length_le (by have := HJ.out; omega)]
          have e1 : ds = ds.take j ++ [x] := by
            have := take_getD (zs := ds) (k := j) (by omega)
            rw [List.take_of_length_le (by omega)] at this
            have a1 : ds.getD j 0 = x := hx
            rw [a1] at this; exact this
          have e2 : join ds = join (ds.take j) ++ [x] := by
            have := congrArg join e1
            rw [join_even (k := k) (by have := HJ.out; simp; omega)] at this
            exact this
          rw [e2, List.map_append]; rfl
        clear hc hx
        go_wp2_with (at_builtin; refine wpList_append_lies _ rfl _ _ 63 rfl w.heap.size 25 i0 (.int .u64 0) 1 8 Tryd.underlying63 hi hz0 hz1 hz2 rfl (by decide) _ k _ rfl (hown.alloc _) ⟨wr.heap.size, 0, none⟩ 1 1 [.int .u64 x] rfl rfl (World.news_of_block (cs := #[.int .u64 x]) (t := 25) (fr := (0, 0)) (heap_alloc_new wr _)) (by simp [Value.oneCell']) (by decide) h63.out hby.out (by simpa using hbz.out) (wr.heap.size + 1) (by simp) ?_; intro g cp w1 hown1 hgrow hat hltg)
        have hB1 : Below w.heap.size w w1 := (hbel.alloc hbel.size _).grown hgrow (by simpa using hbz.out) (own_from hown)
        go_roundw
        case rel => exact ⟨k + 1, by have := HJ.out; omega, by have := HJ.out; go_num, by rw [HX.out]; exact hown1, hB1⟩
        case measure => simp [intOf]; omega
    · have hkl : Hid (ds.take j = ds) := List.take_of_length_le (by have := HL.out.1; omega)
      rw [hkl.out] at hown
      have hlen : (join ds).length = k := by
        have := hown.1; simpa using this
      obtain ⟨ao1, c1, hv, hrow⟩ := row_of_owns hlen hown
      subst hv
      have hcap := cap_of_owns hown
      have hOw := Own.ofRow hlen hown
      go_wp2_with (go_at_call 82; refine (ntrim_any ao1 k c1 (join ds) _ hrow hcap).mono ?_; rintro e w4 ⟨hT, rfl⟩; obtain ⟨ao', n', cap', hn', rfl, hrest⟩ := hT)
      go_ret
      exact Trimmed.natOwn (L := join ds) ⟨ao', n', cap', hn', rfl, hrest⟩ hOw (join_wd HL.out.2.1) (by rw [join_val, HL.out.2.2]) hbel
end Go.Proofs.YtnniipekcbjloaaDoor
/- Walks: NPlus. -/
namespace Go.Proofs.YtnniipekcbjloaaDoor
open Go.RowKit
set_option linter.unusedVariables false
set_option linter.unusedSimpArgs false
theorem dig_over {zs : List Int} {k : Nat} (h : zs.length ≤ k) : dig zs k = 0 := by simp [dig, List.getElem?_eq_none h]
/-- the first k digits of both were added; c is carried -/
structure PlusSt (x y : List Int) (k : Nat) (c : Int) (L : List Int) : Prop where
  len : L.length = k
  wd : Wd 4294967296 L
  c0 : 0 ≤ c
  c1 : c ≤ 1
  eq : val 4294967296 L + c * 4294967296 ^ k = val 4294967296 (x.take k) + val 4294967296 (y.take k)
theorem PlusSt.step {x y : List Int} {k : Nat} {c : Int} {L : List Int} (h : PlusSt x y k c L) {d c' : Int} (hd : 0 ≤ d ∧ d < 4294967296) (hc : 0 ≤ c' ∧ c' ≤ 1) (he : d + c' * 4294967296 = c + dig x k + dig y k) : PlusSt x y (k + 1) c' (L ++ [d]) := by
  refine ⟨by simp [h.len], h.wd.append (Wd.one hd), hc.1, hc.2, ?_⟩
  have h1 := h.eq
  rw [val_snoc, h.len, val_take_dig, val_take_dig, Int.pow_succ]
  have e2 : 4294967296 ^ k * (d + c' * 4294967296) = 4294967296 ^ k * (c + dig x k + dig y k) := by rw [he]
  grind
/-- where an own row lies, if it lies anywhere: from block B on -/
theorem own_from2 {w : World} {B C : Nat} {t : TypeId} {v : Value} {n : Nat} {xs : List Value} (_h : w.ownsRow C t 1 v n xs) (hf : ∀ g, v.ownBlock = some g → B ≤ g) : ∀ k, v.ownBlock = some k → B ≤ k := hf
theorem far_of {v : Value} {g n cp : Nat} {B H : Nat} (hat : v.ownBlock = some g ∨ g = H + 1) (hf : ∀ g, v.ownBlock = some g → B ≤ g) (hB : B ≤ H) : ∀ k, (Value.slice (some ⟨g, 0, none⟩) n cp).ownBlock = some k → B ≤ k := by
  intro k hk
  simp only [Value.ownBlock, Option.some.injEq] at hk
  subst hk
  rcases hat with h | h
  · exact hf g h
  · omega
set_option maxRecDepth 100000 in
set_option maxHeartbeats 3000000 in
theorem nplus_any (ao bo : Option Addr) (la ca lb cb : Nat) (a n2 : Nat) (w : World) (hx : RowAt w .u64 ao la ca (mag a)) (hy : RowAt w .u64 bo lb cb (mag n2)) (hl : la ≤ 1073741824) (hl' : lb ≤ 1073741824) :
    Calls Tryd.prog 102 #[.slice ao la ca, .slice bo lb cb] w fun e w' => NewNat w w' e (a + n2) := by
  obtain ⟨i0, hi, hz0, hz1, hz2⟩ := info_parts info32
  have HI : Hid (RowAt w .u64 ao la ca (mag a) ∧ RowAt w .u64 bo lb cb (mag n2)) := ⟨hx, hy⟩
  clear hx hy
  go_enter Tryd.func102, Tryd.ntmps102
  go_wp2_with (first
    | (go_at_call_of 88 ao; refine (halves_any ao la ca (mag a) _ HI.out.1 (mag_wd a) (by omega) a (mag_val a)).mono ?_; rintro e w0 ⟨⟨xo, lx, cx, rfl, hX0⟩, hb0⟩)
    | (go_at_call 88; refine (halves_any bo lb cb (mag n2) _ (HI.out.2.later hb0) (mag_wd n2) (by omega) n2 (mag_val n2)).mono ?_; rintro e w1 ⟨⟨yo, ly, cy, rfl, hY⟩, hb1⟩))
  have hX := hX0.later hb1
  have hbw : Below w.heap.size w w1 := bnext hb0 hb1
  have hlx : lx ≤ 2147483648 := by have := half_len_le HI.out.1.hlen; rw [← hX.hlen] at this; omega
  have hly : ly ≤ 2147483648 := by have := half_len_le HI.out.2.hlen; rw [← hY.hlen] at this; omega
  have HXY : Hid (RowAt w1 .u32 xo lx cx (half a) ∧ RowAt w1 .u32 yo ly cy (half n2)) := ⟨hX, hY⟩
  clear hX0 hb0 hb1
  go_loopw [7, 8, 9] (fun v c i wr => ∃ (k : Nat) (cv : Int) (L : List Int), k ≤ lx + ly ∧ i = .int .i64 k ∧ c = .int .u64 cv ∧ PlusSt (half a) (half n2) k cv L ∧ wr.ownsRow w.heap.size 111 1 v k (L.map (Value.int .u32)) ∧ Below w1.heap.size w1 wr ∧ (∀ g, v.ownBlock = some g → w1.heap.size ≤ g)) (fun _ _ i _ => lx + ly - (intOf i).toNat)
  case atStart => exact ⟨0, 0, [], Nat.zero_le _, rfl, rfl, ⟨rfl, Wd.nil _, by decide, by decide, by simp [val]⟩, World.ownsRow_nil _ _ _ _, Below.refl _ _, fun g h => by simp [Value.ownBlock] at h⟩
  case round =>
    obtain ⟨k, cv, L, hk, rfl, rfl, hst, hown, hbel, hfar⟩ := hrel
    have HS : Hid (PlusSt (half a) (half n2) k cv L) := hst
    have hc0 := hst.c0
    have hc1 := hst.c1
    clear hst
    by_cases h1 : k < lx
    · by_cases h2 : k < ly
      ·
        obtain ⟨b, off, rfl, hb, hc⟩ := hX.get (by omega)
        have hcx : wr.cell? ⟨b, off + k, none⟩ = some (.int .u32 (dig (half a) k)) := (hbel.cell (p := ⟨b, off + k, none⟩) hb).trans (hc k (by omega))
        have hbs : b < wr.heap.size := by have := hbel.size; omega
        clear hc
        obtain ⟨b', off', rfl, hb', hc'⟩ := hY.get (by omega)
        have hcy : wr.cell? ⟨b', off' + k, none⟩ = some (.int .u32 (dig (half n2) k)) := (hbel.cell (p := ⟨b', off' + k, none⟩) hb').trans (hc' k (by omega))
        have hbs' : b' < wr.heap.size := by have := hbel.size; omega
        clear hc'
        obtain ⟨u, hu⟩ : ∃ u, dig (half a) k = u := ⟨_, rfl⟩
        obtain ⟨v, hv⟩ : ∃ v, dig (half n2) k = v := ⟨_, rfl⟩
        have HU : Hid (dig (half a) k = u ∧ dig (half n2) k = v) := ⟨hu, hv⟩
        have hu1 : 0 ≤ u ∧ u < 4294967296 := hu ▸ (half_wd a).dig (by decide) k
        have hv1 : 0 ≤ v ∧ v < 4294967296 := hv ▸ (half_wd n2).dig (by decide) k
        rw [hu] at hcx
        rw [hv] at hcy
        clear hu hv hX hY
        obtain ⟨hu1, hu2⟩ := hu1
        obtain ⟨hv1, hv2⟩ := hv1
        have HX : Hid (PlusSt (half a) (half n2) (k + 1) ((cv + u + v) / 4294967296) (L ++ [IntKind.u32.wrap (cv + u + v)])) := by
          skip
          rw [IntKind.wrap_u32']
          refine HS.out.step (by omega) (by omega) (by rw [HU.out.1, HU.out.2]; omega)
        have h63 : Hid (k + 1 ≤ maxLen) := by show _ ≤ _; unfold maxLen; omega
        have hby : Hid ((k + 1) * 4 ≤ 140737488355328) := by show _ ≤ _; omega
        have hbz : Hid (w1.heap.size ≤ wr.heap.size + 1) := by show _ ≤ _; have := hbel.size; omega
        have hbz0 : Hid (w.heap.size ≤ wr.heap.size + 1) := by show _ ≤ _; have := hbel.size; have := hbw.size; omega
        go_wp2_with (at_builtin; refine wpList_append_lies _ rfl _ _ 109 rfl w.heap.size 111 i0 (.int .u32 0) 1 4 Tryd.underlying109 hi hz0 hz1 hz2 rfl (by decide) _ k _ rfl (hown.alloc _) ⟨wr.heap.size, 0, none⟩ 1 1 [.int .u32 (IntKind.u32.wrap (cv + u + v))] rfl rfl (World.news_of_block (cs := #[.int .u32 (IntKind.u32.wrap (cv + u + v))]) (t := 111) (fr := (0, 0)) (heap_alloc_new wr _)) (by simp [Value.oneCell']) (by decide) h63.out hby.out (by simpa using hbz0.out) (wr.heap.size + 1) (by simp) ?_; intro g cp w3 hown1 hgrow hat hltg)
        have hB1 : Below w1.heap.size w1 w3 := (hbel.alloc hbel.size _).grown hgrow (by simpa using hbz.out) (own_from2 hown hfar)
        go_roundw
        case rel => exact ⟨k + 1, (cv + u + v) / 4294967296, L ++ [IntKind.u32.wrap (cv + u + v)], by omega, by go_num, rfl, HX.out, by rw [List.map_append]; exact hown1, hB1, far_of hat hfar hbel.size⟩
        case measure => simp [intOf]; omega
      ·
        obtain ⟨b, off, rfl, hb, hc⟩ := hX.get (by omega)
        have hcx : wr.cell? ⟨b, off + k, none⟩ = some (.int .u32 (dig (half a) k)) := (hbel.cell (p := ⟨b, off + k, none⟩) hb).trans (hc k (by omega))
        have hbs : b < wr.heap.size := by have := hbel.size; omega
        clear hc
        obtain ⟨u, hu⟩ : ∃ u, dig (half a) k = u := ⟨_, rfl⟩
        obtain ⟨v, hv⟩ : ∃ v, dig (half n2) k = v := ⟨_, rfl⟩
        have HU : Hid (dig (half a) k = u ∧ dig (half n2) k = v) := ⟨hu, hv⟩
        have hu1 : 0 ≤ u ∧ u < 4294967296 := hu ▸ (half_wd a).dig (by decide) k
        have hv1 : 0 ≤ v ∧ v < 4294967296 := hv ▸ (half_wd n2).dig (by decide) k
        rw [hu] at hcx
        clear hu hv hX hY
        obtain ⟨hu1, hu2⟩ := hu1
        obtain ⟨hv1, hv2⟩ := hv1
        have HX : Hid (PlusSt (half a) (half n2) (k + 1) ((cv + u) / 4294967296) (L ++ [IntKind.u32.wrap (cv + u)])) := by
          have hv0 : v = 0 := HU.out.2 ▸ dig_over (by rw [← HXY.out.2.hlen]; omega)
          rw [IntKind.wrap_u32']
          refine HS.out.step (by omega) (by omega) (by rw [HU.out.1, HU.out.2]; omega)
        have h63 : Hid (k + 1 ≤ maxLen) := by show _ ≤ _; unfold maxLen; omega
        have hby : Hid ((k + 1) * 4 ≤ 140737488355328) := by show _ ≤ _; omega
        have hbz : Hid (w1.heap.size ≤ wr.heap.size + 1) := by show _ ≤ _; have := hbel.size; omega
        have hbz0 : Hid (w.heap.size ≤ wr.heap.size + 1) := by show _ ≤ _; have := hbel.size; have := hbw.size; omega
        go_wp2_with (at_builtin; refine wpList_append_lies _ rfl _ _ 109 rfl w.heap.size 111 i0 (.int .u32 0) 1 4 Tryd.underlying109 hi hz0 hz1 hz2 rfl (by decide) _ k _ rfl (hown.alloc _) ⟨wr.heap.size, 0, none⟩ 1 1 [.int .u32 (IntKind.u32.wrap (cv + u))] rfl rfl (World.news_of_block (cs := #[.int .u32 (IntKind.u32.wrap (cv + u))]) (t := 111) (fr := (0, 0)) (heap_alloc_new wr _)) (by simp [Value.oneCell']) (by decide) h63.out hby.out (by simpa using hbz0.out) (wr.heap.size + 1) (by simp) ?_; intro g cp w3 hown1 hgrow hat hltg)
        have hB1 : Below w1.heap.size w1 w3 := (hbel.alloc hbel.size _).grown hgrow (by simpa using hbz.out) (own_from2 hown hfar)
        go_roundw
        case rel => exact ⟨k + 1, (cv + u) / 4294967296, L ++ [IntKind.u32.wrap (cv + u)], by omega, by go_num, rfl, HX.out, by rw [List.map_append]; exact hown1, hB1, far_of hat hfar hbel.size⟩
        case measure => simp [intOf]; omega
    · by_cases h2 : k < ly
      ·
        obtain ⟨b', off', rfl, hb', hc'⟩ := hY.get (by omega)
        have hcy : wr.cell? ⟨b', off' + k, none⟩ = some (.int .u32 (dig (half n2) k)) := (hbel.cell (p := ⟨b', off' + k, none⟩) hb').trans (hc' k (by omega))
        have hbs' : b' < wr.heap.size := by have := hbel.size; omega
        clear hc'
        obtain ⟨u, hu⟩ : ∃ u, dig (half a) k = u := ⟨_, rfl⟩
        obtain ⟨v, hv⟩ : ∃ v, dig (half n2) k = v := ⟨_, rfl⟩
        have HU : Hid (dig (half a) k = u ∧ dig (half n2) k = v) := ⟨hu, hv⟩
        have hu1 : 0 ≤ u ∧ u < 4294967296 := hu ▸ (half_wd a).dig (by decide) k
        have hv1 : 0 ≤ v ∧ v < 4294967296 := hv ▸ (half_wd n2).dig (by decide) k
        rw [hv] at hcy
        clear hu hv hX hY
        obtain ⟨hu1, hu2⟩ := hu1
        obtain ⟨hv1, hv2⟩ := hv1
        have HX : Hid (PlusSt (half a) (half n2) (k + 1) ((cv + v) / 4294967296) (L ++ [IntKind.u32.wrap (cv + v)])) := by
          have hu0 : u = 0 := HU.out.1 ▸ dig_over (by rw [← HXY.out.1.hlen]; omega)
          rw [IntKind.wrap_u32']
          refine HS.out.step (by omega) (by omega) (by rw [HU.out.1, HU.out.2]; omega)
        have h63 : Hid (k + 1 ≤ maxLen) := by show _ ≤ _; unfold maxLen; omega
        have hby : Hid ((k + 1) * 4 ≤ 140737488355328) := by show _ ≤ _; omega
        have hbz : Hid (w1.heap.size ≤ wr.heap.size + 1) := by show _ ≤ _; have := hbel.size; omega
        have hbz0 : Hid (w.heap.size ≤ wr.heap.size + 1) := by show _ ≤ _; have := hbel.size; have := hbw.size; omega
        go_wp2_with (at_builtin; refine wpList_append_lies _ rfl _ _ 109 rfl w.heap.size 111 i0 (.int .u32 0) 1 4 Tryd.underlying109 hi hz0 hz1 hz2 rfl (by decide) _ k _ rfl (hown.alloc _) ⟨wr.heap.size, 0, none⟩ 1 1 [.int .u32 (IntKind.u32.wrap (cv + v))] rfl rfl (World.news_of_block (cs := #[.int .u32 (IntKind.u32.wrap (cv + v))]) (t := 111) (fr := (0, 0)) (heap_alloc_new wr _)) (by simp [Value.oneCell']) (by decide) h63.out hby.out (by simpa using hbz0.out) (wr.heap.size + 1) (by simp) ?_; intro g cp w3 hown1 hgrow hat hltg)
        have hB1 : Below w1.heap.size w1 w3 := (hbel.alloc hbel.size _).grown hgrow (by simpa using hbz.out) (own_from2 hown hfar)
        go_roundw
        case rel => exact ⟨k + 1, (cv + v) / 4294967296, L ++ [IntKind.u32.wrap (cv + v)], by omega, by go_num, rfl, HX.out, by rw [List.map_append]; exact hown1, hB1, far_of hat hfar hbel.size⟩
        case measure => simp [intOf]; omega
      · have h63 : Hid (k + 1 ≤ maxLen) := by show _ ≤ _; unfold maxLen; omega
        have hby : Hid ((k + 1) * 4 ≤ 140737488355328) := by show _ ≤ _; omega
        have hbz : Hid (w1.heap.size ≤ wr.heap.size + 1) := by show _ ≤ _; have := hbel.size; omega
        have hbz0 : Hid (w.heap.size ≤ wr.heap.size + 1) := by show _ ≤ _; have := hbel.size; have := hbw.size; omega
        have HV : Hid (Wd 4294967296 (L ++ [cv]) ∧ val 4294967296 (L ++ [cv]) = ((a + n2 : Nat) : Int) ∧ (L ++ [cv]).length = k + 1) := by
          have e := HS.out.eq
          rw [List.take_of_length_le (by rw [← HXY.out.1.hlen]; omega), List.take_of_length_le (by rw [← HXY.out.2.hlen]; omega), half_val, half_val] at e
          refine ⟨HS.out.wd.append (Wd.one (by omega)), ?_, by simp [HS.out.len]⟩
          rw [val_snoc, HS.out.len]
          have : 4294967296 ^ k * cv = cv * 4294967296 ^ k := Int.mul_comm _ _
          omega
        have ec : IntKind.u32.wrap cv = cv := by rw [IntKind.wrap_u32']; omega
        clear hX hY
        go_wp2_with (first
          | (at_builtin; refine wpList_append_lies _ rfl _ _ 109 rfl w.heap.size 111 i0 (.int .u32 0) 1 4 Tryd.underlying109 hi hz0 hz1 hz2 rfl (by decide) _ k _ rfl (hown.alloc _) ⟨wr.heap.size, 0, none⟩ 1 1 [.int .u32 cv] rfl rfl (World.news_of_block (cs := #[.int .u32 cv]) (t := 111) (fr := (0, 0)) (heap_alloc_new wr _)) (by simp [Value.oneCell']) (by decide) h63.out hby.out (by simpa using hbz0.out) (wr.heap.size + 1) (by simp) ?_; intro g cp w3 hown1 hgrow hat hltg; have hB1 : Below w1.heap.size w1 w3 := (hbel.alloc hbel.size _).grown hgrow (by simpa using hbz.out) (own_from2 hown hfar); have hown2 : w3.ownsRow w.heap.size 111 1 (.slice (some ⟨g, 0, none⟩) (k + 1) cp) (k + 1) ((L ++ [cv]).map (Value.int .u32)) := by (rw [List.map_append]; exact hown1))
          | (go_at_call 101; refine (cut_any (some ⟨g, 0, none⟩) (k + 1) cp (L ++ [cv]) _ (Own.ofRow HV.out.2.2 hown2).row (cap_of_owns hown2)).mono ?_; rintro e w4 ⟨hT, hw4⟩; obtain ⟨ao', n', cap', hn', rfl, hrow', hcan', hval', hrest⟩ := hT; subst hw4; have hn2 : n' ≤ 8589934592 := by omega)
          | (go_at_call 90; refine (whole_any ao' n' cap' ((L ++ [cv]).take n') _ hrow' (HV.out.1.take n') hn2 (a + n2) (by rw [hval', HV.out.2.1])).mono ?_; rintro e w5 ⟨ao5, l5, c5, rfl, ho5, hb5⟩))
        go_ret
        exact ⟨_, _, _, rfl, ho5.mono (by have := hB1.size; have := hbw.size; omega), bnext (bnext hbw hB1) hb5⟩
end Go.Proofs.YtnniipekcbjloaaDoor
/- Walks: NLess. -/
namespace Go.Proofs.YtnniipekcbjloaaDoor
open Go.RowKit
set_option linter.unusedVariables false
set_option linter.unusedSimpArgs false
/-- the first k digits of y were taken from those of x; c is borrowed (0 or -1) -/
structure LessSt (x y : List Int) (k : Nat) (c : Int) (L : List Int) : Prop where
  len : L.length = k
  wd : Wd 4294967296 L
  c0 : -1 ≤ c
  c1 : c ≤ 0
  eq : val 4294967296 L + c * 4294967296 ^ k = val 4294967296 (x.take k) - val 4294967296 (y.take k)
theorem LessSt.step {x y : List Int} {k : Nat} {c : Int} {L : List Int} (h : LessSt x y k c L) {d c' : Int} (hd : 0 ≤ d ∧ d < 4294967296) (hc : -1 ≤ c' ∧ c' ≤ 0) (he : d + c' * 4294967296 = c + dig x k - dig y k) : LessSt x y (k + 1) c' (L ++ [d]) := by
  refine ⟨by simp [h.len], h.wd.append (Wd.one hd), hc.1, hc.2, ?_⟩
  have h1 := h.eq
  rw [val_snoc, h.len, val_take_dig, val_take_dig, Int.pow_succ]
  have e2 : 4294967296 ^ k * (d + c' * 4294967296) = 4294967296 ^ k * (c + dig x k - dig y k) := by rw [he]
  grind
set_option maxRecDepth 100000 in
set_option maxHeartbeats 3000000 in
theorem nless_any (ao bo : Option Addr) (la ca lb cb : Nat) (a n2 : Nat) (w : World) (hx : RowAt w .u64 ao la ca (mag a)) (hy : RowAt w .u64 bo lb cb (mag n2)) (hl : la ≤ 1073741824) (hl' : lb ≤ 1073741824) (hle : n2 ≤ a) :
    Calls Tryd.prog 94 #[.slice ao la ca, .slice bo lb cb] w fun e w' => NewNat w w' e (a - n2) := by
  obtain ⟨i0, hi, hz0, hz1, hz2⟩ := info_parts info32
  have HI : Hid (RowAt w .u64 ao la ca (mag a) ∧ RowAt w .u64 bo lb cb (mag n2) ∧ n2 ≤ a) := ⟨hx, hy, hle⟩
  clear hx hy hle
  go_enter Tryd.func94, Tryd.ntmps94
  go_wp2_with (first
    | (go_at_call_of 88 ao; refine (halves_any ao la ca (mag a) _ HI.out.1 (mag_wd a) (by omega) a (mag_val a)).mono ?_; rintro e w0 ⟨⟨xo, lx, cx, rfl, hX0⟩, hb0⟩)
    | (go_at_call 88; refine (halves_any bo lb cb (mag n2) _ (HI.out.2.1.later hb0) (mag_wd n2) (by omega) n2 (mag_val n2)).mono ?_; rintro e w1 ⟨⟨yo, ly, cy, rfl, hY⟩, hb1⟩))
  have hX := hX0.later hb1
  have hbw : Below w.heap.size w w1 := bnext hb0 hb1
  have hlx : lx ≤ 2147483648 := by have := half_len_le HI.out.1.hlen; rw [← hX.hlen] at this; omega
  have hly : ly ≤ 2147483648 := by have := half_len_le HI.out.2.1.hlen; rw [← hY.hlen] at this; omega
  have hxy : Hid (ly ≤ lx) := by
    show _ ≤ _
    by_cases h : lx < ly
    · have := val_lt_of_len (q := 4294967296) (by decide) (half_wd a) (half_wd n2) (half_can n2) (by rw [← hX.hlen, ← hY.hlen]; exact h)
      rw [half_val, half_val] at this; have := HI.out.2.2; omega
    · omega
  have HXY : Hid (RowAt w1 .u32 xo lx cx (half a) ∧ RowAt w1 .u32 yo ly cy (half n2)) := ⟨hX, hY⟩
  clear hX0 hb0 hb1
  go_loopw [7, 8, 9] (fun v c i wr => ∃ (k : Nat) (cv : Int) (L : List Int), k ≤ lx ∧ i = .int .i64 k ∧ c = .int .i64 cv ∧ LessSt (half a) (half n2) k cv L ∧ wr.ownsRow w.heap.size 111 1 v k (L.map (Value.int .u32)) ∧ Below w1.heap.size w1 wr ∧ (∀ g, v.ownBlock = some g → w1.heap.size ≤ g)) (fun _ _ i _ => lx - (intOf i).toNat)
  case atStart => exact ⟨0, 0, [], Nat.zero_le _, rfl, rfl, ⟨rfl, Wd.nil _, by decide, by decide, by simp [val]⟩, World.ownsRow_nil _ _ _ _, Below.refl _ _, fun g h => by simp [Value.ownBlock] at h⟩
  case round =>
    obtain ⟨k, cv, L, hk, rfl, rfl, hst, hown, hbel, hfar⟩ := hrel
    have HS : Hid (LessSt (half a) (half n2) k cv L) := hst
    have hc0 := hst.c0
    have hc1 := hst.c1
    clear hst
    by_cases h1 : k < lx
    · by_cases h2 : k < ly
      ·
        obtain ⟨b, off, rfl, hb, hc⟩ := hX.get (by omega)
        have hcx : wr.cell? ⟨b, off + k, none⟩ = some (.int .u32 (dig (half a) k)) := (hbel.cell (p := ⟨b, off + k, none⟩) hb).trans (hc k (by omega))
        have hbs : b < wr.heap.size := by have := hbel.size; omega
        clear hc
        obtain ⟨b', off', rfl, hb', hc'⟩ := hY.get (by omega)
        have hcy : wr.cell? ⟨b', off' + k, none⟩ = some (.int .u32 (dig (half n2) k)) := (hbel.cell (p := ⟨b', off' + k, none⟩) hb').trans (hc' k (by omega))
        have hbs' : b' < wr.heap.size := by have := hbel.size; omega
        clear hc'
        obtain ⟨u, hu⟩ : ∃ u, dig (half a) k = u := ⟨_, rfl⟩
        obtain ⟨v, hv⟩ : ∃ v, dig (half n2) k = v := ⟨_, rfl⟩
        have HU : Hid (dig (half a) k = u ∧ dig (half n2) k = v) := ⟨hu, hv⟩
        have hu1 : 0 ≤ u ∧ u < 4294967296 := hu ▸ (half_wd a).dig (by decide) k
        have hv1 : 0 ≤ v ∧ v < 4294967296 := hv ▸ (half_wd n2).dig (by decide) k
        rw [hu] at hcx
        rw [hv] at hcy
        clear hu hv hX hY
        obtain ⟨hu1, hu2⟩ := hu1
        obtain ⟨hv1, hv2⟩ := hv1
        have HX : Hid (LessSt (half a) (half n2) (k + 1) ((cv + u - v) / 4294967296) (L ++ [(cv + u - v) % 4294967296])) := by
          refine HS.out.step (by omega) (by omega) (by rw [HU.out.1, HU.out.2]; omega)
        have h63 : Hid (k + 1 ≤ maxLen) := by show _ ≤ _; unfold maxLen; omega
        have hby : Hid ((k + 1) * 4 ≤ 140737488355328) := by show _ ≤ _; omega
        have hbz : Hid (w1.heap.size ≤ wr.heap.size + 1) := by show _ ≤ _; have := hbel.size; omega
        have hbz0 : Hid (w.heap.size ≤ wr.heap.size + 1) := by show _ ≤ _; have := hbel.size; have := hbw.size; omega
        have ew : IntKind.u32.wrap (IntKind.u64.wrap (cv + u - v)) = (cv + u - v) % 4294967296 := by rw [IntKind.wrap_u32', IntKind.wrap_u64]; omega
        obtain ⟨sv, hsv⟩ : ∃ sv, cv + u - v = sv := ⟨_, rfl⟩
        rw [hsv] at HX ew
        obtain ⟨dv, hdv⟩ : ∃ dv, sv % 4294967296 = dv := ⟨_, rfl⟩
        rw [hdv] at HX ew
        clear hdv
        have hsb : -8589934592 ≤ sv ∧ sv ≤ 8589934592 := by omega
        obtain ⟨hsb1, hsb2⟩ := hsb
        go_wp2_with (at_builtin; refine wpList_append_lies _ rfl _ _ 109 rfl w.heap.size 111 i0 (.int .u32 0) 1 4 Tryd.underlying109 hi hz0 hz1 hz2 rfl (by decide) _ k _ rfl (hown.alloc _) ⟨wr.heap.size, 0, none⟩ 1 1 [.int .u32 dv] rfl rfl (World.news_of_block (cs := #[.int .u32 dv]) (t := 111) (fr := (0, 0)) (heap_alloc_new wr _)) (by simp [Value.oneCell']) (by decide) h63.out hby.out (by simpa using hbz0.out) (wr.heap.size + 1) (by simp) ?_; intro g cp w3 hown1 hgrow hat hltg)
        have hB1 : Below w1.heap.size w1 w3 := (hbel.alloc hbel.size _).grown hgrow (by simpa using hbz.out) (own_from2 hown hfar)
        go_roundw
        case rel => exact ⟨k + 1, sv / 4294967296, L ++ [dv], by omega, by go_num, rfl, HX.out, by rw [List.map_append]; exact hown1, hB1, far_of hat hfar hbel.size⟩
        case measure => simp [intOf]; omega
      ·
        obtain ⟨b, off, rfl, hb, hc⟩ := hX.get (by omega)
        have hcx : wr.cell? ⟨b, off + k, none⟩ = some (.int .u32 (dig (half a) k)) := (hbel.cell (p := ⟨b, off + k, none⟩) hb).trans (hc k (by omega))
        have hbs : b < wr.heap.size := by have := hbel.size; omega
        clear hc
        obtain ⟨u, hu⟩ : ∃ u, dig (half a) k = u := ⟨_, rfl⟩
        obtain ⟨v, hv⟩ : ∃ v, dig (half n2) k = v := ⟨_, rfl⟩
        have HU : Hid (dig (half a) k = u ∧ dig (half n2) k = v) := ⟨hu, hv⟩
        have hu1 : 0 ≤ u ∧ u < 4294967296 := hu ▸ (half_wd a).dig (by decide) k
        have hv1 : 0 ≤ v ∧ v < 4294967296 := hv ▸ (half_wd n2).dig (by decide) k
        rw [hu] at hcx
        clear hu hv hX hY
        obtain ⟨hu1, hu2⟩ := hu1
        obtain ⟨hv1, hv2⟩ := hv1
        have HX : Hid (LessSt (half a) (half n2) (k + 1) ((cv + u) / 4294967296) (L ++ [(cv + u) % 4294967296])) := by
          have hv0 : v = 0 := HU.out.2 ▸ dig_over (by rw [← HXY.out.2.hlen]; omega)
          refine HS.out.step (by omega) (by omega) (by rw [HU.out.1, HU.out.2]; omega)
        have h63 : Hid (k + 1 ≤ maxLen) := by show _ ≤ _; unfold maxLen; omega
        have hby : Hid ((k + 1) * 4 ≤ 140737488355328) := by show _ ≤ _; omega
        have hbz : Hid (w1.heap.size ≤ wr.heap.size + 1) := by show _ ≤ _; have := hbel.size; omega
        have hbz0 : Hid (w.heap.size ≤ wr.heap.size + 1) := by show _ ≤ _; have := hbel.size; have := hbw.size; omega
        have ew : IntKind.u32.wrap (IntKind.u64.wrap (cv + u)) = (cv + u) % 4294967296 := by rw [IntKind.wrap_u32', IntKind.wrap_u64]; omega
        obtain ⟨sv, hsv⟩ : ∃ sv, cv + u = sv := ⟨_, rfl⟩
        rw [hsv] at HX ew
        obtain ⟨dv, hdv⟩ : ∃ dv, sv % 4294967296 = dv := ⟨_, rfl⟩
        rw [hdv] at HX ew
        clear hdv
        have hsb : -8589934592 ≤ sv ∧ sv ≤ 8589934592 := by omega
        obtain ⟨hsb1, hsb2⟩ := hsb
        go_wp2_with (at_builtin; refine wpList_append_lies _ rfl _ _ 109 rfl w.heap.size 111 i0 (.int .u32 0) 1 4 Tryd.underlying109 hi hz0 hz1 hz2 rfl (by decide) _ k _ rfl (hown.alloc _) ⟨wr.heap.size, 0, none⟩ 1 1 [.int .u32 dv] rfl rfl (World.news_of_block (cs := #[.int .u32 dv]) (t := 111) (fr := (0, 0)) (heap_alloc_new wr _)) (by simp [Value.oneCell']) (by decide) h63.out hby.out (by simpa using hbz0.out) (wr.heap.size + 1) (by simp) ?_; intro g cp w3 hown1 hgrow hat hltg)
        have hB1 : Below w1.heap.size w1 w3 := (hbel.alloc hbel.size _).grown hgrow (by simpa using hbz.out) (own_from2 hown hfar)
        go_roundw
        case rel => exact ⟨k + 1, sv / 4294967296, L ++ [dv], by omega, by go_num, rfl, HX.out, by rw [List.map_append]; exact hown1, hB1, far_of hat hfar hbel.size⟩
        case measure => simp [intOf]; omega
    · obtain rfl : k = lx := by omega
      have HV : Hid (val 4294967296 L = ((a - n2 : Nat) : Int)) := by
        have e := HS.out.eq
        rw [List.take_of_length_le (by rw [← HXY.out.1.hlen]; exact Nat.le_refl _), List.take_of_length_le (by rw [← HXY.out.2.hlen]; exact hxy.out), half_val, half_val] at e
        have a1 := val_nonneg (q := 4294967296) (by decide) HS.out.wd
        have a2 := val_lt (q := 4294967296) (by decide) HS.out.wd
        rw [HS.out.len] at a2
        have a3 := HI.out.2.2
        show _ = _
        obtain ⟨Q, hQ⟩ : ∃ Q : Int, (4294967296 : Int) ^ k = Q := ⟨_, rfl⟩
        rw [hQ] at e a2
        rcases (show cv = 0 ∨ cv = -1 by omega) with rfl | rfl <;> omega
      obtain ⟨ao1, c1, hv, hrow⟩ := row_of_owns HS.out.len hown
      subst hv
      have hcap := cap_of_owns hown
      clear hX hY
      go_wp2_with (first
        | (go_at_call 101; refine (cut_any ao1 k c1 L _ hrow hcap).mono ?_; rintro e w4 ⟨hT, hw4⟩; obtain ⟨ao', n', cap', hn', rfl, hrow', hcan', hval', hrest⟩ := hT; subst hw4; have hn2 : n' ≤ 8589934592 := by omega)
        | (go_at_call 90; refine (whole_any ao' n' cap' (L.take n') _ hrow' (HS.out.wd.take n') hn2 (a - n2) (by rw [hval', HV.out])).mono ?_; rintro e w5 ⟨ao5, l5, c5, rfl, ho5, hb5⟩))
      go_ret
      exact ⟨_, _, _, rfl, ho5.mono (by have := hbel.size; have := hbw.size; omega), bnext (bnext hbw hbel) hb5⟩
end Go.Proofs.YtnniipekcbjloaaDoor
/- Walks: numbers made of machine integers; Add; the law's own wake-up call. -/
namespace Go.Proofs.YtnniipekcbjloaaDoor
open Go.RowKit
set_option linter.unusedVariables false
set_option linter.unusedSimpArgs false
/-- a call's result lies in a variable of its own, not written yet -/
def Fresh (W : World) (r : Nat) : Prop := (∀ j, W.frozen? ⟨r, j, none⟩ = false) ∧ W.cell? ⟨r, 0, none⟩ = some (.bool false) ∧ W.cell? ⟨r, 1, none⟩ = some (.slice none 0 0)
theorem Fresh.new (w : World) : Fresh (w.alloc (.cells #[.bool false, .slice none 0 0] 65)) w.heap.size := ⟨fun j => by simp [go_sem], by simp [go_sem], by simp [go_sem]⟩
theorem Fresh.later {W w2 : World} {r : Nat} (k : Fresh W r) (h : Below W.heap.size W w2) (hr : r < W.heap.size) : Fresh w2 r :=
  ⟨fun j => (h.frozen (p := ⟨r, j, none⟩) hr).trans (k.1 j), (h.cell (p := ⟨r, 0, none⟩) hr).trans k.2.1, (h.cell (p := ⟨r, 1, none⟩) hr).trans k.2.2⟩
theorem Own.store {B : Nat} {w : World} {k : IntKind} {t : TypeId} {ao : Option Addr} {len cap : Nat} {zs : List Int} (h : Own B w k t ao len cap zs) {r : Nat} (hr : r < B) (x y : Value) : Own B ((w.setCell ⟨r, 0, none⟩ x).setCell ⟨r, 1, none⟩ y) k t ao len cap zs :=
  (h.setOther (a := ⟨r, 0, none⟩) hr x).setOther (a := ⟨r, 1, none⟩) hr y
theorem below_store {B r : Nat} {w w2 : World} (hb : Below B w w2) (hr : B ≤ r) (x y : Value) : Below B w ((w2.setCell ⟨r, 0, none⟩ x).setCell ⟨r, 1, none⟩ y) :=
  (hb.setCell (p := ⟨r, 0, none⟩) hr x).setCell (p := ⟨r, 1, none⟩) hr y
theorem wrapU (x : Int) : IntKind.u64.wrap x = x % 18446744073709551616 := by rw [IntKind.wrap_u64]
theorem sgn_natAbs (n : Int) : sgn (decide (n < 0)) n.natAbs = n := by
  unfold sgn; split
  · rename_i h; have := of_decide_eq_true h; omega
  · rename_i h; have : ¬ n < 0 := fun e => h (decide_eq_true e)
    omega
set_option maxRecDepth 100000 in
set_option maxHeartbeats 400000 in
theorem size_any (n : Int) (w : World) (h1 : -9223372036854775808 ≤ n) (h2 : n ≤ 9223372036854775807) :
    Calls Tryd.prog 98 #[.int .i64 n] w fun e w' => e = .returned (.int .u64 (n.natAbs : Int)) ∧ w' = w := by
  by_cases h : n < 0
  · go_enter Tryd.func98, Tryd.ntmps98
    go_wp2
    go_ret
    refine ⟨ret_int ?_, rfl⟩
    rw [wrapU, wrapU]; omega
  · go_enter Tryd.func98, Tryd.ntmps98
    go_wp2
    go_ret
    refine ⟨ret_int ?_, rfl⟩
    omega
theorem mag_len_one {n : Nat} (h : n < 18446744073709551616) : (mag n).length ≤ 1 := mag_len_le (by simp; omega)
set_option maxRecDepth 100000 in
set_option maxHeartbeats 1000000 in
theorem rfrom_any (n : Int) (w : World) (h1 : -9223372036854775808 ≤ n) (h2 : n ≤ 9223372036854775807) :
    Calls Tryd.prog 80 #[.int .i64 n] w fun e w' => NewInt w w' e n := by
  obtain ⟨W0, hW0⟩ : ∃ W0, W0 = w.alloc (.cells #[.bool false, .slice none 0 0] 65) := ⟨_, rfl⟩
  have hbW : Below w.heap.size w W0 := by subst hW0; exact (Below.refl _ _).alloc (Nat.le_refl _) _
  have hsz : W0.heap.size = w.heap.size + 1 := by subst hW0; simp
  have KF : Fresh W0 w.heap.size := by subst hW0; exact Fresh.new w
  have hcon := size_any n W0 h1 h2
  have HN : Hid (n.natAbs < 18446744073709551616) := by show _ < _; omega
  obtain ⟨N, hN⟩ : ∃ N, n.natAbs = N := ⟨_, rfl⟩
  rw [hN] at hcon HN
  have HE : Hid (sgn (decide (n < 0)) N = n) := by show _ = _; rw [← hN]; exact sgn_natAbs n
  clear hN
  rw [hW0] at hcon
  have HW : Hid (W0 = w.alloc (.cells #[.bool false, .slice none 0 0] 65)) := hW0
  clear hW0
  go_enter Tryd.func80, Tryd.ntmps80
  go_wp2_with (first
    | (go_at_call 98; refine hcon.mono ?_; rintro e w0 ⟨rfl, rfl⟩; rw [← HW.out])
    | (go_at_call 67; refine (nof_any N _ HN.out).mono ?_; rintro e w1 ⟨ao1, l1, c1, rfl, ho1, hb1⟩; have hlen1 : l1 ≤ 1 := by (rw [ho1.row.hlen]; exact mag_len_one HN.out))
    | (go_at_call 66; refine (made_any (decide (n < 0)) ao1 l1 c1 _ (by omega)).mono ?_; rintro e w2 ⟨rfl, hb2⟩; obtain ⟨g5, g3, g4⟩ := KF.later (bnext hb1 hb2) (by omega)))
  exact bodyPost_ret (v := .agg #[.bool (decide (n < 0) && decide (0 < l1)), .slice ao1 l1 c1]) (by simp [results, Tryd.results80, go_sem, g3, g4]) rfl
    (NewInt.ret ((ho1.later hb2).store (by omega) _ _) (by omega) HE.out.symm (below_store (bnext hbW (bnext hb1 hb2)) (Nat.le_refl _) _ _))
end Go.Proofs.YtnniipekcbjloaaDoor
/- Walks: checkBoth, Add; wakes. -/
namespace Go.Proofs.YtnniipekcbjloaaDoor
open Go.RowKit
set_option linter.unusedVariables false
set_option linter.unusedSimpArgs false
theorem may_int (v : Int) : mayB (sgB v) (mag v.natAbs) = true := by
  by_cases h : mag v.natAbs = []
  · rw [h, mayB_nil]
    have := (limbs_eq_nil (q := 18446744073709551616) (by decide)).1 h
    have : ¬ v < 0 := by omega
    simp [sgB, this]
  · obtain ⟨r, z, e⟩ := snoc_of h
    have hc := mag_can v.natAbs
    rw [e] at hc ⊢
    have := can_snoc.1 hc
    simp [mayB, this]
/-- what is a number has a value -/
theorem int_of_may {w : World} {neg : Bool} {ao : Option Addr} {len cap : Nat} {zs : List Int} (hr : RowAt w .u64 ao len cap zs) (hW : Wd 18446744073709551616 zs) (hm : mayB neg zs = true) : ∃ v, IntAt w neg ao len cap v ∧ zs = mag v.natAbs := by
  have hc : Can zs := by
    by_cases h : zs = []
    · subst h; exact Can.nil
    · obtain ⟨r, z, e⟩ := snoc_of h
      subst e; exact can_snoc.2 (by simpa [mayB] using hm)
  have h0 := val_nonneg (q := 18446744073709551616) (by decide) hW
  have e : mag (val 18446744073709551616 zs).toNat = zs := mag_of hW hc (by omega)
  refine ⟨sgn neg (val 18446744073709551616 zs).toNat, ⟨?_, ?_⟩, ?_⟩
  · rw [sgB_sgn, e]
    by_cases h : zs = []
    · subst h; rw [mayB_nil] at hm; simp at hm; simp [hm]
    · have : 0 < zs.length := List.length_pos_iff.2 h
      simp [this]
  · rw [natAbs_sgn, e]; exact hr
  · rw [natAbs_sgn, e]
theorem check_at (neg : Bool) (ao : Option Addr) (len cap : Nat) (zs : List Int) (w : World) (hr : RowAt w .u64 ao len cap zs) (hl : len ≤ 4611686018427387904) (c : Int) (hc : (if mayB neg zs then 0 else 10 : Int) = c) :
    Calls Tryd.prog 75 #[.agg #[.bool neg, .slice ao len cap]] w fun e w' => e = .returned (.int .i64 c) ∧ Below w.heap.size w w' := by
  refine (check_any neg ao len cap zs w hr hl).mono fun e w' h => ?_
  rw [hc] at h; exact h
/-- a number that was handed in lies in a variable of its own -/
def Boxed (W : World) (r : Nat) (neg : Bool) (ao : Option Addr) (l c : Nat) : Prop := W.cell? ⟨r, 0, none⟩ = some (.bool neg) ∧ W.cell? ⟨r, 1, none⟩ = some (.slice ao l c)
theorem Boxed.later {W w2 : World} {r : Nat} {neg : Bool} {ao : Option Addr} {l c : Nat} (k : Boxed W r neg ao l c) (h : Below W.heap.size W w2) (hr : r < W.heap.size) : Boxed w2 r neg ao l c :=
  ⟨(h.cell (p := ⟨r, 0, none⟩) hr).trans k.1, (h.cell (p := ⟨r, 1, none⟩) hr).trans k.2⟩
/-- two numbers handed in, a result to come -/
structure Two3 (w W : World) (na nb : Bool) (ao bo : Option Addr) (la ca lb cb : Nat) : Prop where
  eq : W = ((w.alloc (.cells #[.bool na, .slice ao la ca] 65)).alloc (.cells #[.bool nb, .slice bo lb cb] 65)).alloc (.cells #[.bool false, .slice none 0 0] 65)
  below : Below w.heap.size w W
  size : W.heap.size = w.heap.size + 3
  a : Boxed W w.heap.size na ao la ca
  b : Boxed W (w.heap.size + 1) nb bo lb cb
  r : Fresh W (w.heap.size + 1 + 1)
theorem Two3.mk' (w : World) (na nb : Bool) (ao bo : Option Addr) (la ca lb cb : Nat) : ∃ W, Two3 w W na nb ao bo la ca lb cb := by
  refine ⟨_, rfl, (((Below.refl _ _).alloc (Nat.le_refl _) _).alloc (by simp) _).alloc (by simp; omega) _, by simp, ⟨by simp [go_sem], by simp [go_sem]⟩, ⟨by simp [go_sem], by simp [go_sem]⟩, ?_⟩
  have := Fresh.new ((w.alloc (.cells #[.bool na, .slice ao la ca] 65)).alloc (.cells #[.bool nb, .slice bo lb cb] 65))
  simpa using this
end Go.Proofs.YtnniipekcbjloaaDoor
/- Walks: the page's own sums of numbers. -/
namespace Go.Proofs.YtnniipekcbjloaaDoor
open Go.RowKit
set_option linter.unusedVariables false
set_option linter.unusedSimpArgs false
/-- a number, in whatever memory: what the page's own calls hand back -/
def RefInt (w w' : World) (e : Ending) (v : Int) : Prop :=
  ∃ neg ao len cap, e = .returned (.agg #[.bool neg, .slice ao len cap]) ∧ IntAt w' neg ao len cap v ∧ Below w.heap.size w w'
theorem NewInt.ref {w w' : World} {e : Ending} {v : Int} (h : NewInt w w' e v) : RefInt w w' e v := by
  obtain ⟨neg, ao, l, c, he, hs, ho, hb⟩ := h
  exact ⟨neg, ao, l, c, he, ⟨hs, ho.row⟩, hb⟩
theorem RefInt.ret {w w' : World} {neg : Bool} {n l c : Nat} {ao : Option Addr} {v : Int} (ho : RowAt w' .u64 ao l c (mag n)) (hv : v = sgn neg n) (hb : Below w.heap.size w w') : RefInt w w' (.returned (.agg #[.bool (neg && decide (0 < l)), .slice ao l c])) v := by
  subst hv
  refine ⟨_, _, _, _, rfl, ⟨?_, ?_⟩, hb⟩
  · rw [sgB_sgn, ho.hlen]
  · rw [natAbs_sgn]; exact ho
theorem NewInt.ret2 {w w' : World} {neg : Bool} {B n l c : Nat} {ao : Option Addr} {v : Int} (ho : Own B w' .u64 25 ao l c (mag n)) (hB : w.heap.size ≤ B) (hv : v = sgn neg n) (hb : Below w.heap.size w w') : NewInt w w' (.returned (.agg #[.bool (neg && decide (0 < l)), .slice ao l c])) v := by
  subst hv
  refine ⟨_, _, _, _, rfl, ?_, by rw [natAbs_sgn]; exact ho.mono hB, hb⟩
  rw [sgB_sgn, ho.row.hlen]
theorem ncmp_at (ao bo : Option Addr) (la ca lb cb a b : Nat) (w : World) (hx : RowAt w .u64 ao la ca (mag a)) (hy : RowAt w .u64 bo lb cb (mag b)) (hl : la ≤ 4294967296) (hl' : lb ≤ 4294967296) (c : Int) (hc : cmpI a b = c) :
    Calls Tryd.prog 93 #[.slice ao la ca, .slice bo lb cb] w fun e w' => e = .returned (.int .i64 c) ∧ Below w.heap.size w w' := by
  refine (ncmp_any ao bo la ca lb cb (mag a) (mag b) w hx hy (mag_wd _) (mag_wd _) (mag_can _) (mag_can _) (by omega) (by omega)).mono fun e w' h => ?_
  rw [mag_val, mag_val, hc] at h; exact h
set_option maxRecDepth 100000 in
set_option maxHeartbeats 1000000 in
theorem rplus_same (na nb : Bool) (ao bo : Option Addr) (la ca lb cb : Nat) (a b : Int) (w : World) (hx : IntAt w na ao la ca a) (hy : IntAt w nb bo lb cb b) (hl : la ≤ 1073741824) (hl' : lb ≤ 1073741824) (hs : na = nb) :
    Calls Tryd.prog 96 #[.agg #[.bool na, .slice ao la ca], .agg #[.bool nb, .slice bo lb cb]] w fun e w' => NewInt w w' e (a + b) := by
  obtain ⟨W, hT⟩ := Two3.mk' w na nb ao bo la ca lb cb
  have hsz := hT.size
  have hRx := hx.later hT.below
  have hRy := hy.later hT.below
  subst hs
  have KS : Hid (∀ w' : World, Below (w.heap.size + 2) W w' → (Below (w.heap.size + 2) W w' ∧ w'.cell? ⟨w.heap.size, 0, none⟩ = some (.bool na) ∧ w'.cell? ⟨w.heap.size, 1, none⟩ = some (.slice ao la ca) ∧ w'.cell? ⟨w.heap.size + 1, 1, none⟩ = some (.slice bo lb cb))) := fun w' h => ⟨h, (h.cell (p := ⟨w.heap.size, 0, none⟩) (by show w.heap.size < _; omega)).trans hT.a.1, (h.cell (p := ⟨w.heap.size, 1, none⟩) (by show w.heap.size < _; omega)).trans hT.a.2, (h.cell (p := ⟨w.heap.size + 1, 1, none⟩) (by show w.heap.size + 1 < _; omega)).trans hT.b.2⟩
  have K1 : Hid (∀ w1 w2 : World, (Below (w.heap.size + 2) W w1 ∧ w1.cell? ⟨w.heap.size, 0, none⟩ = some (.bool na) ∧ w1.cell? ⟨w.heap.size, 1, none⟩ = some (.slice ao la ca) ∧ w1.cell? ⟨w.heap.size + 1, 1, none⟩ = some (.slice bo lb cb)) → Below w1.heap.size w1 w2 → (Below (w.heap.size + 2) W w2 ∧ w2.cell? ⟨w.heap.size, 0, none⟩ = some (.bool na) ∧ w2.cell? ⟨w.heap.size, 1, none⟩ = some (.slice ao la ca) ∧ w2.cell? ⟨w.heap.size + 1, 1, none⟩ = some (.slice bo lb cb))) := fun w1 w2 h hb => KS.out _ (h.1.trans (hb.mono (by have := h.1.size; omega)))
  have K2 : Hid (∀ w1 w2 : World, (Below (w.heap.size + 2) W w1 ∧ w1.cell? ⟨w.heap.size, 0, none⟩ = some (.bool na) ∧ w1.cell? ⟨w.heap.size, 1, none⟩ = some (.slice ao la ca) ∧ w1.cell? ⟨w.heap.size + 1, 1, none⟩ = some (.slice bo lb cb)) → Below (w.heap.size + 2) w1 w2 → (Below (w.heap.size + 2) W w2 ∧ w2.cell? ⟨w.heap.size, 0, none⟩ = some (.bool na) ∧ w2.cell? ⟨w.heap.size, 1, none⟩ = some (.slice ao la ca) ∧ w2.cell? ⟨w.heap.size + 1, 1, none⟩ = some (.slice bo lb cb))) := fun w1 w2 h hb => KS.out _ (h.1.trans hb)
  have HE : Hid (a + b = sgn na (a.natAbs + b.natAbs)) := sgn_add_same hx.sg hy.sg
  clear hx hy
  go_enter Tryd.func96, Tryd.ntmps96
  go_wp2
  rw [← hT.eq]
  go_region_held3 (fun w' => Below (w.heap.size + 2) W w' ∧ w'.cell? ⟨w.heap.size, 0, none⟩ = some (.bool na) ∧ w'.cell? ⟨w.heap.size, 1, none⟩ = some (.slice ao la ca) ∧ w'.cell? ⟨w.heap.size + 1, 1, none⟩ = some (.slice bo lb cb))
    (first
      | exact KS.out _ (Below.refl _ _).drew
      | exact K1.out _ _ (by assumption) (by assumption)
      | exact K2.out _ _ (by assumption) (below_store (Below.refl _ _) (by omega) _ _))
    (first
      | (go_at_call 102; refine (nplus_any ao bo la ca lb cb a.natAbs b.natAbs _ (hRx.row.later (Below.refl _ _).drew) (hRy.row.later (Below.refl _ _).drew) hl hl').mono ?_; rintro e w1 ⟨ao1, l1, c1, rfl, ho1, hb1⟩; have hlen1 : l1 ≤ 4611686018427387904 := by (rw [ho1.row.hlen]; have := mag_len_add a.natAbs b.natAbs; rw [← hRx.row.hlen, ← hRy.row.hlen] at this; omega))
      | (go_at_call 66; refine (made_any na ao1 l1 c1 _ hlen1).mono ?_; rintro e w2 ⟨rfl, hb2⟩; obtain ⟨g5, g3, g4⟩ := hT.r.later (bnext ((Below.refl _ _).drew.trans hb1) hb2) (by omega)))
  go_wp2
  exact bodyPost_ret (v := .agg #[.bool (na && decide (0 < l1)), .slice ao1 l1 c1]) (by simp [results, Tryd.results96, go_sem, g3, g4]) rfl
    (NewInt.ret2 ((ho1.later hb2).store (by show _ < W.heap.size; omega) _ _) (by show _ ≤ W.heap.size; omega) (HE.out) (below_store (bnext hT.below (bnext ((Below.refl _ _).drew.trans hb1) hb2)) (by omega) _ _))
set_option maxRecDepth 100000 in
set_option maxHeartbeats 1000000 in
theorem rplus_ge (na nb : Bool) (ao bo : Option Addr) (la ca lb cb : Nat) (a b : Int) (w : World) (hx : IntAt w na ao la ca a) (hy : IntAt w nb bo lb cb b) (hl : la ≤ 1073741824) (hl' : lb ≤ 1073741824) (hs : na ≠ nb) (hle : b.natAbs ≤ a.natAbs) :
    Calls Tryd.prog 96 #[.agg #[.bool na, .slice ao la ca], .agg #[.bool nb, .slice bo lb cb]] w fun e w' => NewInt w w' e (a + b) := by
  obtain ⟨W, hT⟩ := Two3.mk' w na nb ao bo la ca lb cb
  have hsz := hT.size
  have hRx := hx.later hT.below
  have hRy := hy.later hT.below
  have hs' : (na == nb) = false := by simpa using hs
  obtain ⟨cc, hcc, hcp⟩ := cmpI_ge (a := (a.natAbs : Int)) (b := (b.natAbs : Int)) (by omega)
  have HC : Hid (cmpI (a.natAbs : Int) (b.natAbs : Int) = cc ∧ b.natAbs ≤ a.natAbs) := ⟨hcc, hle⟩
  clear hcc hle
  have KS : Hid (∀ w' : World, Below (w.heap.size + 2) W w' → (Below (w.heap.size + 2) W w' ∧ w'.cell? ⟨w.heap.size, 0, none⟩ = some (.bool na) ∧ w'.cell? ⟨w.heap.size, 1, none⟩ = some (.slice ao la ca) ∧ w'.cell? ⟨w.heap.size + 1, 1, none⟩ = some (.slice bo lb cb))) := fun w' h => ⟨h, (h.cell (p := ⟨w.heap.size, 0, none⟩) (by show w.heap.size < _; omega)).trans hT.a.1, (h.cell (p := ⟨w.heap.size, 1, none⟩) (by show w.heap.size < _; omega)).trans hT.a.2, (h.cell (p := ⟨w.heap.size + 1, 1, none⟩) (by show w.heap.size + 1 < _; omega)).trans hT.b.2⟩
  have K1 : Hid (∀ w1 w2 : World, (Below (w.heap.size + 2) W w1 ∧ w1.cell? ⟨w.heap.size, 0, none⟩ = some (.bool na) ∧ w1.cell? ⟨w.heap.size, 1, none⟩ = some (.slice ao la ca) ∧ w1.cell? ⟨w.heap.size + 1, 1, none⟩ = some (.slice bo lb cb)) → Below w1.heap.size w1 w2 → (Below (w.heap.size + 2) W w2 ∧ w2.cell? ⟨w.heap.size, 0, none⟩ = some (.bool na) ∧ w2.cell? ⟨w.heap.size, 1, none⟩ = some (.slice ao la ca) ∧ w2.cell? ⟨w.heap.size + 1, 1, none⟩ = some (.slice bo lb cb))) := fun w1 w2 h hb => KS.out _ (h.1.trans (hb.mono (by have := h.1.size; omega)))
  have K2 : Hid (∀ w1 w2 : World, (Below (w.heap.size + 2) W w1 ∧ w1.cell? ⟨w.heap.size, 0, none⟩ = some (.bool na) ∧ w1.cell? ⟨w.heap.size, 1, none⟩ = some (.slice ao la ca) ∧ w1.cell? ⟨w.heap.size + 1, 1, none⟩ = some (.slice bo lb cb)) → Below (w.heap.size + 2) w1 w2 → (Below (w.heap.size + 2) W w2 ∧ w2.cell? ⟨w.heap.size, 0, none⟩ = some (.bool na) ∧ w2.cell? ⟨w.heap.size, 1, none⟩ = some (.slice ao la ca) ∧ w2.cell? ⟨w.heap.size + 1, 1, none⟩ = some (.slice bo lb cb))) := fun w1 w2 h hb => KS.out _ (h.1.trans hb)
  have HE : Hid (a + b = sgn na (a.natAbs - b.natAbs)) := sgn_add_diff hx.sg hy.sg hs HC.out.2
  clear hx hy
  go_enter Tryd.func96, Tryd.ntmps96
  go_wp2_with (go_at_call 93; rw [← hT.eq]; refine (ncmp_at ao bo la ca lb cb a.natAbs b.natAbs _ hRx.row hRy.row (by omega) (by omega) cc HC.out.1).mono ?_; rintro e w0 ⟨rfl, hb0⟩; have hs0 := hb0.size)
  have hbX : Below (w.heap.size + 2) W w0 := hb0.mono (by omega)
  go_region_held3 (fun w' => Below (w.heap.size + 2) W w' ∧ w'.cell? ⟨w.heap.size, 0, none⟩ = some (.bool na) ∧ w'.cell? ⟨w.heap.size, 1, none⟩ = some (.slice ao la ca) ∧ w'.cell? ⟨w.heap.size + 1, 1, none⟩ = some (.slice bo lb cb))
    (first
      | exact KS.out _ (hbX).drew
      | exact K1.out _ _ (by assumption) (by assumption)
      | exact K2.out _ _ (by assumption) (below_store (Below.refl _ _) (by omega) _ _))
    (first
      | (go_at_call 94; refine (nless_any ao bo la ca lb cb a.natAbs b.natAbs _ (hRx.row.later hb0.drew) (hRy.row.later hb0.drew) hl hl' HC.out.2).mono ?_; rintro e w1 ⟨ao1, l1, c1, rfl, ho1, hb1⟩; have hlen1 : l1 ≤ 4611686018427387904 := by (rw [ho1.row.hlen]; have := mag_len_mono (Nat.sub_le a.natAbs b.natAbs); rw [← hRx.row.hlen] at this; omega))
      | (go_at_call 66; refine (made_any na ao1 l1 c1 _ hlen1).mono ?_; rintro e w2 ⟨rfl, hb2⟩; obtain ⟨g5, g3, g4⟩ := hT.r.later (bnext (bnext hb0.drew hb1) hb2) (by omega)))
  go_wp2
  exact bodyPost_ret (v := .agg #[.bool (na && decide (0 < l1)), .slice ao1 l1 c1]) (by simp [results, Tryd.results96, go_sem, g3, g4]) rfl
    (NewInt.ret2 ((ho1.later hb2).store (by show _ < w0.heap.size; omega) _ _) (by show _ ≤ w0.heap.size; omega) (HE.out) (below_store (bnext hT.below (bnext (bnext hb0.drew hb1) hb2)) (by omega) _ _))
set_option maxRecDepth 100000 in
set_option maxHeartbeats 1000000 in
theorem rplus_lt (na nb : Bool) (ao bo : Option Addr) (la ca lb cb : Nat) (a b : Int) (w : World) (hx : IntAt w na ao la ca a) (hy : IntAt w nb bo lb cb b) (hl : la ≤ 1073741824) (hl' : lb ≤ 1073741824) (hs : na ≠ nb) (hlt : a.natAbs < b.natAbs) :
    Calls Tryd.prog 96 #[.agg #[.bool na, .slice ao la ca], .agg #[.bool nb, .slice bo lb cb]] w fun e w' => NewInt w w' e (a + b) := by
  obtain ⟨W, hT⟩ := Two3.mk' w na nb ao bo la ca lb cb
  have hsz := hT.size
  have hRx := hx.later hT.below
  have hRy := hy.later hT.below
  have hs' : (na == nb) = false := by simpa using hs
  have HC : Hid (cmpI (a.natAbs : Int) (b.natAbs : Int) = -1 ∧ a.natAbs < b.natAbs) := ⟨cmpI_lt (by omega), hlt⟩
  clear hlt
  have KS : Hid (∀ w' : World, Below (w.heap.size + 2) W w' → (Below (w.heap.size + 2) W w' ∧ w'.cell? ⟨w.heap.size, 1, none⟩ = some (.slice ao la ca) ∧ w'.cell? ⟨w.heap.size + 1, 0, none⟩ = some (.bool nb) ∧ w'.cell? ⟨w.heap.size + 1, 1, none⟩ = some (.slice bo lb cb))) := fun w' h => ⟨h, (h.cell (p := ⟨w.heap.size, 1, none⟩) (by show w.heap.size < _; omega)).trans hT.a.2, (h.cell (p := ⟨w.heap.size + 1, 0, none⟩) (by show w.heap.size + 1 < _; omega)).trans hT.b.1, (h.cell (p := ⟨w.heap.size + 1, 1, none⟩) (by show w.heap.size + 1 < _; omega)).trans hT.b.2⟩
  have K1 : Hid (∀ w1 w2 : World, (Below (w.heap.size + 2) W w1 ∧ w1.cell? ⟨w.heap.size, 1, none⟩ = some (.slice ao la ca) ∧ w1.cell? ⟨w.heap.size + 1, 0, none⟩ = some (.bool nb) ∧ w1.cell? ⟨w.heap.size + 1, 1, none⟩ = some (.slice bo lb cb)) → Below w1.heap.size w1 w2 → (Below (w.heap.size + 2) W w2 ∧ w2.cell? ⟨w.heap.size, 1, none⟩ = some (.slice ao la ca) ∧ w2.cell? ⟨w.heap.size + 1, 0, none⟩ = some (.bool nb) ∧ w2.cell? ⟨w.heap.size + 1, 1, none⟩ = some (.slice bo lb cb))) := fun w1 w2 h hb => KS.out _ (h.1.trans (hb.mono (by have := h.1.size; omega)))
  have K2 : Hid (∀ w1 w2 : World, (Below (w.heap.size + 2) W w1 ∧ w1.cell? ⟨w.heap.size, 1, none⟩ = some (.slice ao la ca) ∧ w1.cell? ⟨w.heap.size + 1, 0, none⟩ = some (.bool nb) ∧ w1.cell? ⟨w.heap.size + 1, 1, none⟩ = some (.slice bo lb cb)) → Below (w.heap.size + 2) w1 w2 → (Below (w.heap.size + 2) W w2 ∧ w2.cell? ⟨w.heap.size, 1, none⟩ = some (.slice ao la ca) ∧ w2.cell? ⟨w.heap.size + 1, 0, none⟩ = some (.bool nb) ∧ w2.cell? ⟨w.heap.size + 1, 1, none⟩ = some (.slice bo lb cb))) := fun w1 w2 h hb => KS.out _ (h.1.trans hb)
  have HE : Hid (a + b = sgn nb (b.natAbs - a.natAbs)) := by show _ = _; rw [Int.add_comm]; exact sgn_add_diff hy.sg hx.sg (Ne.symm hs) (Nat.le_of_lt HC.out.2)
  clear hx hy
  go_enter Tryd.func96, Tryd.ntmps96
  go_wp2_with (go_at_call 93; rw [← hT.eq]; refine (ncmp_at ao bo la ca lb cb a.natAbs b.natAbs _ hRx.row hRy.row (by omega) (by omega) (-1) HC.out.1).mono ?_; rintro e w0 ⟨rfl, hb0⟩; have hs0 := hb0.size)
  have hbX : Below (w.heap.size + 2) W w0 := hb0.mono (by omega)
  go_region_held3 (fun w' => Below (w.heap.size + 2) W w' ∧ w'.cell? ⟨w.heap.size, 1, none⟩ = some (.slice ao la ca) ∧ w'.cell? ⟨w.heap.size + 1, 0, none⟩ = some (.bool nb) ∧ w'.cell? ⟨w.heap.size + 1, 1, none⟩ = some (.slice bo lb cb))
    (first
      | exact KS.out _ (hbX).drew
      | exact K1.out _ _ (by assumption) (by assumption)
      | exact K2.out _ _ (by assumption) (below_store (Below.refl _ _) (by omega) _ _))
    (first
      | (go_at_call 94; refine (nless_any bo ao lb cb la ca b.natAbs a.natAbs _ (hRy.row.later hb0.drew) (hRx.row.later hb0.drew) hl' hl (Nat.le_of_lt HC.out.2)).mono ?_; rintro e w1 ⟨ao1, l1, c1, rfl, ho1, hb1⟩; have hlen1 : l1 ≤ 4611686018427387904 := by (rw [ho1.row.hlen]; have := mag_len_mono (Nat.sub_le b.natAbs a.natAbs); rw [← hRy.row.hlen] at this; omega))
      | (go_at_call 66; refine (made_any nb ao1 l1 c1 _ hlen1).mono ?_; rintro e w2 ⟨rfl, hb2⟩; obtain ⟨g5, g3, g4⟩ := hT.r.later (bnext (bnext hb0.drew hb1) hb2) (by omega)))
  go_wp2
  exact bodyPost_ret (v := .agg #[.bool (nb && decide (0 < l1)), .slice ao1 l1 c1]) (by simp [results, Tryd.results96, go_sem, g3, g4]) rfl
    (NewInt.ret2 ((ho1.later hb2).store (by show _ < w0.heap.size; omega) _ _) (by show _ ≤ w0.heap.size; omega) (HE.out) (below_store (bnext hT.below (bnext (bnext hb0.drew hb1) hb2)) (by omega) _ _))
theorem rplus_new (na nb : Bool) (ao bo : Option Addr) (la ca lb cb : Nat) (a b : Int) (w : World) (hx : IntAt w na ao la ca a) (hy : IntAt w nb bo lb cb b) (hl : la ≤ 1073741824) (hl' : lb ≤ 1073741824) :
    Calls Tryd.prog 96 #[.agg #[.bool na, .slice ao la ca], .agg #[.bool nb, .slice bo lb cb]] w fun e w' => NewInt w w' e (a + b) := by
  by_cases hs : na = nb
  · exact rplus_same na nb ao bo la ca lb cb a b w hx hy hl hl' hs
  · by_cases hle : b.natAbs ≤ a.natAbs
    · exact rplus_ge na nb ao bo la ca lb cb a b w hx hy hl hl' hs hle
    · exact rplus_lt na nb ao bo la ca lb cb a b w hx hy hl hl' hs (by omega)
theorem rplus_any (na nb : Bool) (ao bo : Option Addr) (la ca lb cb : Nat) (a b : Int) (w : World) (hx : IntAt w na ao la ca a) (hy : IntAt w nb bo lb cb b) (hl : la ≤ 1073741824) (hl' : lb ≤ 1073741824) :
    Calls Tryd.prog 96 #[.agg #[.bool na, .slice ao la ca], .agg #[.bool nb, .slice bo lb cb]] w fun e w' => RefInt w w' e (a + b) :=
  (rplus_new na nb ao bo la ca lb cb a b w hx hy hl hl').mono fun _ _ h => h.ref
end Go.Proofs.YtnniipekcbjloaaDoor
/- Walks: signs, negatives, sizes, comparisons. -/
namespace Go.Proofs.YtnniipekcbjloaaDoor
open Go.RowKit
set_option linter.unusedVariables false
set_option linter.unusedSimpArgs false
theorem mag_len_pos {n : Nat} : 0 < (mag n).length ↔ 0 < n := by
  rw [List.length_pos_iff]
  constructor
  · intro h; by_cases e : n = 0
    · subst e; exact absurd rfl h
    · omega
  · intro h e
    have := (limbs_eq_nil (q := 18446744073709551616) (by decide)).1 e
    omega
theorem setCell_ne {w : World} {p q : Addr} {v : Value} (h : ¬ (p.block = q.block ∧ p.off = q.off)) : (w.setCell q v).cell? p = w.cell? p := by
  by_cases hb : p.block = q.block
  · have ho : p.off ≠ q.off := fun e => h ⟨hb, e⟩
    simp only [World.cell?, World.setCell, Array.getElem?_modify, if_pos hb.symm]
    cases hh : w.heap[p.block]? with
    | none => simp
    | some o =>
      cases o with
      | cells c t fr =>
        simp only [Option.map_some]
        by_cases hs : q.spot.isSome
        · simp [hs]
        · simp [hs, Array.getElem?_setIfInBounds, Ne.symm ho]
      | _ => simp
  · exact World.cell?_of_block (w := w) (Below.heap_setCell _ _ _ _ hb)
/-- a row is none of the cells of a result's variable -/
theorem RowAt.kept {w : World} {k : IntKind} {ao : Option Addr} {len cap : Nat} {zs : List Int} (h : RowAt w k ao len cap zs) {r : Nat} (hf : Fresh w r) (x y : Value) : RowAt ((w.setCell ⟨r, 0, none⟩ x).setCell ⟨r, 1, none⟩ y) k ao len cap zs := by
  refine ⟨h.hlen, h.hcap, h.hnil, ?_⟩
  rcases h.hat with h0 | ⟨b, off, h1, hlt, h2⟩
  · exact Or.inl h0
  · refine Or.inr ⟨b, off, h1, by simpa [World.setCell] using hlt, fun t ht => ?_⟩
    have hc := h2 t ht
    rw [setCell_ne, setCell_ne]
    · exact hc
    · rintro ⟨e1, e2⟩
      simp only at e1 e2
      rw [e1, e2, hf.2.1] at hc; cases hc
    · rintro ⟨e1, e2⟩
      simp only at e1 e2
      rw [e1, e2, hf.2.2] at hc; cases hc
/-- one number handed in, a result to come -/
structure One2 (w W : World) (na : Bool) (ao : Option Addr) (la ca : Nat) : Prop where
  eq : W = (w.alloc (.cells #[.bool na, .slice ao la ca] 65)).alloc (.cells #[.bool false, .slice none 0 0] 65)
  below : Below w.heap.size w W
  size : W.heap.size = w.heap.size + 2
  a : Boxed W w.heap.size na ao la ca
  r : Fresh W (w.heap.size + 1)
theorem One2.mk' (w : World) (na : Bool) (ao : Option Addr) (la ca : Nat) : ∃ W, One2 w W na ao la ca := by
  refine ⟨_, rfl, ((Below.refl _ _).alloc (Nat.le_refl _) _).alloc (by simp) _, by simp, ⟨by simp [go_sem], by simp [go_sem]⟩, ?_⟩
  have := Fresh.new (w.alloc (.cells #[.bool na, .slice ao la ca] 65))
  simpa using this
theorem sgn_neg {neg : Bool} {v : Int} (h : neg = sgB v) : -v = sgn (!neg) v.natAbs := by
  subst h; unfold sgn sgB
  by_cases h : v < 0
  · rw [decide_eq_true h]; simp; omega
  · rw [decide_eq_false h]; simp; omega
set_option maxRecDepth 100000 in
set_option maxHeartbeats 400000 in
theorem rneg_any (neg : Bool) (ao : Option Addr) (len cap : Nat) (v : Int) (w : World) (hx : IntAt w neg ao len cap v) (hl : len ≤ 4611686018427387904) :
    Calls Tryd.prog 97 #[.agg #[.bool neg, .slice ao len cap]] w fun e w' => RefInt w w' e (-v) := by
  obtain ⟨W, hT⟩ := One2.mk' w neg ao len cap
  have hsz := hT.size
  have HX : Hid (IntAt w neg ao len cap v) := hx
  have HE : Hid (-v = sgn (!neg) v.natAbs) := sgn_neg hx.sg
  clear hx
  go_enter Tryd.func97, Tryd.ntmps97
  go_wp2_with (go_at_call 66; rw [← hT.eq]; refine (made_any (!neg) ao len cap _ hl).mono ?_; rintro e w2 ⟨rfl, hb2⟩; obtain ⟨g5, g3, g4⟩ := hT.r.later hb2 (by omega))
  exact bodyPost_ret (v := .agg #[.bool ((!neg) && decide (0 < len)), .slice ao len cap]) (by simp [results, Tryd.results97, go_sem, g3, g4]) rfl
    (RefInt.ret (HX.out.row.later (below_store (bnext hT.below hb2) (by omega) _ _)) HE.out (below_store (bnext hT.below hb2) (by omega) _ _))
/-- one number handed in -/
structure One1 (w W : World) (na : Bool) (ao : Option Addr) (la ca : Nat) : Prop where
  eq : W = w.alloc (.cells #[.bool na, .slice ao la ca] 65)
  below : Below w.heap.size w W
  size : W.heap.size = w.heap.size + 1
  a : Boxed W w.heap.size na ao la ca
theorem One1.mk' (w : World) (na : Bool) (ao : Option Addr) (la ca : Nat) : ∃ W, One1 w W na ao la ca :=
  ⟨_, rfl, (Below.refl _ _).alloc (Nat.le_refl _) _, by simp, ⟨by simp [go_sem], by simp [go_sem]⟩⟩
/-- two numbers handed in -/
structure Two2 (w W : World) (na nb : Bool) (ao bo : Option Addr) (la ca lb cb : Nat) : Prop where
  eq : W = (w.alloc (.cells #[.bool na, .slice ao la ca] 65)).alloc (.cells #[.bool nb, .slice bo lb cb] 65)
  below : Below w.heap.size w W
  size : W.heap.size = w.heap.size + 2
  a : Boxed W w.heap.size na ao la ca
  b : Boxed W (w.heap.size + 1) nb bo lb cb
theorem Two2.mk' (w : World) (na nb : Bool) (ao bo : Option Addr) (la ca lb cb : Nat) : ∃ W, Two2 w W na nb ao bo la ca lb cb :=
  ⟨_, rfl, ((Below.refl _ _).alloc (Nat.le_refl _) _).alloc (by simp) _, by simp, ⟨by simp [go_sem], by simp [go_sem]⟩, ⟨by simp [go_sem], by simp [go_sem]⟩⟩
theorem IntAt.may {w : World} {neg : Bool} {ao : Option Addr} {len cap : Nat} {v : Int} (h : IntAt w neg ao len cap v) : (if mayB neg (mag v.natAbs) then 0 else 10 : Int) = 0 := by rw [h.sg, may_int]; rfl
end Go.Proofs.YtnniipekcbjloaaDoor
/- Walks: negatives, sizes, comparisons. -/
namespace Go.Proofs.YtnniipekcbjloaaDoor
open Go.RowKit
set_option linter.unusedVariables false
set_option linter.unusedSimpArgs false
set_option maxRecDepth 100000 in
set_option maxHeartbeats 1000000 in
theorem rless_any (na nb : Bool) (ao bo : Option Addr) (la ca lb cb : Nat) (a b : Int) (w : World) (hx : IntAt w na ao la ca a) (hy : IntAt w nb bo lb cb b) (hl : la ≤ 1073741824) (hl' : lb ≤ 1073741824) :
    Calls Tryd.prog 79 #[.agg #[.bool na, .slice ao la ca], .agg #[.bool nb, .slice bo lb cb]] w fun e w' => RefInt w w' e (a - b) := by
  obtain ⟨W, hT⟩ := Two3.mk' w na nb ao bo la ca lb cb
  have hsz := hT.size
  have hRx := hx.later hT.below
  have hRy := hy.later hT.below
  clear hx hy
  have KS : Hid (∀ w' : World, Below (w.heap.size + 2) W w' → (Below (w.heap.size + 2) W w' ∧ w'.cell? ⟨w.heap.size, 0, none⟩ = some (.bool na) ∧ w'.cell? ⟨w.heap.size, 1, none⟩ = some (.slice ao la ca) ∧ w'.cell? ⟨w.heap.size + 1, 0, none⟩ = some (.bool nb) ∧ w'.cell? ⟨w.heap.size + 1, 1, none⟩ = some (.slice bo lb cb))) := fun w' h => ⟨h, (h.cell (p := ⟨w.heap.size, 0, none⟩) (by show w.heap.size < _; omega)).trans hT.a.1, (h.cell (p := ⟨w.heap.size, 1, none⟩) (by show w.heap.size < _; omega)).trans hT.a.2, (h.cell (p := ⟨w.heap.size + 1, 0, none⟩) (by show w.heap.size + 1 < _; omega)).trans hT.b.1, (h.cell (p := ⟨w.heap.size + 1, 1, none⟩) (by show w.heap.size + 1 < _; omega)).trans hT.b.2⟩
  have K1 : Hid (∀ w1 w2 : World, (Below (w.heap.size + 2) W w1 ∧ w1.cell? ⟨w.heap.size, 0, none⟩ = some (.bool na) ∧ w1.cell? ⟨w.heap.size, 1, none⟩ = some (.slice ao la ca) ∧ w1.cell? ⟨w.heap.size + 1, 0, none⟩ = some (.bool nb) ∧ w1.cell? ⟨w.heap.size + 1, 1, none⟩ = some (.slice bo lb cb)) → Below w1.heap.size w1 w2 → (Below (w.heap.size + 2) W w2 ∧ w2.cell? ⟨w.heap.size, 0, none⟩ = some (.bool na) ∧ w2.cell? ⟨w.heap.size, 1, none⟩ = some (.slice ao la ca) ∧ w2.cell? ⟨w.heap.size + 1, 0, none⟩ = some (.bool nb) ∧ w2.cell? ⟨w.heap.size + 1, 1, none⟩ = some (.slice bo lb cb))) := fun w1 w2 h hb => KS.out _ (h.1.trans (hb.mono (by have := h.1.size; omega)))
  have K2 : Hid (∀ w1 w2 : World, (Below (w.heap.size + 2) W w1 ∧ w1.cell? ⟨w.heap.size, 0, none⟩ = some (.bool na) ∧ w1.cell? ⟨w.heap.size, 1, none⟩ = some (.slice ao la ca) ∧ w1.cell? ⟨w.heap.size + 1, 0, none⟩ = some (.bool nb) ∧ w1.cell? ⟨w.heap.size + 1, 1, none⟩ = some (.slice bo lb cb)) → Below (w.heap.size + 2) w1 w2 → (Below (w.heap.size + 2) W w2 ∧ w2.cell? ⟨w.heap.size, 0, none⟩ = some (.bool na) ∧ w2.cell? ⟨w.heap.size, 1, none⟩ = some (.slice ao la ca) ∧ w2.cell? ⟨w.heap.size + 1, 0, none⟩ = some (.bool nb) ∧ w2.cell? ⟨w.heap.size + 1, 1, none⟩ = some (.slice bo lb cb))) := fun w1 w2 h hb => KS.out _ (h.1.trans hb)
  go_enter Tryd.func79, Tryd.ntmps79
  go_wp2
  rw [← hT.eq]
  go_region_held3 (fun w' => Below (w.heap.size + 2) W w' ∧ w'.cell? ⟨w.heap.size, 0, none⟩ = some (.bool na) ∧ w'.cell? ⟨w.heap.size, 1, none⟩ = some (.slice ao la ca) ∧ w'.cell? ⟨w.heap.size + 1, 0, none⟩ = some (.bool nb) ∧ w'.cell? ⟨w.heap.size + 1, 1, none⟩ = some (.slice bo lb cb))
    (first
      | exact KS.out _ (Below.refl _ _).drew
      | exact K1.out _ _ (by assumption) (by assumption)
      | exact K2.out _ _ (by assumption) (below_store (Below.refl _ _) (by omega) _ _))
    (first
      | (go_at_call 97; refine (rneg_any nb bo lb cb b _ (hRy.later (Below.refl _ _).drew) (by omega)).mono ?_; rintro e w1 ⟨n1, ao1, l1, c1, rfl, hi1, hb1⟩; have HI1 : Hid (IntAt w1 n1 ao1 l1 c1 (-b)) := hi1; clear hi1; have hlen1 : l1 ≤ 1073741824 := by (rw [HI1.out.row.hlen]; have := hRy.row.hlen; rw [Int.natAbs_neg]; omega))
      | (go_at_call 96; refine (rplus_any na n1 ao ao1 la ca l1 c1 a (-b) _ (hRx.later ((Below.refl _ _).drew.trans hb1)) HI1.out hl hlen1).mono ?_; rintro e w2 ⟨n2, ao2, l2, c2, rfl, hi2, hb2⟩; have HI2 : Hid (IntAt w2 n2 ao2 l2 c2 (a + -b)) := hi2; clear hi2; obtain ⟨g5, g3, g4⟩ := hT.r.later (bnext ((Below.refl _ _).drew.trans hb1) hb2) (by omega)))
  go_wp2
  exact bodyPost_ret (v := .agg #[.bool n2, .slice ao2 l2 c2]) (by simp [results, Tryd.results79, go_sem, g3, g4]) rfl
    ⟨_, _, _, _, rfl, ⟨HI2.out.sg, HI2.out.row.kept ⟨g5, g3, g4⟩ _ _⟩, below_store (bnext hT.below (bnext ((Below.refl _ _).drew.trans hb1) hb2)) (by omega) _ _⟩
end Go.Proofs.YtnniipekcbjloaaDoor
/- math/bits by the shelf's contracts, laid at this program; how many bits a number has. -/
namespace Go.Proofs.YtnniipekcbjloaaDoor
open Go.RowKit
set_option linter.unusedVariables false
set_option linter.unusedSimpArgs false
def renB : Go.Shelf.Ren := ⟨fun x => if x = 129 then 77 else if x = 134 then 100 else 83, fun x => if x = 3 then 3 else if x = 4 then 4 else if x = 5 then 5 else if x = 9 then 9 else if x = 46 then 100 else 25, fun x => x⟩
theorem lays134 : Lays.n134 Tryd.prog renB := by
  constructor <;> first | (intro w; kernel_rfl) | kernel_rfl
def renM : Go.Shelf.Ren := ⟨fun x => 83, fun x => if x = 3 then 3 else if x = 4 then 4 else if x = 46 then 100 else 25, fun x => x⟩
theorem lays264 : Lays.n264 Tryd.prog renM := by
  constructor <;> first | (intro w; kernel_rfl) | kernel_rfl
theorem leading_any (x : Int) (w : World) (h0 : 0 ≤ x) (h1 : x ≤ 18446744073709551615) :
    Calls Tryd.prog 100 #[.int .u64 x] w fun e w' => e = .returned (.int .i64 (64 - (Lib.bitLen x.toNat : Int))) ∧ w' = w :=
  Any.bits_LeadingZeros64 lays134 x w h0 h1
theorem mul64_any (x y : Nat) (w : World) (hx : x < 18446744073709551616) (hy : y < 18446744073709551616) :
    Calls Tryd.prog 83 #[.int .u64 x, .int .u64 y] w fun e w' => e = .returned (.tuple #[.int .u64 ((x * y / 18446744073709551616 : Nat) : Int), .int .u64 ((x * y % 18446744073709551616 : Nat) : Int)]) ∧ w' = w :=
  Any.bits_Mul64 lays264 x y hx hy w
/-- how many bits: of a row whose top word is z -/
def rowBits (len : Nat) (z : Int) : Int := if len = 0 then 0 else 64 * ((len : Int) - 1) + (Lib.bitLen z.toNat : Int)
theorem bitLen_zero : Lib.bitLen 0 = 0 := by decide
theorem bitLen_le (z : Int) (h0 : 0 ≤ z) (h1 : z < 18446744073709551616) : Lib.bitLen z.toNat ≤ 64 := Lib.bitLen_le z.toNat 64 (by omega) (by omega)
theorem bitLen_halve (z : Int) (h0 : 0 < z) (h1 : z < 18446744073709551616) : Lib.bitLen z.toNat = 1 + Lib.bitLen (z / 2).toNat := by
  rw [Lib.bitLen_half z.toNat (by omega) (by omega)]
  congr 2
  omega
set_option maxRecDepth 100000 in
set_option maxHeartbeats 1000000 in
theorem nlen_any (ao : Option Addr) (len cap : Nat) (zs : List Int) (w : World) (hr : RowAt w .u64 ao len cap zs) (hW : Wd 18446744073709551616 zs) (hl : len ≤ 4294967296) :
    Calls Tryd.prog 91 #[.slice ao len cap] w fun e w' => e = .returned (.int .i64 (rowBits len (dig zs (len - 1)))) ∧ w' = w := by
  by_cases hp : 0 < len
  · obtain ⟨b, off, rfl, hlt, hc⟩ := hr.get hp
    have hcell := hc (len - 1) (by omega)
    have hb := hW.dig (by decide) (len - 1)
    obtain ⟨z, hz⟩ : ∃ z, dig zs (len - 1) = z := ⟨_, rfl⟩
    rw [hz] at hcell hb ⊢
    obtain ⟨hb1, hb2⟩ := hb
    have hl0 : ((len : Int) == 0) = false := by simp; omega
    have hbl := bitLen_le z hb1 hb2
    obtain ⟨B, hB⟩ : ∃ B, Lib.bitLen z.toNat = B := ⟨_, rfl⟩
    have HR : Hid (rowBits len z = 64 * ((len : Int) - 1) + (B : Int)) := by show _ = _; rw [← hB]; unfold rowBits; rw [if_neg (by omega)]
    rw [HR.out]
    have HB : Hid (Lib.bitLen z.toNat = B) := hB
    rw [hB] at hbl
    clear hz hc hr hW hB
    go_enter Tryd.func91, Tryd.ntmps91
    go_wp2
    go_loop [3, 4] (fun n x => ∃ (m : Nat) (y : Int), m ≤ 64 ∧ 0 ≤ y ∧ y < 18446744073709551616 ∧ n = .int .i64 (64 * ((len : Int) - 1) + (m : Int)) ∧ x = .int .u64 y ∧ m + Lib.bitLen y.toNat = B) (fun _ x => (intOf x).toNat)
    case atStart => exact ⟨0, z, by omega, hb1, hb2, by go_num, rfl, by rw [HB.out]; omega⟩
    case round =>
      obtain ⟨m, y, hm, hy1, hy2, rfl, rfl, hmy⟩ := hrel
      have HM : Hid (m + Lib.bitLen y.toNat = B) := hmy
      clear hmy
      by_cases hy0 : y = 0
      · subst hy0
        go_wp2
        go_ret
        exact ⟨ret_int (by have := HM.out; rw [show Int.toNat 0 = 0 from rfl, bitLen_zero] at this; omega), rfl⟩
      · have hne : (y != 0) = true := by simpa using hy0
        have hh := bitLen_halve y (by omega) hy2
        have HH : Hid (Lib.bitLen y.toNat = 1 + Lib.bitLen (y / 2).toNat) := hh
        have hm2 : m + 1 ≤ 64 := by have := HM.out; have := HH.out; omega
        clear hh
        go_wp2
        go_round
        case rel => exact ⟨m + 1, y / 2, hm2, by omega, by omega, by go_num, by go_num, by have := HM.out; have := HH.out; omega⟩
        case measure => simp [intOf]; omega
  · obtain rfl : len = 0 := by omega
    go_enter Tryd.func91, Tryd.ntmps91
    go_wp2
    go_ret
    exact ⟨rfl, rfl⟩
end Go.Proofs.YtnniipekcbjloaaDoor
/- Walks: Cmp, Small. -/
namespace Go.Proofs.YtnniipekcbjloaaDoor
open Go.RowKit
set_option linter.unusedVariables false
set_option linter.unusedSimpArgs false
/-- the word of a number that has one -/
theorem mag_one {n : Nat} (h : 0 < n) (h1 : n < 18446744073709551616) : mag n = [(n : Int)] := mag_of (Wd.one (by omega)) (by simp [Can]; omega) (by simp [val])
end Go.Proofs.YtnniipekcbjloaaDoor
/- Walks: addTimes; a part of a row cleared. -/
namespace Go.Proofs.YtnniipekcbjloaaDoor
open Go.RowKit
set_option linter.unusedVariables false
set_option linter.unusedSimpArgs false
theorem mul64_ex (v u : Int) (hv : 0 ≤ v ∧ v < 18446744073709551616) (hu : 0 ≤ u ∧ u < 18446744073709551616) : ∃ hi lo : Int, (∀ W : World, Calls Tryd.prog 83 #[.int .u64 v, .int .u64 u] W fun e w' => e = .returned (.tuple #[.int .u64 hi, .int .u64 lo]) ∧ w' = W) ∧
    (0 ≤ hi ∧ hi ≤ 18446744073709551614) ∧ (0 ≤ lo ∧ lo < 18446744073709551616) ∧ hi * 18446744073709551616 + lo = v * u := by
  obtain ⟨v, rfl⟩ := Int.eq_ofNat_of_zero_le hv.1
  obtain ⟨u, rfl⟩ := Int.eq_ofNat_of_zero_le hu.1
  refine ⟨_, _, fun W => mul64_any v u W (by omega) (by omega), ?_, by omega, ?_⟩
  · have h : v * u ≤ 18446744073709551615 * 18446744073709551615 := Nat.mul_le_mul (by omega) (by omega)
    omega
  · rw [← Int.natCast_mul]
    have := Nat.div_add_mod (v * u) 18446744073709551616
    omega
/-- the first k digits of x, u times, were added to those of L from off on; c is carried -/
structure MulSt (q : Int) (L x : List Int) (u : Int) (off k : Nat) (c : Int) (Lk : List Int) : Prop where
  len : Lk.length = L.length
  out : ∀ j, j < off ∨ off + k ≤ j → dig Lk j = dig L j
  wd : Wd q Lk
  c0 : 0 ≤ c
  c1 : c < q
  eq : V q Lk off k + c * q ^ k = V q L off k + u * val q (x.take k)
theorem MulSt.start {q : Int} {L x : List Int} {u : Int} (off : Nat) (h : Wd q L) (hq : 0 < q) : MulSt q L x u off 0 0 L :=
  ⟨rfl, fun _ _ => rfl, h, Int.le_refl _, hq, by simp [V_zero, val]⟩
theorem MulSt.step {q : Int} {L x : List Int} {u : Int} {off k : Nat} {c : Int} {Lk : List Int} (h : MulSt q L x u off k c Lk) (hk : off + k < L.length) {d c' : Int} (hd : 0 ≤ d ∧ d < q) (hc : 0 ≤ c' ∧ c' < q)
    (he : d + c' * q = dig L (off + k) + dig x k * u + c) : MulSt q L x u off (k + 1) c' (Lk.set (off + k) d) := by
  have hl : off + k < Lk.length := by rw [h.len]; exact hk
  refine ⟨by simp [h.len], fun j hj => ?_, h.wd.set _ hd, hc.1, hc.2, ?_⟩
  · rw [dig_set _ hl, if_neg (by omega)]; exact h.out j (by omega)
  · have e1 : V q (Lk.set (off + k) d) off k = V q Lk off k := V_congr fun j hj => by rw [dig_set _ hl, if_neg (by omega)]
    rw [V_succ, V_succ, e1, dig_set _ hl, if_pos rfl, val_take_dig, Int.pow_succ]
    have h1 := h.eq
    have e2 : q ^ k * (d + c' * q) = q ^ k * (dig L (off + k) + dig x k * u + c) := by rw [he]
    grind
end Go.Proofs.YtnniipekcbjloaaDoor
