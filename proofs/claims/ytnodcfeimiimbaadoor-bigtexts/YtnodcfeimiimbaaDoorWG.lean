/-
  WE, WF, WG.
-/
import Derived.Test.YtnodcfeimiimbaaDoorWD

/- Walks: whole. -/
namespace Go.Proofs.YtnodcfeimiimbaaDoor
open Go.RowKit
set_option linter.unusedVariables false
set_option linter.unusedSimpArgs false

/-- digits two by two -/
def join : List Int → List Int
  | [] => []
  | [a] => [a]
  | a :: b :: r => (a + 4294967296 * b) :: join r
theorem join_val : ∀ ds : List Int, val 18446744073709551616 (join ds) = val 4294967296 ds
  | [] => rfl
  | [a] => by simp [join, val]
  | a :: b :: r => by simp only [join, val, join_val r]; omega
theorem join_wd : ∀ {ds : List Int}, Wd 4294967296 ds → Wd 18446744073709551616 (join ds)
  | [], _ => Wd.nil _
  | [a], h => Wd.one (by have := h.head; omega)
  | a :: b :: r, h => Wd.cons (by have := h.head; have := h.tail.head; omega) (join_wd h.tail.tail)
theorem join_even : ∀ {p : List Int} {k : Nat}, p.length = 2 * k → ∀ s, join (p ++ s) = join p ++ join s
  | [], _, _, s => rfl
  | [a], k, h, s => by simp at h; omega
  | a :: b :: r, k, h, s => by
    have : r.length = 2 * (k - 1) := by simp at h; omega
    simp only [List.cons_append, join, join_even this s]
theorem join_len : ∀ {p : List Int} {k : Nat}, p.length = 2 * k → (join p).length = k
  | [], k, h => by simp at h; simp [join]; omega
  | [a], k, h => by simp at h; omega
  | a :: b :: r, k, h => by
    have : r.length = 2 * (k - 1) := by simp at h; omega
    simp only [join, List.length_cons, join_len this]; simp at h; omega
theorem or_shift (a b : Int) (ha : 0 ≤ a ∧ a < 4294967296) (hb : 0 ≤ b ∧ b < 4294967296) : bits .or .u64 a (b * 4294967296) = a + 4294967296 * b := by
  obtain ⟨a, rfl⟩ := Int.eq_ofNat_of_zero_le ha.1
  obtain ⟨b, rfl⟩ := Int.eq_ofNat_of_zero_le hb.1
  have h := bits_or_u64_nat a (b * 4294967296) (by omega) (by omega)
  have e : a ||| b * 4294967296 = b * 4294967296 + a := by
    have := Nat.shiftLeft_add_eq_or_of_lt (i := 32) (b := a) (by omega) b
    rw [Nat.shiftLeft_eq] at this
    rw [Nat.or_comm]; exact this.symm
  rw [e] at h
  rw [Int.natCast_mul] at h
  refine h.trans ?_
  rw [Int.natCast_add, Int.natCast_mul, Int.add_comm, Int.mul_comm]; rfl

set_option maxRecDepth 100000 in
set_option maxHeartbeats 1000000 in
theorem whole_any (ao : Option Addr) (len cap : Nat) (ds : List Int) (w : World) (hr : RowAt w .u32 ao len cap ds) (hW : Wd 4294967296 ds) (hl : len ≤ 8589934592) (N : Nat) (hN : val 4294967296 ds = N) :
    Calls Tryd.prog 55 #[.slice ao len cap] w fun e w' => NewNat w w' e N := by
  obtain ⟨i0, hi, hz0, hz1, hz2⟩ := info_parts info64
  have HL : Hid (len = ds.length ∧ Wd 4294967296 ds ∧ val 4294967296 ds = N) := ⟨hr.hlen, hW, hN⟩
  clear hW hN
  go_enter Tryd.func55, Tryd.ntmps55
  go_wp2
  go_loopw [3, 4] (fun v i wr => ∃ k : Nat, 2 * k ≤ len + 1 ∧ i = .int .i64 (2 * k : Nat) ∧ wr.ownsRow w.heap.size 54 1 v k ((join (ds.take (2 * k))).map (Value.int .u64)) ∧ Below w.heap.size w wr) (fun _ i _ => len + 1 - (intOf i).toNat)
  case atStart => exact ⟨0, Nat.zero_le _, rfl, World.ownsRow_nil _ _ _ _, Below.refl _ _⟩
  case round =>
    obtain ⟨k, hk, rfl, hown, hbel⟩ := hrel
    obtain ⟨j, hj⟩ : ∃ j, 2 * k = j := ⟨_, rfl⟩
    rw [hj]
    rw [hj] at hk hown
    have HJ : Hid (2 * k = j) := hj
    have hkj : k ≤ j := by omega
    clear hj
    by_cases hlt : j < len
    · obtain ⟨b, off, rfl, hb, hc⟩ := hr.get (by omega)
      have hcell : wr.cell? ⟨b, off + j, none⟩ = some (.int .u32 (dig ds j)) := (hbel.cell (p := ⟨b, off + j, none⟩) hb).trans (hc j hlt)
      obtain ⟨x, hx⟩ : ∃ x, dig ds j = x := ⟨_, rfl⟩
      rw [hx] at hcell
      have hxb : 0 ≤ x ∧ x < 4294967296 := hx ▸ HL.out.2.1.dig (by decide) j
      obtain ⟨hx1, hx2⟩ := hxb
      have hbs : b < wr.heap.size := by have := hbel.size; omega
      have h63 : Hid (k + 1 ≤ maxLen) := by show _ ≤ _; unfold maxLen; omega
      have hby : Hid ((k + 1) * 8 ≤ 140737488355328) := by show _ ≤ _; omega
      have hbz : Hid (w.heap.size ≤ wr.heap.size + 1) := by show _ ≤ _; have := hbel.size; omega
      by_cases hlt2 : j + 1 < len
      · have hcell2 : wr.cell? ⟨b, off + (j + 1), none⟩ = some (.int .u32 (dig ds (j + 1))) := (hbel.cell (p := ⟨b, off + (j + 1), none⟩) hb).trans (hc (j + 1) hlt2)
        obtain ⟨y, hy⟩ : ∃ y, dig ds (j + 1) = y := ⟨_, rfl⟩
        rw [hy] at hcell2
        have hyb : 0 ≤ y ∧ y < 4294967296 := hy ▸ HL.out.2.1.dig (by decide) (j + 1)
        obtain ⟨hy1, hy2⟩ := hyb
        have hor := or_shift x y ⟨hx1, hx2⟩ ⟨hy1, hy2⟩
        clear hc
        have HX : Hid ((join (ds.take (2 * (k + 1)))).map (Value.int .u64) = (join (ds.take j)).map (Value.int .u64) ++ [.int .u64 (x + 4294967296 * y)]) := by
          show _ = _
          have hln := HL.out.1
          have e1 : 2 * (k + 1) = j + 1 + 1 := by have := HJ.out; omega
          rw [e1, take_getD (by omega), take_getD (by omega), List.append_assoc, join_even (k := k) (by have := HJ.out; simp; omega), List.map_append]
          have a1 : ds.getD j 0 = x := hx
          have a2 : ds.getD (j + 1) 0 = y := hy
          rw [a1, a2]; rfl
        clear hx hy
        go_wp2_with (at_builtin; refine wpList_append_lies _ rfl _ _ 28 rfl w.heap.size 54 i0 (.int .u64 0) 1 8 Tryd.underlying28 hi hz0 hz1 hz2 rfl (by decide) _ k _ rfl (hown.alloc _) ⟨wr.heap.size, 0, none⟩ 1 1 [.int .u64 (x + 4294967296 * y)] rfl rfl (World.news_of_block (cs := #[.int .u64 (x + 4294967296 * y)]) (t := 54) (fr := (0, 0)) (heap_alloc_new wr _)) (by simp [Value.oneCell']) (by decide) h63.out hby.out (by simpa using hbz.out) (wr.heap.size + 1) (by simp) ?_; intro g cp w1 hown1 hgrow hat hltg)
        have hB1 : Below w.heap.size w w1 := (hbel.alloc hbel.size _).grown hgrow (by simpa using hbz.out) (own_from hown)
        go_roundw
        case rel => exact ⟨k + 1, by have := HJ.out; omega, by have := HJ.out; go_num, by rw [HX.out]; exact hown1, hB1⟩
        case measure => simp [intOf]; omega
      · obtain rfl : len = j + 1 := by omega
        have HX : Hid ((join (ds.take (2 * (k + 1)))).map (Value.int .u64) = (join (ds.take j)).map (Value.int .u64) ++ [.int .u64 x]) := by
          show _ = _
          have hln := HL.out.1
          rw [List.take_of_length_le (by have := HJ.out; omega)]
          have e1 : ds = ds.take j ++ [x] := by
            have := take_getD (zs := ds) (k := j) (by omega)
            rw [List.take_of_length_le (by omega)] at this
            have a1 : ds.getD j 0 = x := hx
            rw [a1] at this; exact this
          have e2 : join ds = join (ds.take j) ++ [x] := by
            have := congrArg join e1
            rw [join_even (k := k) (by have := HJ.out; simp; omega)] at this
            exact this
          rw [e2, List.map_append]; rfl
        clear hc hx
        go_wp2_with (at_builtin; refine wpList_append_lies _ rfl _ _ 28 rfl w.heap.size 54 i0 (.int .u64 0) 1 8 Tryd.underlying28 hi hz0 hz1 hz2 rfl (by decide) _ k _ rfl (hown.alloc _) ⟨wr.heap.size, 0, none⟩ 1 1 [.int .u64 x] rfl rfl (World.news_of_block (cs := #[.int .u64 x]) (t := 54) (fr := (0, 0)) (heap_alloc_new wr _)) (by simp [Value.oneCell']) (by decide) h63.out hby.out (by simpa using hbz.out) (wr.heap.size + 1) (by simp) ?_; intro g cp w1 hown1 hgrow hat hltg)
        have hB1 : Below w.heap.size w w1 := (hbel.alloc hbel.size _).grown hgrow (by simpa using hbz.out) (own_from hown)
        go_roundw
        case rel => exact ⟨k + 1, by have := HJ.out; omega, by have := HJ.out; go_num, by rw [HX.out]; exact hown1, hB1⟩
        case measure => simp [intOf]; omega
    · have hkl : Hid (ds.take j = ds) := List.take_of_length_le (by have := HL.out.1; omega)
      rw [hkl.out] at hown
      have hlen : (join ds).length = k := by
        have := hown.1; simpa using this
      obtain ⟨ao1, c1, hv, hrow⟩ := row_of_owns hlen hown
      subst hv
      have hcap := cap_of_owns hown
      have hOw := Own.ofRow hlen hown
      go_wp2_with (go_at_call 56; refine (ntrim_any ao1 k c1 (join ds) _ hrow hcap).mono ?_; rintro e w4 ⟨hT, rfl⟩; obtain ⟨ao', n', cap', hn', rfl, hrest⟩ := hT)
      go_ret
      exact Trimmed.natOwn (L := join ds) ⟨ao', n', cap', hn', rfl, hrest⟩ hOw (join_wd HL.out.2.1) (by rw [join_val, HL.out.2.2]) hbel
end Go.Proofs.YtnodcfeimiimbaaDoor

/- Walks: NPlus. -/
namespace Go.Proofs.YtnodcfeimiimbaaDoor
open Go.RowKit
set_option linter.unusedVariables false
set_option linter.unusedSimpArgs false

theorem dig_over {zs : List Int} {k : Nat} (h : zs.length ≤ k) : dig zs k = 0 := by simp [dig, List.getElem?_eq_none h]
/-- the first k digits of both were added; c is carried -/
structure PlusSt (x y : List Int) (k : Nat) (c : Int) (L : List Int) : Prop where
  len : L.length = k
  wd : Wd 4294967296 L
  c0 : 0 ≤ c
  c1 : c ≤ 1
  eq : val 4294967296 L + c * 4294967296 ^ k = val 4294967296 (x.take k) + val 4294967296 (y.take k)
theorem PlusSt.step {x y : List Int} {k : Nat} {c : Int} {L : List Int} (h : PlusSt x y k c L) {d c' : Int} (hd : 0 ≤ d ∧ d < 4294967296) (hc : 0 ≤ c' ∧ c' ≤ 1) (he : d + c' * 4294967296 = c + dig x k + dig y k) : PlusSt x y (k + 1) c' (L ++ [d]) := by
  refine ⟨by simp [h.len], h.wd.append (Wd.one hd), hc.1, hc.2, ?_⟩
  have h1 := h.eq
  rw [val_snoc, h.len, val_take_dig, val_take_dig, Int.pow_succ]
  have e2 : 4294967296 ^ k * (d + c' * 4294967296) = 4294967296 ^ k * (c + dig x k + dig y k) := by rw [he]
  grind
/-- where an own row lies, if it lies anywhere: from block B on -/
theorem own_from2 {w : World} {B C : Nat} {t : TypeId} {v : Value} {n : Nat} {xs : List Value} (_h : w.ownsRow C t 1 v n xs) (hf : ∀ g, v.ownBlock = some g → B ≤ g) : ∀ k, v.ownBlock = some k → B ≤ k := hf
theorem far_of {v : Value} {g n cp : Nat} {B H : Nat} (hat : v.ownBlock = some g ∨ g = H + 1) (hf : ∀ g, v.ownBlock = some g → B ≤ g) (hB : B ≤ H) : ∀ k, (Value.slice (some ⟨g, 0, none⟩) n cp).ownBlock = some k → B ≤ k := by
  intro k hk
  simp only [Value.ownBlock, Option.some.injEq] at hk
  subst hk
  rcases hat with h | h
  · exact hf g h
  · omega

set_option maxRecDepth 100000 in
set_option maxHeartbeats 3000000 in
theorem nplus_any (ao bo : Option Addr) (la ca lb cb : Nat) (a n2 : Nat) (w : World) (hx : RowAt w .u64 ao la ca (mag a)) (hy : RowAt w .u64 bo lb cb (mag n2)) (hl : la ≤ 1073741824) (hl' : lb ≤ 1073741824) :
    Calls Tryd.prog 36 #[.slice ao la ca, .slice bo lb cb] w fun e w' => NewNat w w' e (a + n2) := by
  obtain ⟨i0, hi, hz0, hz1, hz2⟩ := info_parts info32
  have HI : Hid (RowAt w .u64 ao la ca (mag a) ∧ RowAt w .u64 bo lb cb (mag n2)) := ⟨hx, hy⟩
  clear hx hy
  go_enter Tryd.func36, Tryd.ntmps36
  go_wp2_with (first
    | (go_at_call_of 33 ao; refine (halves_any ao la ca (mag a) _ HI.out.1 (mag_wd a) (by omega) a (mag_val a)).mono ?_; rintro e w0 ⟨⟨xo, lx, cx, rfl, hX0⟩, hb0⟩)
    | (go_at_call 33; refine (halves_any bo lb cb (mag n2) _ (HI.out.2.later hb0) (mag_wd n2) (by omega) n2 (mag_val n2)).mono ?_; rintro e w1 ⟨⟨yo, ly, cy, rfl, hY⟩, hb1⟩))
  have hX := hX0.later hb1
  have hbw : Below w.heap.size w w1 := bnext hb0 hb1
  have hlx : lx ≤ 2147483648 := by have := half_len_le HI.out.1.hlen; rw [← hX.hlen] at this; omega
  have hly : ly ≤ 2147483648 := by have := half_len_le HI.out.2.hlen; rw [← hY.hlen] at this; omega
  have HXY : Hid (RowAt w1 .u32 xo lx cx (half a) ∧ RowAt w1 .u32 yo ly cy (half n2)) := ⟨hX, hY⟩
  clear hX0 hb0 hb1
  go_loopw [7, 8, 9] (fun v c i wr => ∃ (k : Nat) (cv : Int) (L : List Int), k ≤ lx + ly ∧ i = .int .i64 k ∧ c = .int .u64 cv ∧ PlusSt (half a) (half n2) k cv L ∧ wr.ownsRow w.heap.size 65 1 v k (L.map (Value.int .u32)) ∧ Below w1.heap.size w1 wr ∧ (∀ g, v.ownBlock = some g → w1.heap.size ≤ g)) (fun _ _ i _ => lx + ly - (intOf i).toNat)
  case atStart => exact ⟨0, 0, [], Nat.zero_le _, rfl, rfl, ⟨rfl, Wd.nil _, by decide, by decide, by simp [val]⟩, World.ownsRow_nil _ _ _ _, Below.refl _ _, fun g h => by simp [Value.ownBlock] at h⟩
  case round =>
    obtain ⟨k, cv, L, hk, rfl, rfl, hst, hown, hbel, hfar⟩ := hrel
    have HS : Hid (PlusSt (half a) (half n2) k cv L) := hst
    have hc0 := hst.c0
    have hc1 := hst.c1
    clear hst
    by_cases h1 : k < lx
    · by_cases h2 : k < ly
      ·
        obtain ⟨b, off, rfl, hb, hc⟩ := hX.get (by omega)
        have hcx : wr.cell? ⟨b, off + k, none⟩ = some (.int .u32 (dig (half a) k)) := (hbel.cell (p := ⟨b, off + k, none⟩) hb).trans (hc k (by omega))
        have hbs : b < wr.heap.size := by have := hbel.size; omega
        clear hc
        obtain ⟨b', off', rfl, hb', hc'⟩ := hY.get (by omega)
        have hcy : wr.cell? ⟨b', off' + k, none⟩ = some (.int .u32 (dig (half n2) k)) := (hbel.cell (p := ⟨b', off' + k, none⟩) hb').trans (hc' k (by omega))
        have hbs' : b' < wr.heap.size := by have := hbel.size; omega
        clear hc'
        obtain ⟨u, hu⟩ : ∃ u, dig (half a) k = u := ⟨_, rfl⟩
        obtain ⟨v, hv⟩ : ∃ v, dig (half n2) k = v := ⟨_, rfl⟩
        have HU : Hid (dig (half a) k = u ∧ dig (half n2) k = v) := ⟨hu, hv⟩
        have hu1 : 0 ≤ u ∧ u < 4294967296 := hu ▸ (half_wd a).dig (by decide) k
        have hv1 : 0 ≤ v ∧ v < 4294967296 := hv ▸ (half_wd n2).dig (by decide) k
        rw [hu] at hcx
        rw [hv] at hcy
        clear hu hv hX hY
        obtain ⟨hu1, hu2⟩ := hu1
        obtain ⟨hv1, hv2⟩ := hv1
        have HX : Hid (PlusSt (half a) (half n2) (k + 1) ((cv + u + v) / 4294967296) (L ++ [IntKind.u32.wrap (cv + u + v)])) := by
          skip
          rw [IntKind.wrap_u32']
          refine HS.out.step (by omega) (by omega) (by rw [HU.out.1, HU.out.2]; omega)
        have h63 : Hid (k + 1 ≤ maxLen) := by show _ ≤ _; unfold maxLen; omega
        have hby : Hid ((k + 1) * 4 ≤ 140737488355328) := by show _ ≤ _; omega
        have hbz : Hid (w1.heap.size ≤ wr.heap.size + 1) := by show _ ≤ _; have := hbel.size; omega
        have hbz0 : Hid (w.heap.size ≤ wr.heap.size + 1) := by show _ ≤ _; have := hbel.size; have := hbw.size; omega
        go_wp2_with (at_builtin; refine wpList_append_lies _ rfl _ _ 63 rfl w.heap.size 65 i0 (.int .u32 0) 1 4 Tryd.underlying63 hi hz0 hz1 hz2 rfl (by decide) _ k _ rfl (hown.alloc _) ⟨wr.heap.size, 0, none⟩ 1 1 [.int .u32 (IntKind.u32.wrap (cv + u + v))] rfl rfl (World.news_of_block (cs := #[.int .u32 (IntKind.u32.wrap (cv + u + v))]) (t := 65) (fr := (0, 0)) (heap_alloc_new wr _)) (by simp [Value.oneCell']) (by decide) h63.out hby.out (by simpa using hbz0.out) (wr.heap.size + 1) (by simp) ?_; intro g cp w3 hown1 hgrow hat hltg)
        have hB1 : Below w1.heap.size w1 w3 := (hbel.alloc hbel.size _).grown hgrow (by simpa using hbz.out) (own_from2 hown hfar)
        go_roundw
        case rel => exact ⟨k + 1, (cv + u + v) / 4294967296, L ++ [IntKind.u32.wrap (cv + u + v)], by omega, by go_num, rfl, HX.out, by rw [List.map_append]; exact hown1, hB1, far_of hat hfar hbel.size⟩
        case measure => simp [intOf]; omega
      ·
        obtain ⟨b, off, rfl, hb, hc⟩ := hX.get (by omega)
        have hcx : wr.cell? ⟨b, off + k, none⟩ = some (.int .u32 (dig (half a) k)) := (hbel.cell (p := ⟨b, off + k, none⟩) hb).trans (hc k (by omega))
        have hbs : b < wr.heap.size := by have := hbel.size; omega
        clear hc
        obtain ⟨u, hu⟩ : ∃ u, dig (half a) k = u := ⟨_, rfl⟩
        obtain ⟨v, hv⟩ : ∃ v, dig (half n2) k = v := ⟨_, rfl⟩
        have HU : Hid (dig (half a) k = u ∧ dig (half n2) k = v) := ⟨hu, hv⟩
        have hu1 : 0 ≤ u ∧ u < 4294967296 := hu ▸ (half_wd a).dig (by decide) k
        have hv1 : 0 ≤ v ∧ v < 4294967296 := hv ▸ (half_wd n2).dig (by decide) k
        rw [hu] at hcx
        clear hu hv hX hY
        obtain ⟨hu1, hu2⟩ := hu1
        obtain ⟨hv1, hv2⟩ := hv1
        have HX : Hid (PlusSt (half a) (half n2) (k + 1) ((cv + u) / 4294967296) (L ++ [IntKind.u32.wrap (cv + u)])) := by
          have hv0 : v = 0 := HU.out.2 ▸ dig_over (by rw [← HXY.out.2.hlen]; omega)
          rw [IntKind.wrap_u32']
          refine HS.out.step (by omega) (by omega) (by rw [HU.out.1, HU.out.2]; omega)
        have h63 : Hid (k + 1 ≤ maxLen) := by show _ ≤ _; unfold maxLen; omega
        have hby : Hid ((k + 1) * 4 ≤ 140737488355328) := by show _ ≤ _; omega
        have hbz : Hid (w1.heap.size ≤ wr.heap.size + 1) := by show _ ≤ _; have := hbel.size; omega
        have hbz0 : Hid (w.heap.size ≤ wr.heap.size + 1) := by show _ ≤ _; have := hbel.size; have := hbw.size; omega
        go_wp2_with (at_builtin; refine wpList_append_lies _ rfl _ _ 63 rfl w.heap.size 65 i0 (.int .u32 0) 1 4 Tryd.underlying63 hi hz0 hz1 hz2 rfl (by decide) _ k _ rfl (hown.alloc _) ⟨wr.heap.size, 0, none⟩ 1 1 [.int .u32 (IntKind.u32.wrap (cv + u))] rfl rfl (World.news_of_block (cs := #[.int .u32 (IntKind.u32.wrap (cv + u))]) (t := 65) (fr := (0, 0)) (heap_alloc_new wr _)) (by simp [Value.oneCell']) (by decide) h63.out hby.out (by simpa using hbz0.out) (wr.heap.size + 1) (by simp) ?_; intro g cp w3 hown1 hgrow hat hltg)
        have hB1 : Below w1.heap.size w1 w3 := (hbel.alloc hbel.size _).grown hgrow (by simpa using hbz.out) (own_from2 hown hfar)
        go_roundw
        case rel => exact ⟨k + 1, (cv + u) / 4294967296, L ++ [IntKind.u32.wrap (cv + u)], by omega, by go_num, rfl, HX.out, by rw [List.map_append]; exact hown1, hB1, far_of hat hfar hbel.size⟩
        case measure => simp [intOf]; omega
    · by_cases h2 : k < ly
      ·
        obtain ⟨b', off', rfl, hb', hc'⟩ := hY.get (by omega)
        have hcy : wr.cell? ⟨b', off' + k, none⟩ = some (.int .u32 (dig (half n2) k)) := (hbel.cell (p := ⟨b', off' + k, none⟩) hb').trans (hc' k (by omega))
        have hbs' : b' < wr.heap.size := by have := hbel.size; omega
        clear hc'
        obtain ⟨u, hu⟩ : ∃ u, dig (half a) k = u := ⟨_, rfl⟩
        obtain ⟨v, hv⟩ : ∃ v, dig (half n2) k = v := ⟨_, rfl⟩
        have HU : Hid (dig (half a) k = u ∧ dig (half n2) k = v) := ⟨hu, hv⟩
        have hu1 : 0 ≤ u ∧ u < 4294967296 := hu ▸ (half_wd a).dig (by decide) k
        have hv1 : 0 ≤ v ∧ v < 4294967296 := hv ▸ (half_wd n2).dig (by decide) k
        rw [hv] at hcy
        clear hu hv hX hY
        obtain ⟨hu1, hu2⟩ := hu1
        obtain ⟨hv1, hv2⟩ := hv1
        have HX : Hid (PlusSt (half a) (half n2) (k + 1) ((cv + v) / 4294967296) (L ++ [IntKind.u32.wrap (cv + v)])) := by
          have hu0 : u = 0 := HU.out.1 ▸ dig_over (by rw [← HXY.out.1.hlen]; omega)
          rw [IntKind.wrap_u32']
          refine HS.out.step (by omega) (by omega) (by rw [HU.out.1, HU.out.2]; omega)
        have h63 : Hid (k + 1 ≤ maxLen) := by show _ ≤ _; unfold maxLen; omega
        have hby : Hid ((k + 1) * 4 ≤ 140737488355328) := by show _ ≤ _; omega
        have hbz : Hid (w1.heap.size ≤ wr.heap.size + 1) := by show _ ≤ _; have := hbel.size; omega
        have hbz0 : Hid (w.heap.size ≤ wr.heap.size + 1) := by show _ ≤ _; have := hbel.size; have := hbw.size; omega
        go_wp2_with (at_builtin; refine wpList_append_lies _ rfl _ _ 63 rfl w.heap.size 65 i0 (.int .u32 0) 1 4 Tryd.underlying63 hi hz0 hz1 hz2 rfl (by decide) _ k _ rfl (hown.alloc _) ⟨wr.heap.size, 0, none⟩ 1 1 [.int .u32 (IntKind.u32.wrap (cv + v))] rfl rfl (World.news_of_block (cs := #[.int .u32 (IntKind.u32.wrap (cv + v))]) (t := 65) (fr := (0, 0)) (heap_alloc_new wr _)) (by simp [Value.oneCell']) (by decide) h63.out hby.out (by simpa using hbz0.out) (wr.heap.size + 1) (by simp) ?_; intro g cp w3 hown1 hgrow hat hltg)
        have hB1 : Below w1.heap.size w1 w3 := (hbel.alloc hbel.size _).grown hgrow (by simpa using hbz.out) (own_from2 hown hfar)
        go_roundw
        case rel => exact ⟨k + 1, (cv + v) / 4294967296, L ++ [IntKind.u32.wrap (cv + v)], by omega, by go_num, rfl, HX.out, by rw [List.map_append]; exact hown1, hB1, far_of hat hfar hbel.size⟩
        case measure => simp [intOf]; omega
      · have h63 : Hid (k + 1 ≤ maxLen) := by show _ ≤ _; unfold maxLen; omega
        have hby : Hid ((k + 1) * 4 ≤ 140737488355328) := by show _ ≤ _; omega
        have hbz : Hid (w1.heap.size ≤ wr.heap.size + 1) := by show _ ≤ _; have := hbel.size; omega
        have hbz0 : Hid (w.heap.size ≤ wr.heap.size + 1) := by show _ ≤ _; have := hbel.size; have := hbw.size; omega
        have HV : Hid (Wd 4294967296 (L ++ [cv]) ∧ val 4294967296 (L ++ [cv]) = ((a + n2 : Nat) : Int) ∧ (L ++ [cv]).length = k + 1) := by
          have e := HS.out.eq
          rw [List.take_of_length_le (by rw [← HXY.out.1.hlen]; omega), List.take_of_length_le (by rw [← HXY.out.2.hlen]; omega), half_val, half_val] at e
          refine ⟨HS.out.wd.append (Wd.one (by omega)), ?_, by simp [HS.out.len]⟩
          rw [val_snoc, HS.out.len]
          have : 4294967296 ^ k * cv = cv * 4294967296 ^ k := Int.mul_comm _ _
          omega
        have ec : IntKind.u32.wrap cv = cv := by rw [IntKind.wrap_u32']; omega
        clear hX hY
        go_wp2_with (first
          | (at_builtin; refine wpList_append_lies _ rfl _ _ 63 rfl w.heap.size 65 i0 (.int .u32 0) 1 4 Tryd.underlying63 hi hz0 hz1 hz2 rfl (by decide) _ k _ rfl (hown.alloc _) ⟨wr.heap.size, 0, none⟩ 1 1 [.int .u32 cv] rfl rfl (World.news_of_block (cs := #[.int .u32 cv]) (t := 65) (fr := (0, 0)) (heap_alloc_new wr _)) (by simp [Value.oneCell']) (by decide) h63.out hby.out (by simpa using hbz0.out) (wr.heap.size + 1) (by simp) ?_; intro g cp w3 hown1 hgrow hat hltg; have hB1 : Below w1.heap.size w1 w3 := (hbel.alloc hbel.size _).grown hgrow (by simpa using hbz.out) (own_from2 hown hfar); have hown2 : w3.ownsRow w.heap.size 65 1 (.slice (some ⟨g, 0, none⟩) (k + 1) cp) (k + 1) ((L ++ [cv]).map (Value.int .u32)) := by (rw [List.map_append]; exact hown1))
          | (go_at_call 54; refine (cut_any (some ⟨g, 0, none⟩) (k + 1) cp (L ++ [cv]) _ (Own.ofRow HV.out.2.2 hown2).row (cap_of_owns hown2)).mono ?_; rintro e w4 ⟨hT, hw4⟩; obtain ⟨ao', n', cap', hn', rfl, hrow', hcan', hval', hrest⟩ := hT; subst hw4; have hn2 : n' ≤ 8589934592 := by omega)
          | (go_at_call 55; refine (whole_any ao' n' cap' ((L ++ [cv]).take n') _ hrow' (HV.out.1.take n') hn2 (a + n2) (by rw [hval', HV.out.2.1])).mono ?_; rintro e w5 ⟨ao5, l5, c5, rfl, ho5, hb5⟩))
        go_ret
        exact ⟨_, _, _, rfl, ho5.mono (by have := hB1.size; have := hbw.size; omega), bnext (bnext hbw hB1) hb5⟩

end Go.Proofs.YtnodcfeimiimbaaDoor

/- Walks: NLess. -/
namespace Go.Proofs.YtnodcfeimiimbaaDoor
open Go.RowKit
set_option linter.unusedVariables false
set_option linter.unusedSimpArgs false

/-- the first k digits of y were taken from those of x; c is borrowed (0 or -1) -/
structure LessSt (x y : List Int) (k : Nat) (c : Int) (L : List Int) : Prop where
  len : L.length = k
  wd : Wd 4294967296 L
  c0 : -1 ≤ c
  c1 : c ≤ 0
  eq : val 4294967296 L + c * 4294967296 ^ k = val 4294967296 (x.take k) - val 4294967296 (y.take k)
theorem LessSt.step {x y : List Int} {k : Nat} {c : Int} {L : List Int} (h : LessSt x y k c L) {d c' : Int} (hd : 0 ≤ d ∧ d < 4294967296) (hc : -1 ≤ c' ∧ c' ≤ 0) (he : d + c' * 4294967296 = c + dig x k - dig y k) : LessSt x y (k + 1) c' (L ++ [d]) := by
  refine ⟨by simp [h.len], h.wd.append (Wd.one hd), hc.1, hc.2, ?_⟩
  have h1 := h.eq
  rw [val_snoc, h.len, val_take_dig, val_take_dig, Int.pow_succ]
  have e2 : 4294967296 ^ k * (d + c' * 4294967296) = 4294967296 ^ k * (c + dig x k - dig y k) := by rw [he]
  grind

end Go.Proofs.YtnodcfeimiimbaaDoor
