/-
  Walks: NLess.
-/
import Derived.Test.YtafohkcbonlgkaaDoorWF
namespace Go.Proofs.YtafohkcbonlgkaaDoor
open Go.RowKit
set_option linter.unusedVariables false
set_option linter.unusedSimpArgs false

/-- the first k digits of y were taken from those of x; c is borrowed (0 or -1) -/
structure LessSt (x y : List Int) (k : Nat) (c : Int) (L : List Int) : Prop where
  len : L.length = k
  wd : Wd 4294967296 L
  c0 : -1 ≤ c
  c1 : c ≤ 0
  eq : val 4294967296 L + c * 4294967296 ^ k = val 4294967296 (x.take k) - val 4294967296 (y.take k)
theorem LessSt.step {x y : List Int} {k : Nat} {c : Int} {L : List Int} (h : LessSt x y k c L) {d c' : Int} (hd : 0 ≤ d ∧ d < 4294967296) (hc : -1 ≤ c' ∧ c' ≤ 0) (he : d + c' * 4294967296 = c + dig x k - dig y k) : LessSt x y (k + 1) c' (L ++ [d]) := by
  refine ⟨by simp [h.len], h.wd.append (Wd.one hd), hc.1, hc.2, ?_⟩
  have h1 := h.eq
  rw [val_snoc, h.len, val_take_dig, val_take_dig, Int.pow_succ]
  have e2 : 4294967296 ^ k * (d + c' * 4294967296) = 4294967296 ^ k * (c + dig x k - dig y k) := by rw [he]
  grind

set_option maxRecDepth 100000 in
set_option maxHeartbeats 3000000 in
theorem nless_any (ao bo : Option Addr) (la ca lb cb : Nat) (a n2 : Nat) (w : World) (hx : RowAt w .u64 ao la ca (mag a)) (hy : RowAt w .u64 bo lb cb (mag n2)) (hl : la ≤ 1073741824) (hl' : lb ≤ 1073741824) (hle : n2 ≤ a) :
    Calls Tryd.prog 43 #[.slice ao la ca, .slice bo lb cb] w fun e w' => NewNat w w' e (a - n2) := by
  obtain ⟨i0, hi, hz0, hz1, hz2⟩ := info_parts info32
  have HI : Hid (RowAt w .u64 ao la ca (mag a) ∧ RowAt w .u64 bo lb cb (mag n2) ∧ n2 ≤ a) := ⟨hx, hy, hle⟩
  clear hx hy hle
  go_enter Tryd.func43, Tryd.ntmps43
  go_wp2_with (first
    | (go_at_call_of 68 ao; refine (halves_any ao la ca (mag a) _ HI.out.1 (mag_wd a) (by omega) a (mag_val a)).mono ?_; rintro e w0 ⟨⟨xo, lx, cx, rfl, hX0⟩, hb0⟩)
    | (go_at_call 68; refine (halves_any bo lb cb (mag n2) _ (HI.out.2.1.later hb0) (mag_wd n2) (by omega) n2 (mag_val n2)).mono ?_; rintro e w1 ⟨⟨yo, ly, cy, rfl, hY⟩, hb1⟩))
  have hX := hX0.later hb1
  have hbw : Below w.heap.size w w1 := bnext hb0 hb1
  have hlx : lx ≤ 2147483648 := by have := half_len_le HI.out.1.hlen; rw [← hX.hlen] at this; omega
  have hly : ly ≤ 2147483648 := by have := half_len_le HI.out.2.1.hlen; rw [← hY.hlen] at this; omega
  have hxy : Hid (ly ≤ lx) := by
    show _ ≤ _
    by_cases h : lx < ly
    · have := val_lt_of_len (q := 4294967296) (by decide) (half_wd a) (half_wd n2) (half_can n2) (by rw [← hX.hlen, ← hY.hlen]; exact h)
      rw [half_val, half_val] at this; have := HI.out.2.2; omega
    · omega
  have HXY : Hid (RowAt w1 .u32 xo lx cx (half a) ∧ RowAt w1 .u32 yo ly cy (half n2)) := ⟨hX, hY⟩
  clear hX0 hb0 hb1
  go_loopw [7, 8, 9] (fun v c i wr => ∃ (k : Nat) (cv : Int) (L : List Int), k ≤ lx ∧ i = .int .i64 k ∧ c = .int .i64 cv ∧ LessSt (half a) (half n2) k cv L ∧ wr.ownsRow w.heap.size 78 1 v k (L.map (Value.int .u32)) ∧ Below w1.heap.size w1 wr ∧ (∀ g, v.ownBlock = some g → w1.heap.size ≤ g)) (fun _ _ i _ => lx - (intOf i).toNat)
  case atStart => exact ⟨0, 0, [], Nat.zero_le _, rfl, rfl, ⟨rfl, Wd.nil _, by decide, by decide, by simp [val]⟩, World.ownsRow_nil _ _ _ _, Below.refl _ _, fun g h => by simp [Value.ownBlock] at h⟩
  case round =>
    obtain ⟨k, cv, L, hk, rfl, rfl, hst, hown, hbel, hfar⟩ := hrel
    have HS : Hid (LessSt (half a) (half n2) k cv L) := hst
    have hc0 := hst.c0
    have hc1 := hst.c1
    clear hst
    by_cases h1 : k < lx
    · by_cases h2 : k < ly
      ·
        obtain ⟨b, off, rfl, hb, hc⟩ := hX.get (by omega)
        have hcx : wr.cell? ⟨b, off + k, none⟩ = some (.int .u32 (dig (half a) k)) := (hbel.cell (p := ⟨b, off + k, none⟩) hb).trans (hc k (by omega))
        have hbs : b < wr.heap.size := by have := hbel.size; omega
        clear hc
        obtain ⟨b', off', rfl, hb', hc'⟩ := hY.get (by omega)
        have hcy : wr.cell? ⟨b', off' + k, none⟩ = some (.int .u32 (dig (half n2) k)) := (hbel.cell (p := ⟨b', off' + k, none⟩) hb').trans (hc' k (by omega))
        have hbs' : b' < wr.heap.size := by have := hbel.size; omega
        clear hc'
        obtain ⟨u, hu⟩ : ∃ u, dig (half a) k = u := ⟨_, rfl⟩
        obtain ⟨v, hv⟩ : ∃ v, dig (half n2) k = v := ⟨_, rfl⟩
        have HU : Hid (dig (half a) k = u ∧ dig (half n2) k = v) := ⟨hu, hv⟩
        have hu1 : 0 ≤ u ∧ u < 4294967296 := hu ▸ (half_wd a).dig (by decide) k
        have hv1 : 0 ≤ v ∧ v < 4294967296 := hv ▸ (half_wd n2).dig (by decide) k
        rw [hu] at hcx
        rw [hv] at hcy
        clear hu hv hX hY
        obtain ⟨hu1, hu2⟩ := hu1
        obtain ⟨hv1, hv2⟩ := hv1
        have HX : Hid (LessSt (half a) (half n2) (k + 1) ((cv + u - v) / 4294967296) (L ++ [(cv + u - v) % 4294967296])) := by
          refine HS.out.step (by omega) (by omega) (by rw [HU.out.1, HU.out.2]; omega)
        have h63 : Hid (k + 1 ≤ maxLen) := by show _ ≤ _; unfold maxLen; omega
        have hby : Hid ((k + 1) * 4 ≤ 140737488355328) := by show _ ≤ _; omega
        have hbz : Hid (w1.heap.size ≤ wr.heap.size + 1) := by show _ ≤ _; have := hbel.size; omega
        have hbz0 : Hid (w.heap.size ≤ wr.heap.size + 1) := by show _ ≤ _; have := hbel.size; have := hbw.size; omega
        have ew : IntKind.u32.wrap (IntKind.u64.wrap (cv + u - v)) = (cv + u - v) % 4294967296 := by rw [IntKind.wrap_u32', IntKind.wrap_u64]; omega
        obtain ⟨sv, hsv⟩ : ∃ sv, cv + u - v = sv := ⟨_, rfl⟩
        rw [hsv] at HX ew
        obtain ⟨dv, hdv⟩ : ∃ dv, sv % 4294967296 = dv := ⟨_, rfl⟩
        rw [hdv] at HX ew
        clear hdv
        have hsb : -8589934592 ≤ sv ∧ sv ≤ 8589934592 := by omega
        obtain ⟨hsb1, hsb2⟩ := hsb
        go_wp2_with (at_builtin; refine wpList_append_lies _ rfl _ _ 76 rfl w.heap.size 78 i0 (.int .u32 0) 1 4 Tryd.underlying76 hi hz0 hz1 hz2 rfl (by decide) _ k _ rfl (hown.alloc _) ⟨wr.heap.size, 0, none⟩ 1 1 [.int .u32 dv] rfl rfl (World.news_of_block (cs := #[.int .u32 dv]) (t := 78) (fr := (0, 0)) (heap_alloc_new wr _)) (by simp [Value.oneCell']) (by decide) h63.out hby.out (by simpa using hbz0.out) (wr.heap.size + 1) (by simp) ?_; intro g cp w3 hown1 hgrow hat hltg)
        have hB1 : Below w1.heap.size w1 w3 := (hbel.alloc hbel.size _).grown hgrow (by simpa using hbz.out) (own_from2 hown hfar)
        go_roundw
        case rel => exact ⟨k + 1, sv / 4294967296, L ++ [dv], by omega, by go_num, rfl, HX.out, by rw [List.map_append]; exact hown1, hB1, far_of hat hfar hbel.size⟩
        case measure => simp [intOf]; omega
      ·
        obtain ⟨b, off, rfl, hb, hc⟩ := hX.get (by omega)
        have hcx : wr.cell? ⟨b, off + k, none⟩ = some (.int .u32 (dig (half a) k)) := (hbel.cell (p := ⟨b, off + k, none⟩) hb).trans (hc k (by omega))
        have hbs : b < wr.heap.size := by have := hbel.size; omega
        clear hc
        obtain ⟨u, hu⟩ : ∃ u, dig (half a) k = u := ⟨_, rfl⟩
        obtain ⟨v, hv⟩ : ∃ v, dig (half n2) k = v := ⟨_, rfl⟩
        have HU : Hid (dig (half a) k = u ∧ dig (half n2) k = v) := ⟨hu, hv⟩
        have hu1 : 0 ≤ u ∧ u < 4294967296 := hu ▸ (half_wd a).dig (by decide) k
        have hv1 : 0 ≤ v ∧ v < 4294967296 := hv ▸ (half_wd n2).dig (by decide) k
        rw [hu] at hcx
        clear hu hv hX hY
        obtain ⟨hu1, hu2⟩ := hu1
        obtain ⟨hv1, hv2⟩ := hv1
        have HX : Hid (LessSt (half a) (half n2) (k + 1) ((cv + u) / 4294967296) (L ++ [(cv + u) % 4294967296])) := by
          have hv0 : v = 0 := HU.out.2 ▸ dig_over (by rw [← HXY.out.2.hlen]; omega)
          refine HS.out.step (by omega) (by omega) (by rw [HU.out.1, HU.out.2]; omega)
        have h63 : Hid (k + 1 ≤ maxLen) := by show _ ≤ _; unfold maxLen; omega
        have hby : Hid ((k + 1) * 4 ≤ 140737488355328) := by show _ ≤ _; omega
        have hbz : Hid (w1.heap.size ≤ wr.heap.size + 1) := by show _ ≤ _; have := hbel.size; omega
        have hbz0 : Hid (w.heap.size ≤ wr.heap.size + 1) := by show _ ≤ _; have := hbel.size; have := hbw.size; omega
        have ew : IntKind.u32.wrap (IntKind.u64.wrap (cv + u)) = (cv + u) % 4294967296 := by rw [IntKind.wrap_u32', IntKind.wrap_u64]; omega
        obtain ⟨sv, hsv⟩ : ∃ sv, cv + u = sv := ⟨_, rfl⟩
        rw [hsv] at HX ew
        obtain ⟨dv, hdv⟩ : ∃ dv, sv % 4294967296 = dv := ⟨_, rfl⟩
        rw [hdv] at HX ew
        clear hdv
        have hsb : -8589934592 ≤ sv ∧ sv ≤ 8589934592 := by omega
        obtain ⟨hsb1, hsb2⟩ := hsb
        go_wp2_with (at_builtin; refine wpList_append_lies _ rfl _ _ 76 rfl w.heap.size 78 i0 (.int .u32 0) 1 4 Tryd.underlying76 hi hz0 hz1 hz2 rfl (by decide) _ k _ rfl (hown.alloc _) ⟨wr.heap.size, 0, none⟩ 1 1 [.int .u32 dv] rfl rfl (World.news_of_block (cs := #[.int .u32 dv]) (t := 78) (fr := (0, 0)) (heap_alloc_new wr _)) (by simp [Value.oneCell']) (by decide) h63.out hby.out (by simpa using hbz0.out) (wr.heap.size + 1) (by simp) ?_; intro g cp w3 hown1 hgrow hat hltg)
        have hB1 : Below w1.heap.size w1 w3 := (hbel.alloc hbel.size _).grown hgrow (by simpa using hbz.out) (own_from2 hown hfar)
        go_roundw
        case rel => exact ⟨k + 1, sv / 4294967296, L ++ [dv], by omega, by go_num, rfl, HX.out, by rw [List.map_append]; exact hown1, hB1, far_of hat hfar hbel.size⟩
        case measure => simp [intOf]; omega
    · obtain rfl : k = lx := by omega
      have HV : Hid (val 4294967296 L = ((a - n2 : Nat) : Int)) := by
        have e := HS.out.eq
        rw [List.take_of_length_le (by rw [← HXY.out.1.hlen]; exact Nat.le_refl _), List.take_of_length_le (by rw [← HXY.out.2.hlen]; exact hxy.out), half_val, half_val] at e
        have a1 := val_nonneg (q := 4294967296) (by decide) HS.out.wd
        have a2 := val_lt (q := 4294967296) (by decide) HS.out.wd
        rw [HS.out.len] at a2
        have a3 := HI.out.2.2
        show _ = _
        obtain ⟨Q, hQ⟩ : ∃ Q : Int, (4294967296 : Int) ^ k = Q := ⟨_, rfl⟩
        rw [hQ] at e a2
        rcases (show cv = 0 ∨ cv = -1 by omega) with rfl | rfl <;> omega
      obtain ⟨ao1, c1, hv, hrow⟩ := row_of_owns HS.out.len hown
      subst hv
      have hcap := cap_of_owns hown
      clear hX hY
      go_wp2_with (first
        | (go_at_call 70; refine (cut_any ao1 k c1 L _ hrow hcap).mono ?_; rintro e w4 ⟨hT, hw4⟩; obtain ⟨ao', n', cap', hn', rfl, hrow', hcan', hval', hrest⟩ := hT; subst hw4; have hn2 : n' ≤ 8589934592 := by omega)
        | (go_at_call 69; refine (whole_any ao' n' cap' (L.take n') _ hrow' (HS.out.wd.take n') hn2 (a - n2) (by rw [hval', HV.out])).mono ?_; rintro e w5 ⟨ao5, l5, c5, rfl, ho5, hb5⟩))
      go_ret
      exact ⟨_, _, _, rfl, ho5.mono (by have := hbel.size; have := hbw.size; omega), bnext (bnext hbw hbel) hb5⟩

end Go.Proofs.YtafohkcbonlgkaaDoor
