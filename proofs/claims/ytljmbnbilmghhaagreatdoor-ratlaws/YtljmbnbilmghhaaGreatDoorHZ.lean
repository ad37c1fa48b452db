/-
  HY, HZ.
-/
import Derived.Test.YtljmbnbilmghhaaGreatDoorHU
import Derived.Laws.BytesArg

/- Walks: the page's text of a number. -/
namespace Go.Proofs.YtljmbnbilmghhaaGreatDoor
open Go.RowKit
set_option linter.unusedVariables false
set_option linter.unusedSimpArgs false

/-- a number's decimal digits, the highest first, as bytes -/
def dnums (n : Nat) : List Int := if n = 0 then [48] else (limbs 10 n).reverse.map (48 + ·)
/-- digits E are written, R is left -/
structure TxSt (n : Nat) (E : List Int) (R : Nat) : Prop where
  wd : Wd 10 E
  eq : val 10 E + 10 ^ E.length * (R : Int) = (n : Int)
theorem TxSt.step {n R : Nat} {E : List Int} (h : TxSt n E R) : TxSt n (E ++ [((R % 10 : Nat) : Int)]) (R / 10) := by
  refine ⟨h.wd.append (Wd.one (by omega)), ?_⟩
  have h1 := h.eq
  rw [val_snoc, List.length_append, List.length_singleton, Int.pow_succ]
  have h2 : (R : Int) = ((R % 10 : Nat) : Int) + 10 * ((R / 10 : Nat) : Int) := by omega
  rw [h2] at h1
  rw [← h1]; grind
theorem TxSt.len {n R : Nat} {E : List Int} (h : TxSt n E R) (hR : 0 < R) {l : Nat} (hn : n < 18446744073709551616 ^ l) : E.length ≤ 64 * l := by
  have h1 := h.eq
  have h2 := val_nonneg (q := 10) (by decide) h.wd
  have h3 : (10 : Int) ^ E.length ≤ (n : Int) := by
    have : (10 : Int) ^ E.length * 1 ≤ 10 ^ E.length * (R : Int) := Int.mul_le_mul_of_nonneg_left (by omega) (Int.le_of_lt (Int.pow_pos (by decide)))
    omega
  have h4 : 10 ^ E.length ≤ n := by exact_mod_cast h3
  have h5 : 2 ^ E.length ≤ 10 ^ E.length := Nat.pow_le_pow_left (by decide) _
  have h6 : (18446744073709551616 : Nat) ^ l = 2 ^ (64 * l) := by rw [Nat.pow_mul]
  have h7 : 2 ^ E.length < 2 ^ (64 * l) := by omega
  exact Nat.le_of_lt ((Nat.pow_lt_pow_iff_right (by decide)).1 h7)
theorem TxSt.le {n R : Nat} {E : List Int} (h : TxSt n E R) : R ≤ n := by
  have h1 := h.eq
  have h2 := val_nonneg (q := 10) (by decide) h.wd
  have h3 : 1 * (R : Int) ≤ 10 ^ E.length * (R : Int) := Int.mul_le_mul_of_nonneg_right (by have := Int.pow_pos (n := 10) (m := E.length) (by decide); omega) (by omega)
  omega
def lenOf : Value → Nat
  | .slice _ n _ => n
  | _ => 0
theorem info8 : (Tryz.prog.info? 5).map (fun i => (i.zero, i.size, i.bytes)) = some (some (.int .u8 0), 1, 1) := by kernel_rfl
/-- digits as bytes -/
def asBytes (E : List Int) : List Int := E.map (48 + ·)
theorem asBytes_len (E : List Int) : (asBytes E).length = E.length := by simp [asBytes]
theorem asBytes_snoc (E : List Int) (z : Int) : (asBytes (E ++ [z])).map (Value.int .u8) = (asBytes E).map (Value.int .u8) ++ [.int .u8 (48 + z)] := by simp [asBytes]
theorem asBytes_dig (E : List Int) {t : Nat} (h : t < E.length) : dig (asBytes E) t = 48 + dig E t := by simp [asBytes, dig, h]
end Go.Proofs.YtljmbnbilmghhaaGreatDoor

/- Walks: NText. -/
namespace Go.Proofs.YtljmbnbilmghhaaGreatDoor
open Go.RowKit
set_option linter.unusedVariables false
set_option linter.unusedSimpArgs false

theorem owns_slice {w : World} {B n : Nat} {t : TypeId} {v : Value} {xs : List Value} (h : w.ownsRow B t 1 v n xs) : ∃ ao cap, v = .slice ao n cap ∧ cap ≤ 9223372036854775807 := by
  rcases h.2 with ⟨hv, h0⟩ | ⟨g, cap, cur, hv, hg, hh, hc1, hm, _⟩
  · subst h0; exact ⟨none, 0, hv, by omega⟩
  · exact ⟨_, cap, hv, hm⟩
theorem half_nil {n : Nat} (h : (half n).length = 0) : n = 0 := (limbs_eq_nil (q := 4294967296) (by decide)).1 (List.eq_nil_of_length_eq_zero h)

theorem owns_later {w w' : World} {B n : Nat} {t : TypeId} {v : Value} {xs : List Value} (h : w.ownsRow B t 1 v n xs) (hb : Below w.heap.size w w') : w'.ownsRow B t 1 v n xs := by
  refine ⟨h.1, ?_⟩
  rcases h.2 with hv | ⟨g, cap, cur, hv, hg, hh, hrest⟩
  · exact Or.inl hv
  · exact Or.inr ⟨g, cap, cur, hv, hg, by rw [hb.block g (heap_lt hh)]; exact hh, hrest⟩

theorem grown_owns {w0 w w' : World} {B n : Nat} {t : TypeId} {v : Value} {xs : List Value} (hb : Below B w0 w) (hB : B ≤ w.heap.size) (ho : w.ownsRow B t 1 v n xs) (hg : w.grownBy w' v.ownBlock) : Below B w0 w' :=
  hb.grown hg hB fun k hk => (ho.lt k hk).1
theorem own_grown {B B' n : Nat} {w w' : World} {k : IntKind} {t t' : TypeId} {v : Value} {xs : List Value} {ao : Option Addr} {len cap : Nat} {zs : List Int} (h : Own B w k t ao len cap zs) (ho : w.ownsRow B' t' 1 v n xs) (hg : w.grownBy w' v.ownBlock) (hne : t ≠ t') : Own B w' k t ao len cap zs := by
  rcases h with h | ⟨g, off, cur, h1, h2, h3, h4⟩
  · exact Or.inl h
  · refine Or.inr ⟨g, off, cur, h1, h2, ?_, h4⟩
    rw [hg.block g (heap_lt h3) ?_]
    · exact h3
    · intro e
      rcases ho.2 with ⟨rfl, _⟩ | ⟨g', cap', cur', rfl, hg', hh, _⟩
      · cases e
      · simp only [Value.ownBlock, Option.some.injEq] at e
        subst e
        rw [h3] at hh
        simp only [Option.some.injEq, Obj.cells.injEq] at hh
        exact hne hh.2.1
theorem rev_take_dig {E : List Int} {m i : Nat} (hm : m ≤ E.length) (hi : i < m) : (E.take m).reverse.getD (m - (i + 1)) 0 = dig E i := by
  unfold dig
  rw [List.getD_eq_getElem?_getD, List.getD_eq_getElem?_getD, List.getElem?_reverse (by simp; omega), List.length_take, Nat.min_eq_left hm, show m - 1 - (m - (i + 1)) = i by omega, List.getElem?_take, if_pos hi]
theorem below_alloc' {w X : World} {o : Obj} (h : Below w.heap.size w X) : Below w.heap.size w (X.alloc o) := h.alloc h.size o
theorem tx_low {r k : Nat} (h : r < 10 ^ (9 - k)) (hk : k < 9) : r / 10 < 10 ^ (9 - (k + 1)) := by
  rw [show 9 - k = (9 - (k + 1)) + 1 by omega, Nat.pow_succ] at h
  omega
theorem tx_step {n r k Q : Nat} {E : List Int} (h : TxSt n E (r + 10 ^ (9 - k) * Q)) (hk : k < 9) : TxSt n (E ++ [((r % 10 : Nat) : Int)]) (r / 10 + 10 ^ (9 - (k + 1)) * Q) := by
  have h1 := h.step
  have e : 10 ^ (9 - k) * Q = 10 * (10 ^ (9 - (k + 1)) * Q) := by
    rw [show 9 - k = (9 - (k + 1)) + 1 by omega, Nat.pow_succ]
    simp only [Nat.mul_comm, Nat.mul_left_comm, Nat.mul_assoc]
  rw [e] at h1
  have e1 : (r + 10 * (10 ^ (9 - (k + 1)) * Q)) % 10 = r % 10 := by omega
  have e2 : (r + 10 * (10 ^ (9 - (k + 1)) * Q)) / 10 = r / 10 + 10 ^ (9 - (k + 1)) * Q := by omega
  rw [e1, e2] at h1
  exact h1

set_option maxRecDepth 100000 in
set_option maxHeartbeats 2000000 in
theorem rntext_any (ao : Option Addr) (len cap n : Nat) (w : World) (hr : RowAt w .u64 ao len cap (mag n)) (hl : len ≤ 1048576) :
    Calls Tryz.prog 104 #[.slice ao len cap] w fun e w' => e = .returned (.string (strOfNums (dnums n))) ∧ Below w.heap.size w w' := by
  obtain ⟨i0, hi, hz0, hz1, hz2⟩ := info_parts info8
  have HR : Hid (RowAt w .u64 ao len cap (mag n) ∧ len = (mag n).length) := ⟨hr, hr.hlen⟩
  have hhc : Hid ((half n).length ≤ 2 * len) := half_len_le HR.out.2
  have hnb : Hid (n < 18446744073709551616 ^ len) := by
    show n < _
    have h1 := val_lt (q := 18446744073709551616) (by decide) (mag_wd n)
    rw [mag_val, ← HR.out.2] at h1
    have h2 : ((18446744073709551616 ^ len : Nat) : Int) = (18446744073709551616 : Int) ^ len := by rw [Int.natCast_pow]; rfl
    rw [← h2] at h1
    exact Int.ofNat_lt.1 h1
  have hcon := halves_any ao len cap (mag n) w hr (mag_wd n) (by omega) n (mag_val n)
  clear hr
  by_cases h0 : n = 0
  · have HD : Hid (strOfNums (dnums n) = ⟨#[48]⟩ ∧ (half n).length = 0) := by subst h0; exact ⟨rfl, rfl⟩
    clear h0
    go_enter Tryz.func104, Tryz.ntmps104
    go_wp2_with (go_at_call 111; refine hcon.mono ?_; rintro e w1 ⟨⟨xo, lx, cx, rfl, hX⟩, hb1⟩; obtain rfl : lx = 0 := (by rw [hX.hlen]; exact HD.out.2))
    go_ret
    exact ⟨by rw [HD.out.1]; rfl, hb1⟩
  · have HN0 : Hid (n ≠ 0) := h0
    clear h0
    go_enter Tryz.func104, Tryz.ntmps104
    go_wp2_with (go_at_call 111; refine hcon.mono ?_; rintro e w1 ⟨⟨xo, lx, cx, rfl, hX⟩, hb1⟩; have hlx0 : ((lx : Int) == 0) = false := (by have q : lx ≠ 0 := (fun e => HN0.out (half_nil (by rw [← hX.hlen]; exact e))); simp; omega); have HX : Hid (RowAt w1 .u32 xo lx cx (half n) ∧ Below w.heap.size w w1) := ⟨hX, hb1⟩; clear hX hb1)
    go_loopw [3, 4] (fun x v wr => ∃ (R lx cx : Nat) (E : List Int) (xo : Option Addr), x = .slice xo lx cx ∧ RowAt wr .u32 xo lx cx (half R) ∧ wr.ownsRow w.heap.size 5 1 v E.length ((asBytes E).map (Value.int .u8)) ∧ TxSt n E R ∧ Below w.heap.size w wr ∧ E.length ≤ 64 * len + 9) (fun _ v _ => 64 * len + 20 - lenOf v)
    case atStart => exact ⟨n, lx, cx, [], xo, rfl, HX.out.1, World.ownsRow_nil _ _ _ _, ⟨Wd.nil _, by simp [val]⟩, HX.out.2, by simp⟩
    case round =>
      clear hlx0 HX
      obtain ⟨R, lx, cx, E, xo, rfl, hrow, hown, hst, hbel, hEb⟩ := hrel
      obtain ⟨vo, vc, rfl, hvc⟩ := owns_slice hown
      have hlx : lx ≤ 2 * len := by
        rw [hrow.hlen]
        have h1 := half_len_le (n := R) rfl
        have h2 := mag_len_mono hst.le
        have h3 := HR.out.2
        omega
      by_cases hR : R = 0
      · obtain rfl : lx = 0 := by rw [hrow.hlen, hR]; rfl
        have HS : Hid (wr.ownsRow w.heap.size 5 1 (.slice vo E.length vc) E.length ((asBytes E).map (Value.int .u8)) ∧ val 10 E = (n : Int) ∧ Wd 10 E) := ⟨hown, by have := hst.eq; rw [hR] at this; simpa using this, hst.wd⟩
        clear hrow hown hst hR hlx
        obtain ⟨Y, rfl⟩ : ∃ Y, Y = wr := ⟨wr, rfl⟩
        have hEp : 0 < E.length := by
          rcases Nat.eq_zero_or_pos E.length with e | e
          · have h1 := HS.out.2.1
            rw [List.eq_nil_of_length_eq_zero e] at h1
            exact absurd h1 (by simp [val]; have := HN0.out; omega)
          · exact e
        have hrw : RowAt Y .u8 vo E.length vc (asBytes E) := by
          obtain ⟨ao', c', he, hrow⟩ := row_of_owns (L := asBytes E) (asBytes_len E) HS.out.1
          cases he; exact hrow
        obtain ⟨b, off, rfl, hlt, hcell⟩ := hrw.get hEp
        have HC : Hid (∀ t, t < E.length → Y.cell? ⟨b, off + t, none⟩ = some (.int .u8 (48 + dig E t))) := fun t ht => by rw [hcell t ht, asBytes_dig E ht]
        have HB : Hid (Below w.heap.size w Y ∧ b < Y.heap.size) := ⟨hbel, hlt⟩
        clear hrw hcell hlt hbel
        go_wp2
        go_loopw [8] (fun mm w3 => ∃ m : Nat, 0 < m ∧ m ≤ E.length ∧ mm = .int .i64 m ∧ w3 = Y ∧ val 10 (E.take m) = (n : Int)) (fun mm _ => (intOf mm).toNat)
        case atStart => exact ⟨E.length, hEp, Nat.le_refl _, rfl, rfl, by rw [List.take_length]; exact HS.out.2.1⟩
        case round =>
          obtain ⟨m, hm0, hmE, rfl, rfl, hval⟩ := hrel
          obtain ⟨y, hy⟩ : ∃ y, 48 + dig E (m - 1) = y := ⟨_, rfl⟩
          have hc := HC.out (m - 1) (by omega)
          rw [hy] at hc
          have HY : Hid (48 + dig E (m - 1) = y ∧ val 10 (E.take m) = (n : Int)) := ⟨hy, hval⟩
          have hidx : (m : Int) - 1 = ((m - 1 : Nat) : Int) := by omega
          have hm1 : m - 1 < E.length := by omega
          clear hy hval
          by_cases hz : y = 48
          · subst hz
            have HV : Hid (val 10 (E.take (m - 1)) = (n : Int) ∧ 1 < m) := by
              have h1 := val_take_dig 10 E (m - 1)
              rw [show m - 1 + 1 = m by omega, HY.out.2, show dig E (m - 1) = 0 by have := HY.out.1; omega] at h1
              have h2 : val 10 (E.take (m - 1)) = (n : Int) := by omega
              refine ⟨h2, ?_⟩
              rcases Nat.lt_or_ge 1 m with h | h
              · exact h
              · exfalso
                rw [show m - 1 = 0 by omega] at h2
                simp [val] at h2
                exact HN0.out (by omega)
            go_wp2
            go_roundw
            case rel => exact ⟨m - 1, by have := HV.out.2; omega, by omega, congrArg (Value.int .i64) (by omega), (by first | rfl | trivial), HV.out.1⟩
            case measure => simp [intOf]; omega
          · have hz' : (y == 48) = false := by simpa using hz
            have HL : Hid (limbs 10 n = E.take m) := by
              refine limbs_of (q := 10) (by decide) (HS.out.2.2.take m) ?_ HY.out.2
              refine can_take hmE fun _ => ?_
              have := HY.out.1
              omega
            clear hz
            go_wp2
            obtain ⟨Y2, rfl⟩ : ∃ Y2, Y2 = wr := ⟨wr, rfl⟩
            go_loopw [9, 10] (fun v ii w4 => ∃ j : Nat, j ≤ m ∧ ii = .int .i64 ((j : Int) - 1) ∧ w4.ownsRow Y2.heap.size 5 1 v (m - j) ((asBytes ((E.take m).reverse.take (m - j))).map (Value.int .u8)) ∧ Below Y2.heap.size Y2 w4) (fun _ ii _ => (intOf ii + 1).toNat)
            case atStart => exact ⟨m, Nat.le_refl _, congrArg (Value.int .i64) (by omega), by rw [Nat.sub_self]; exact World.ownsRow_nil _ _ _ _, Below.refl _ _⟩
            case round =>
              clear hc hz'
              obtain ⟨j, hj, rfl, hown4, hb4⟩ := hrel
              obtain ⟨vo4, vc4, rfl, hvc4⟩ := owns_slice hown4
              by_cases hj0 : j = 0
              · subst hj0
                rw [Nat.sub_zero] at hown4
                have HO4 : Hid (strOfNums (asBytes ((E.take m).reverse.take m)) = strOfNums (dnums n) ∧ Below w.heap.size w wr) := by
                  refine ⟨?_, bnext HB.out.1 hb4⟩
                  unfold dnums
                  rw [if_neg HN0.out, HL.out, List.take_of_length_le (by rw [List.length_reverse, List.length_take]; omega)]; rfl
                have hlen4 : (asBytes ((E.take m).reverse.take m)).length = m := by rw [asBytes_len, List.length_take, List.length_reverse, List.length_take]; omega
                obtain ⟨ao', c', he, hrow4⟩ := row_of_owns (L := asBytes ((E.take m).reverse.take m)) hlen4 hown4
                cases he
                obtain ⟨g4, o4, rfl, _, hc4⟩ := hrow4.get hm0
                have hconv : (convert 126 9 (.slice (some ⟨g4, o4, none⟩) m vc4)).run Tryz.prog wr = .ok (.string (strOfNums (asBytes ((E.take m).reverse.take m)))) wr := run_convert_bytes_arg wr _ 5 Tryz.underlying126 Tryz.underlying5 g4 o4 m vc4 _ hlen4 (fun i hi => hc4 i hi) _ Tryz.underlying9
                rw [HO4.out.1] at hconv
                (try rw [Nat.sub_zero])
                clear hown4 hrow4 hc4 hlen4
                go_wp2
                go_ret
                exact ⟨rfl, HO4.out.2⟩
              · obtain ⟨i, rfl⟩ : ∃ i, j = i + 1 := ⟨j - 1, by omega⟩
                have hii : ((i + 1 : Nat) : Int) - 1 = (i : Int) := by omega
                rw [hii]
                have hci : wr.cell? ⟨b, off + i, none⟩ = some (.int .u8 (48 + dig E i)) := (hb4.cell (p := ⟨b, off + i, none⟩) HB.out.2).trans (HC.out i (by omega))
                obtain ⟨y, hy⟩ : ∃ y, 48 + dig E i = y := ⟨_, rfl⟩
                rw [hy] at hci
                have HT : Hid ((asBytes ((E.take m).reverse.take (m - i))).map (Value.int .u8) = (asBytes ((E.take m).reverse.take (m - (i + 1)))).map (Value.int .u8) ++ [.int .u8 y]) := by
                  show _ = _
                  rw [← hy, ← asBytes_snoc, show m - i = (m - (i + 1)) + 1 by omega, take_getD (by simp; omega)]
                  rw [rev_take_dig hmE (by omega)]
                have HO : Hid (wr.ownsRow Y2.heap.size 5 1 (.slice vo4 (m - (i + 1)) vc4) (m - (i + 1)) ((asBytes ((E.take m).reverse.take (m - (i + 1)))).map (Value.int .u8))) := hown4
                have h63 : Hid (m - (i + 1) + 1 ≤ maxLen) := by show _ ≤ _; unfold maxLen; omega
                have hby : Hid ((m - (i + 1) + 1) * 1 ≤ 140737488355328) := by show _ ≤ _; omega
                have hA : Below wr.heap.size wr (wr.alloc (.cells #[.int .u8 y] 5)) := (Below.refl _ _).alloc (Nat.le_refl _) _
                have hiI : (0 : Int) ≤ (i : Int) := by omega
                have hiE : (i : Int) < (E.length : Int) := by omega
                clear hown4 hy hii hj0
                go_wp2_with (at_builtin; refine wpList_append_own _ rfl _ _ 126 rfl Y2.heap.size 5 i0 (.int .u8 0) 1 1 Tryz.underlying126 hi hz0 hz1 hz2 rfl (by decide) _ _ _ rfl (owns_later HO.out hA) ⟨wr.heap.size, 0, none⟩ 1 1 [.int .u8 y] rfl rfl (World.news_of_block (cs := #[.int .u8 y]) (t := 5) (fr := (0, 0)) (heap_alloc_new wr _)) (by simp [Value.oneCell']) h63.out hby.out (Nat.le_trans hb4.size hA.size) ?_; intro v5 w5 hown5 hgrow hnil)
                have hb5 : Below Y2.heap.size Y2 w5 := grown_owns (below_alloc' hb4) (Nat.le_trans hb4.size hA.size) (owns_later HO.out hA) hgrow
                go_wp2
                go_roundw
                case rel => exact ⟨i, by omega, congrArg (Value.int .i64) (by omega), by rw [HT.out, show m - i = m - (i + 1) + 1 by omega]; exact hown5, hb5⟩
                case measure => simp [intOf]
      · have hlxp : (0 : Int) < (lx : Int) := by
          have : lx ≠ 0 := fun e => hR (half_nil (by rw [← hrow.hlen]; exact e))
          omega
        have HS : Hid (TxSt n E R ∧ wr.ownsRow w.heap.size 5 1 (.slice vo E.length vc) E.length ((asBytes E).map (Value.int .u8))) := ⟨hst, hown⟩
        have HE : Hid (E.length ≤ 64 * len) := hst.len (by omega) hnb.out
        have hsh := short_new xo lx cx (half R) 1000000000 R wr hrow (half_wd R) (half_val R) (by omega) (by decide) (by decide)
        clear hrow hown hst hR
        go_wp2_with (go_at_call 134; refine hsh.mono ?_; rintro e w2 ⟨⟨qo, lq, cq, rfl, hQ⟩, hb2⟩; obtain ⟨r, hr⟩ : ∃ r : Nat, (R : Int) % 1000000000 = (r : Int) := ⟨R % 1000000000, by omega⟩; have HQ : Hid (Own w.heap.size w2 .u32 105 qo lq cq (half (R / 1000000000)) ∧ Below wr.heap.size wr w2 ∧ r = R % 1000000000) := ⟨hQ.mono hbel.size, hb2, by omega⟩; rw [hr]; clear hQ hb2 hr)
        go_loopw [4, 6, 7] (fun v rr kk w3 => ∃ (k r : Nat) (E' : List Int), k ≤ 9 ∧ kk = .int .i64 k ∧ rr = .int .u32 r ∧ r < 10 ^ (9 - k) ∧ w3.ownsRow w.heap.size 5 1 v (E.length + k) ((asBytes E').map (Value.int .u8)) ∧ E'.length = E.length + k ∧ TxSt n E' (r + 10 ^ (9 - k) * (R / 1000000000)) ∧ Own w.heap.size w3 .u32 105 qo lq cq (half (R / 1000000000)) ∧ Below w.heap.size w w3) (fun _ _ kk _ => 9 - (intOf kk).toNat)
        case atStart => exact ⟨0, r, E, by omega, rfl, rfl, by have := HQ.out.2.2; omega, owns_later HS.out.2 HQ.out.2.1, rfl, by have h1 := HQ.out.2.2; have h2 : r + 10 ^ (9 - 0) * (R / 1000000000) = R := (by omega); rw [h2]; exact HS.out.1, HQ.out.1, bnext hbel HQ.out.2.1⟩
        case round =>
          obtain ⟨k, r, E', hk, rfl, rfl, hrk, hown, hlE, hst, hqo, hb3⟩ := hrel
          obtain ⟨vo3, vc3, rfl, hvc3⟩ := owns_slice hown
          by_cases hk9 : k < 9
          · have hr9 : r < 1000000000 := Nat.lt_of_lt_of_le hrk (Nat.le_trans (Nat.pow_le_pow_right (by decide) (show 9 - k ≤ 9 by omega)) (by decide))
            have HO : Hid (wr.ownsRow w.heap.size 5 1 (.slice vo3 (E.length + k) vc3) (E.length + k) ((asBytes E').map (Value.int .u8)) ∧ Own w.heap.size wr .u32 105 qo lq cq (half (R / 1000000000)) ∧ TxSt n E' (r + 10 ^ (9 - k) * (R / 1000000000)) ∧ r < 10 ^ (9 - k) ∧ E'.length = E.length + k) := ⟨hown, hqo, hst, hrk, hlE⟩
            have h63 : Hid (E.length + k + 1 ≤ maxLen) := by show _ ≤ _; unfold maxLen; have := HE.out; omega
            have hby : Hid ((E.length + k + 1) * 1 ≤ 140737488355328) := by show _ ≤ _; have := HE.out; omega
            have hA : Below wr.heap.size wr (wr.alloc (.cells #[.int .u8 (48 + (r : Int) % 10)] 5)) := (Below.refl _ _).alloc (Nat.le_refl _) _
            clear hown hst hrk hqo hlE
            go_wp2_with (at_builtin; refine wpList_append_own _ rfl _ _ 126 rfl w.heap.size 5 i0 (.int .u8 0) 1 1 Tryz.underlying126 hi hz0 hz1 hz2 rfl (by decide) _ _ _ rfl (owns_later HO.out.1 hA) ⟨wr.heap.size, 0, none⟩ 1 1 [.int .u8 (48 + (r : Int) % 10)] rfl rfl (World.news_of_block (cs := #[.int .u8 (48 + (r : Int) % 10)]) (t := 5) (fr := (0, 0)) (heap_alloc_new wr _)) (by simp [Value.oneCell']) h63.out hby.out (Nat.le_trans hb3.size hA.size) ?_; intro v4 w4 hown4 hgrow hnil)
            have hb4 : Below w.heap.size w w4 := grown_owns (below_alloc' hb3) (Nat.le_trans hb3.size hA.size) (owns_later HO.out.1 hA) hgrow
            have hq4 := own_grown (HO.out.2.1.later hA) (owns_later HO.out.1 hA) hgrow (by decide)
            go_wp2
            go_roundw
            case rel => exact ⟨k + 1, r / 10, E' ++ [((r % 10 : Nat) : Int)], by omega, by go_num, congrArg (Value.int .u32) (by omega), tx_low HO.out.2.2.2.1 hk9, by rw [asBytes_snoc]; exact_mod_cast hown4, by rw [List.length_append, HO.out.2.2.2.2]; rfl, tx_step HO.out.2.2.1 hk9, hq4, hb4⟩
            case measure => simp [intOf]; omega
          · obtain rfl : k = 9 := by omega
            have HO : Hid (wr.ownsRow w.heap.size 5 1 (.slice vo3 (E.length + 9) vc3) E'.length ((asBytes E').map (Value.int .u8)) ∧ RowAt wr .u32 qo lq cq (half (R / 1000000000)) ∧ TxSt n E' (R / 1000000000) ∧ E'.length = E.length + 9) := ⟨by rw [hlE]; exact hown, hqo.row, by have h1 := hst; rw [show r = 0 by simpa using hrk] at h1; simpa using h1, hlE⟩
            clear hown hst hrk hqo hlE
            go_wp2
            go_roundw
            case rel => exact ⟨R / 1000000000, lq, cq, E', qo, rfl, HO.out.2.1, HO.out.1, HO.out.2.2.1, hb3, by have := HE.out; have := HO.out.2.2.2; omega⟩
            case measure => have := HE.out; simp [lenOf]; omega
end Go.Proofs.YtljmbnbilmghhaaGreatDoor
