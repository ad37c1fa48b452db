/-
  A pack of walks and facts: IE.
-/
import Derived.Test.YtiiefpnkpfliiaaGreatDoorPC06
import Derived.Test.YtiiefpnkpfliiaaGreatDoorPC15
import Derived.Shelf.Strconv.Itoa1
import Derived.Shelf.Strconv.Itoa2
import Derived.Lib.ItoaMem
import Derived.Lib.AppendIntMem
import Derived.Shelf.Strings.Repeat
import Derived.Lib.AppendStr
set_option maxRecDepth 100000
set_option maxHeartbeats 40000000
set_option linter.unusedVariables false
set_option linter.unusedSimpArgs false
namespace Go.Proofs.YtiiefpnkpfliiaaGreatDoor
open Go.RowKit Go.Sort Go.Lib
def renF : Go.Shelf.Ren := ⟨fun x => if x = 283 then 195 else if x = 284 then 196 else if x = 285 then 197 else if x = 129 then 157 else if x = 317 then 205 else 206,
 fun x => if x = 0 then 0 else if x = 3 then 3 else if x = 4 then 4 else if x = 5 then 5 else if x = 9 then 9 else if x = 37 then 115 else if x = 46 then 91 else if x = 51 then 98 else if x = 212 then 178 else 59, fun x => 4⟩
theorem lays283 : Lays.n283 Tryz.prog renF := by
 constructor <;> first | (intro w; kernel_rfl) | kernel_rfl
theorem lays284 : Lays.n284 Tryz.prog renF := by
 constructor <;> first | (intro w; kernel_rfl) | kernel_rfl
theorem lays284m : LaysM.n284 Tryz.prog renF := { lays284 with i0 := by kernel_rfl, i3 := by kernel_rfl, i4 := by kernel_rfl, i5 := by kernel_rfl, i9 := by kernel_rfl, i46 := by kernel_rfl, i53 := by kernel_rfl, i212 := by kernel_rfl, m17 := by kernel_rfl }
theorem lays285 : Lays.n285 Tryz.prog renF := by
 constructor <;> first | (intro w; kernel_rfl) | kernel_rfl
def Pow10 (w : World) : Prop := Lib.TabIs Tryz.prog w "internal/strconv.uint64pow10" .u64 Lib.pow10Tab
theorem limbs_low {u : Nat} (h : u ≠ 0) : limbs 10 u = ((u % 10 : Nat) : Int) :: limbs 10 (u / 10) := by
 refine limbs_of (q := 10) (by decide) ?_ ?_ ?_
 ·
  exact Wd.cons (by omega) (limbs_wd (q := 10) (by decide) _)
 ·
  by_cases h2 : u / 10 = 0
  ·
   rw [(limbs_eq_nil (q := 10) (by decide)).2 h2]
   unfold Can
   simp; omega
  ·
   have h3 := limbs_can (q := 10) (by decide) (u / 10)
   have h4 : limbs 10 (u / 10) ≠ [] := fun e => h2 ((limbs_eq_nil (q := 10) (by decide)).1 e)
   unfold Can at h3 ⊢
   cases hl : limbs 10 (u / 10) with
   | nil => exact absurd hl h4
   | cons a r => rw [hl] at h3; simpa using h3
 ·
  rw [val_cons, limbs_val (q := 10) (by decide)]
  have : ((10 : Nat) : Int) = 10 := rfl
  omega
theorem dec_is : ∀ (n u : Nat), u ≤ n → (dnums u).map (fun z => UInt8.ofNat z.toNat) = Lib.decDigits u := by
 intro n
 induction n with
 | zero =>
  intro u hu
  obtain rfl : u = 0 := by omega
  rw [Lib.decDigits_one (by decide)]; rfl
 | succ n ih =>
  intro u hu
  by_cases h : u < 10
  ·
   rw [Lib.decDigits_one h]
   unfold dnums
   by_cases h0 : u = 0
   ·
    subst h0; rfl
   ·
    rw [if_neg h0, limbs_low h0, show u / 10 = 0 by omega]
    have e : limbs 10 0 = [] := rfl
    rw [e]
    simp only [List.reverse_cons, List.reverse_nil, List.nil_append, List.map_cons, List.map_nil]
    congr 2
    omega
  ·
   rw [Lib.decDigits, dif_neg h, ← ih (u / 10) (by omega)]
   unfold dnums
   rw [if_neg (by omega), if_neg (by omega), limbs_low (u := u) (by omega)]
   simp only [List.reverse_cons, List.map_append, List.map_cons, List.map_nil]
   congr 3
theorem dec_str (u : Nat) : (⟨(Lib.decDigits u).toArray⟩ : ByteArray) = strOfNums (dnums u) := by
 rw [← dec_is u u (Nat.le_refl _)]; rfl
theorem format_conv (w : World) (u k v' : Nat) (dk : Array UInt8) (hH : Holds (fun (b : UInt8) => Value.int .u8 (b.toNat : Int)) (w.alloc (.cells Lib.zeros24 169)) w.heap.size 0 (Array.replicate (Lib.nDigits u) (0 : UInt8))) (hF : FmtInv (Lib.nDigits u) u 0 v' dk) :
  (convert 115 9 (.slice (some ⟨w.heap.size, 0, none⟩) (Lib.nDigits u) 24)).run Tryz.prog ((putRow (fun (b : UInt8) => Value.int .u8 (b.toNat : Int)) (w.alloc (.cells Lib.zeros24 169)) w.heap.size 0 dk).drewN k) = .ok (.string (strOfNums (dnums u))) ((putRow (fun (b : UInt8) => Value.int .u8 (b.toNat : Int)) (w.alloc (.cells Lib.zeros24 169)) w.heap.size 0 dk).drewN k) := by
 have h := run_convert_bytes_back (P := Tryz.prog) ((putRow (fun (b : UInt8) => Value.int .u8 (b.toNat : Int)) (w.alloc (.cells Lib.zeros24 169)) w.heap.size 0 dk).drewN k) 115 9 5 ⟨w.heap.size, 0, none⟩ 24 (Lib.decDigits u) Tryz.underlying115 Tryz.underlying5 Tryz.underlying9 (fun j hj => by
  rw [Lib.row_is_numeral hF j hj, Lib.add_plain, World.cell?_drewN]
  exact cell?_putRow (fun (b : UInt8) => Value.int .u8 (b.toNat : Int)) _ w.heap.size 0 _ dk hH (by rw [hF.size, Array.size_replicate]) j (by rw [hF.size]; rw [Lib.decDigits_length] at hj; exact hj))
 rw [Lib.decDigits_length, dec_str] at h
 exact h
theorem isFormatUint_any (u : Nat) (w : World) (hu64 : u < 18446744073709551616) (htab : Pow10 w) :
  Calls Tryz.prog 179 #[.int .u64 (u : Int), .int .i64 10] w fun e w' => e = .returned (.string (strOfNums (dnums u))) ∧ Below w.heap.size w w' := by
 by_cases hs : u < 100
 ·
  have hcon := Any.internal_strconv_small lays283 u hs w
  have hs' : (u : Int) < 100 := by omega
  rw [dec_str] at hcon
  go_enter Tryz.func179, Tryz.ntmps179
  go_wp2_with (go_at_call 195; refine hcon.mono ?_; rintro e w1 ⟨rfl, rfl⟩)
  go_ret
  exact ⟨rfl, Below.refl _ _⟩
 ·
  have hu1 : 1 ≤ u := by omega
  have hs' : ¬ (u : Int) < 100 := by omega
  have hnd20 : Lib.nDigits u ≤ 20 := by have := Lib.numDigits_eq u hu1 hu64; split at this <;> omega
  have hal : Tryz.prog.arrayLen 169 = 24 := by kernel_rfl
  have hsl : ∀ W, (Instr.sliceAt 169 (.pointer (some ⟨w.heap.size, 0, none⟩)) none (some (.int .i64 (Lib.nDigits u : Int))) none).run Tryz.prog W = .ok (.slice (some ⟨w.heap.size, 0, none⟩) (Lib.nDigits u) 24) W := fun W => by
   rw [run_sliceAt_array_h W 169 ⟨w.heap.size, 0, none⟩ (by kernel_rfl) .i64 (Lib.nDigits u : Int) (by omega) (by rw [hal]; omega)]
   rw [hal, show Tryz.prog.elem 169 = 5 by kernel_rfl, show (sizeOf 5).run Tryz.prog W = .ok 1 W from lays285.z5 W]
   simp [Result.andThen, slicedAt, Addr.add]
  have hH0 := Lib.holds_zero0 w 169 (Lib.nDigits u) (by omega)
  have hnum := Any.internal_strconv_numDigits lays284m u hu1 hu64 _ (Lib.tabIs_alloc htab (.cells Lib.zeros24 169))
  have hfmt := Any.internal_strconv_formatBase10 lays285 w.heap.size 0 24 u (Array.replicate (Lib.nDigits u) 0) (w.alloc (.cells Lib.zeros24 169)) hH0 (by rw [Array.size_replicate]; exact Lib.lt_pow_nDigits u) hu64 (by rw [Array.size_replicate]; omega)
  rw [Array.size_replicate] at hfmt
  have HH0 := Lib.hid hH0
  clear hH0 hal
  go_enter Tryz.func179, Tryz.ntmps179
  go_wp2_with (first
   | (go_at_call 196; refine hnum.mono ?_; rintro e w1 ⟨rfl, rfl⟩)
   | (go_at_call 197; refine hfmt.mono ?_; rintro e w2 ⟨rfl, k, v', dk, rfl, hF⟩; have hcv := format_conv w u k v' dk HH0.out hF))
  go_ret
  obtain ⟨os, eo⟩ := Lib.fin_at w (.cells Lib.zeros24 169) dk k 0
  exact ⟨rfl, by rw [eo]; exact Lib.below_grow _ _ (Nat.le_refl _) _ _⟩
theorem formatUint_any (u : Nat) (w : World) (hu64 : u < 18446744073709551616) (htab : Pow10 w) :
  Calls Tryz.prog 164 #[.int .u64 (u : Int), .int .i64 10] w fun e w' => e = .returned (.string (strOfNums (dnums u))) ∧ Below w.heap.size w w' := by
 have hcon := isFormatUint_any u w hu64 htab
 go_enter Tryz.func164, Tryz.ntmps164
 go_wp2_with (go_at_call 179; refine hcon.mono ?_; rintro e w1 ⟨rfl, hb1⟩)
 go_ret
 exact ⟨rfl, hb1⟩
theorem Pow10.later {w w' : World} (h : Pow10 w) (hb : Below w.heap.size w w') : Pow10 w' := Lib.tabBelow_of_tabIs h w' hb
end Go.Proofs.YtiiefpnkpfliiaaGreatDoor
namespace Go.Proofs.YtiiefpnkpfliiaaGreatDoor
open Go.RowKit
def renR : Go.Shelf.Ren := ⟨fun x => if x = 99 then 181 else if x = 105 then 165 else if x = 165 then 182 else if x = 166 then 183 else if x = 169 then 185 else if x = 170 then 184 else if x = 206 then 200 else if x = 212 then 180 else if x = 240 then 201 else if x = 241 then 202 else if x = 263 then 199 else if x = 264 then 186 else if x = 276 then 209 else 210,
 fun x => if x = 0 then 0 else if x = 3 then 3 else if x = 4 then 4 else if x = 5 then 5 else if x = 9 then 9 else if x = 20 then 20 else if x = 37 then 115 else if x = 46 then 91 else if x = 51 then 98 else if x = 53 then 59 else if x = 70 then 157 else if x = 72 then 159 else if x = 75 then 152 else if x = 76 then 161 else if x = 80 then 164 else if x = 109 then 154 else if x = 127 then 175 else if x = 146 then 173 else if x = 148 then 133 else 180, fun x => x⟩
theorem lays105 : Lays.n105 Tryz.prog renR := by
 constructor <;> first | (intro w; kernel_rfl) | kernel_rfl
theorem extraR : Builder.Extra Tryz.prog renR := by
 constructor <;> first | (intro w; kernel_rfl) | kernel_rfl | decide | (constructor <;> first | (intro w; kernel_rfl) | kernel_rfl | decide)
def KeepT (w w' : World) : Prop := w.heap.size ≤ w'.heap.size ∧ ∀ (k : Nat) (cur : Array Value) (t : TypeId) (fr : Nat × Nat), w.heap[k]? = some (Obj.cells cur t fr) → t ≠ 5 → w'.heap[k]? = some (Obj.cells cur t fr)
theorem KeepT.refl (w : World) : KeepT w w := ⟨Nat.le_refl _, fun _ _ _ _ h _ => h⟩
theorem KeepT.trans {w w1 w2 : World} (h : KeepT w w1) (k : KeepT w1 w2) : KeepT w w2 := ⟨Nat.le_trans h.1 k.1, fun i cur t fr hi ht => k.2 i cur t fr (h.2 i cur t fr hi ht) ht⟩
theorem KeepT.below {w w' : World} (h : Below w.heap.size w w') : KeepT w w' := ⟨h.size, fun k cur t fr hk _ => by rw [h.block k (heap_lt hk)]; exact hk⟩
theorem KeepT.grown {w w' : World} {B n : Nat} {v : Value} {xs : List Value} (ho : w.ownsRow B 5 1 v n xs) (hg : w.grownBy w' v.ownBlock) : KeepT w w' := by
 refine ⟨hg.size, fun k cur t fr hk ht => ?_⟩
 rw [hg.block k (heap_lt hk) ?_]
 ·
  exact hk
 ·
  intro e
  rcases ho.2 with ⟨rfl, _⟩ | ⟨g', cap', cur', rfl, hg', hh, _⟩
  ·
   cases e
  ·
   simp only [Value.ownBlock, Option.some.injEq] at e
   subst e
   rw [hk] at hh
   simp only [Option.some.injEq, Obj.cells.injEq] at hh
   exact ht hh.2.1
def Byt (xs : List Int) : Prop := ∀ x ∈ xs, 0 ≤ x ∧ x < 256
theorem strCells_of {xs : List Int} (h : Byt xs) : Lib.strCells (strOfNums xs) = xs.map (Value.int .u8) := by
 unfold Lib.strCells
 rw [strOfNums_data, List.map_map]
 apply List.map_congr_left
 intro x hx
 have := h x hx
 simp only [Function.comp]
 congr 1
 rw [UInt8.toNat_ofNat']
 omega
theorem dnums_byt (u : Nat) : Byt (dnums u) := by
 unfold dnums
 split
 ·
  intro x hx; simp at hx; omega
 ·
  intro x hx
  obtain ⟨z, hz, rfl⟩ := List.mem_map.1 hx
  have := limbs_wd (q := 10) (by decide) u z (List.mem_reverse.1 hz)
  have e : ((10 : Nat) : Int) = 10 := rfl
  omega
def chunkT (full : Bool) (u : Nat) : List Int := if full then List.replicate (19 - (dnums u).length) 48 ++ dnums u else dnums u
theorem repeat_is (c : Nat) : (⟨(Lib.repeatL [48] c).toArray⟩ : ByteArray) = strOfNums (List.replicate c 48) := by
 have : ∀ c, Lib.repeatL [48] c = List.replicate c 48 := by
  intro c
  induction c with
  | zero => rfl
  | succ c ih => rw [Lib.repeatL, ih]; rfl
 rw [this]
 unfold strOfNums
 rw [List.map_replicate]; rfl
theorem repeat_any (c : Nat) (w : World) (hc : c ≤ 1000) : Calls Tryz.prog 165 #[.string ⟨#[48]⟩, .int .i64 (c : Int)] w fun e w' => e = .returned (.string (strOfNums (List.replicate c 48))) ∧ Below w.heap.size w w' := by
 have h := Any.strings_Repeat lays105 extraR ⟨#[48]⟩ c w (by omega) (by show 1 * c ≤ _; omega)
 have e : (⟨#[48]⟩ : ByteArray).data.toList = [48] := rfl
 rw [e, repeat_is] at h
 exact h
theorem appendChunk_any (B : Nat) (v : Value) (D : List Int) (u : Nat) (full : Bool) (w : World) (hown : w.ownsRow B 5 1 v D.length (D.map (Value.int .u8))) (hB : B ≤ w.heap.size) (hu : u < 10000000000000000000) (hlu : (dnums u).length ≤ 19) (hD : D.length ≤ 1000000) (htab : Pow10 w) :
  Calls Tryz.prog 147 #[v, .int .u64 (u : Int), .bool full] w fun e w' => ∃ v', e = .returned v' ∧ w'.ownsRow B 5 1 v' (D ++ chunkT full u).length ((D ++ chunkT full u).map (Value.int .u8)) ∧ Below B w w' ∧ KeepT w w' := by
 obtain ⟨i0, hi, hz0, hz1, hz2⟩ := info_parts info8
 obtain ⟨vo, vc, rfl, hvc⟩ := owns_slice hown
 obtain ⟨s, hs⟩ : ∃ s, s = strOfNums (dnums u) := ⟨_, rfl⟩
 have hfm := formatUint_any u w (by omega) htab
 rw [← hs] at hfm
 have HS : Hid (s.size = (dnums u).length ∧ Lib.strCells s = (dnums u).map (Value.int .u8)) := by rw [hs]; exact ⟨strOfNums_size _, strCells_of (dnums_byt u)⟩
 have hs19 : s.size ≤ 19 := by rw [HS.out.1]; exact hlu
 have HO : Hid (w.ownsRow B 5 1 (.slice vo D.length vc) D.length (D.map (Value.int .u8))) := hown
 clear hown hs
 cases full
 ·
  have h63 : Hid (D.length + s.size ≤ maxLen) := by show _ ≤ _; unfold maxLen; omega
  have hby : Hid (D.length + s.size ≤ 140737488355328) := by show _ ≤ _; omega
  go_enter Tryz.func147, Tryz.ntmps147
  go_wp2_with (first
   | (go_at_call 164; refine hfm.mono ?_; rintro e w1 ⟨rfl, hb1⟩)
   | (at_builtin; refine Lib.wpList_append_own_string _ rfl _ _ 115 9 rfl B 5 i0 Tryz.underlying115 Tryz.underlying9 hi hz0 hz1 hz2 _ _ _ rfl (owns_later HO.out hb1) s rfl h63.out hby.out (Nat.le_trans hB hb1.size) ?_; intro v2 w2 hown2 hgrow hnil))
  go_ret
  refine ⟨v2, rfl, ?_, ?_, (KeepT.below hb1).trans (KeepT.grown (owns_later HO.out hb1) hgrow)⟩
  ·
   have e : chunkT false u = dnums u := rfl
   rw [e, List.length_append, ← HS.out.1, List.map_append, ← HS.out.2]; exact hown2
  ·
   exact grown_owns (hb1.mono hB) (Nat.le_trans hB hb1.size) (owns_later HO.out hb1) hgrow
 ·
  obtain ⟨c, hc⟩ : ∃ c, c = 19 - s.size := ⟨_, rfl⟩
  have hcI : (19 : Int) - (s.size : Int) = (c : Int) := by omega
  obtain ⟨z, hz⟩ : ∃ z, z = strOfNums (List.replicate c 48) := ⟨_, rfl⟩
  have hrep : ∀ W, Calls Tryz.prog 165 #[.string ⟨#[48]⟩, .int .i64 (c : Int)] W fun e w' => e = .returned (.string z) ∧ Below W.heap.size W w' := fun W => by
   rw [hz]; exact repeat_any c W (by omega)
  have HZ : Hid (z.size = c ∧ Lib.strCells z = (List.replicate c (48 : Int)).map (Value.int .u8) ∧ c = 19 - s.size) := by
   rw [hz]
   exact ⟨by rw [strOfNums_size]; simp, strCells_of (fun x hx => by have := (List.mem_replicate.1 hx).2; omega), hc⟩
  have hzs : z.size ≤ 19 := by rw [HZ.out.1]; omega
  have h63 : Hid (D.length + z.size ≤ maxLen ∧ D.length + z.size + s.size ≤ maxLen) := by refine ⟨?_, ?_⟩ <;> (unfold maxLen; omega)
  have hby : Hid (D.length + z.size ≤ 140737488355328 ∧ D.length + z.size + s.size ≤ 140737488355328) := by refine ⟨?_, ?_⟩ <;> omega
  clear hz hc
  go_enter Tryz.func147, Tryz.ntmps147
  go_wp2_with (first
   | (go_at_call 164; refine hfm.mono ?_; rintro e w1 ⟨rfl, hb1⟩)
   | (go_at_call 165; refine (hrep _).mono ?_; rintro e w2 ⟨rfl, hb2⟩; have hb12 : Below w.heap.size w w2 := bnext hb1 hb2)
   | (have _t := hown3; at_builtin; refine Lib.wpList_append_own_string _ rfl _ _ 115 9 rfl B 5 i0 Tryz.underlying115 Tryz.underlying9 hi hz0 hz1 hz2 _ _ _ rfl hown3 s rfl h63.out.2 hby.out.2 (Nat.le_trans (Nat.le_trans hB hb12.size) hgrow3.size) ?_; intro v4 w4 hown4 hgrow4 hnil4)
   | (at_builtin; refine Lib.wpList_append_own_string _ rfl _ _ 115 9 rfl B 5 i0 Tryz.underlying115 Tryz.underlying9 hi hz0 hz1 hz2 _ _ _ rfl (owns_later HO.out hb12) z rfl h63.out.1 hby.out.1 (Nat.le_trans hB hb12.size) ?_; intro v3 w3 hown3 hgrow3 hnil3))
  go_ret
  refine ⟨v4, rfl, ?_, ?_, ((KeepT.below hb12).trans (KeepT.grown (owns_later HO.out hb12) hgrow3)).trans (KeepT.grown hown3 hgrow4)⟩
  ·
   have e : chunkT true u = List.replicate c 48 ++ dnums u := by
    show List.replicate (19 - (dnums u).length) 48 ++ dnums u = _
    rw [HZ.out.2.2, HS.out.1]
   have e2 : (D ++ chunkT true u).length = D.length + z.size + s.size := by rw [e, List.length_append, List.length_append, List.length_replicate, HZ.out.1, HS.out.1]; omega
   rw [e2, e, List.map_append, List.map_append, ← HZ.out.2.1, ← HS.out.2, ← List.append_assoc]; exact hown4
  ·
   have h1 : Below B w w3 := grown_owns (hb12.mono hB) (Nat.le_trans hB hb12.size) (owns_later HO.out hb12) hgrow3
   exact grown_owns h1 (Nat.le_trans (Nat.le_trans hB hb12.size) hgrow3.size) hown3 hgrow4
end Go.Proofs.YtiiefpnkpfliiaaGreatDoor
namespace Go.Proofs.YtiiefpnkpfliiaaGreatDoor
open Go.RowKit
def dpad : Nat → Nat → List Int
 | 0, _ => []
 | k + 1, x => dpad k (x / 10) ++ [48 + ((x % 10 : Nat) : Int)]
theorem dpad_len (k x : Nat) : (dpad k x).length = k := by
 induction k generalizing x with
 | zero => rfl
 | succ k ih => simp [dpad, ih]
theorem low_parts (x b : Nat) : x / 10 / 10 ^ b = x / 10 ^ (b + 1) ∧ (x % 10 ^ (b + 1)) / 10 = (x / 10) % 10 ^ b ∧ (x % 10 ^ (b + 1)) % 10 = x % 10 := by
 have e : 10 ^ (b + 1) = 10 * 10 ^ b := by rw [Nat.pow_succ, Nat.mul_comm]
 refine ⟨by rw [Nat.div_div_eq_div_mul, e], ?_, ?_⟩
 ·
  rw [e, Nat.mod_mul_right_div_self]
 ·
  rw [e, Nat.mod_mul_right_mod]
theorem dpad_add (a b x : Nat) : dpad (a + b) x = dpad a (x / 10 ^ b) ++ dpad b (x % 10 ^ b) := by
 induction b generalizing x with
 | zero => simp [dpad]
 | succ b ih =>
  obtain ⟨h1, h2, h3⟩ := low_parts x b
  rw [← Nat.add_assoc, dpad, dpad, ih (x / 10), h1, h2, h3, List.append_assoc]
theorem dnums_low {x : Nat} (h : 10 ≤ x) : dnums x = dnums (x / 10) ++ [48 + ((x % 10 : Nat) : Int)] := by
 unfold dnums
 rw [if_neg (by omega), if_neg (by omega), limbs_low (u := x) (by omega)]
 simp
theorem dnums_one {x : Nat} (h : x < 10) : dnums x = [48 + (x : Int)] := by
 unfold dnums
 by_cases h0 : x = 0
 ·
  subst h0; rfl
 ·
  rw [if_neg h0, limbs_low h0, show x / 10 = 0 by omega, show x % 10 = x by omega]
  rfl
theorem dnums_split (b : Nat) : ∀ {x : Nat}, x / 10 ^ b ≠ 0 → dnums x = dnums (x / 10 ^ b) ++ dpad b (x % 10 ^ b) := by
 induction b with
 | zero => intro x _; simp [dpad]
 | succ b ih =>
  intro x hx
  obtain ⟨h1, h2, h3⟩ := low_parts x b
  have h10 : 10 ≤ x := by
   rcases Nat.lt_or_ge x 10 with h | h
   ·
    exfalso
    apply hx
    rw [← h1, show x / 10 = 0 by omega, Nat.zero_div]
   ·
    exact h
  rw [dnums_low h10, ih (x := x / 10) (by rw [h1]; exact hx), h1, dpad, h2, h3, List.append_assoc]
theorem dpad_zero (k : Nat) : dpad k 0 = List.replicate k 48 := by
 induction k with
 | zero => rfl
 | succ k ih => rw [dpad, Nat.zero_div, ih, List.replicate_succ']; rfl
theorem dpad_is (k : Nat) : ∀ {u : Nat}, u < 10 ^ (k + 1) → (dnums u).length ≤ k + 1 ∧ dpad (k + 1) u = List.replicate (k + 1 - (dnums u).length) 48 ++ dnums u := by
 induction k with
 | zero =>
  intro u hu
  have h : u < 10 := by simpa using hu
  rw [dnums_one h]
  refine ⟨by simp, ?_⟩
  simp [dpad]; omega
 | succ k ih =>
  intro u hu
  by_cases h : u < 10
  ·
   rw [dnums_one h]
   refine ⟨by simp, ?_⟩
   rw [dpad, show u / 10 = 0 by omega, dpad_zero, show u % 10 = u by omega]
   simp
  ·
   have h1 : u / 10 < 10 ^ (k + 1) := by
    rw [Nat.pow_succ] at hu
    omega
   obtain ⟨h2, h3⟩ := ih h1
   rw [dnums_low (by omega), dpad, h3, List.length_append, List.length_singleton, List.append_assoc, show k + 1 + 1 - ((dnums (u / 10)).length + 1) = k + 1 - (dnums (u / 10)).length by omega]
   exact ⟨by omega, rfl⟩
def decT (full : Bool) (k x : Nat) : List Int := if full then dpad k x else dnums x
theorem dpad_19 {u : Nat} (h : u < 10000000000000000000) : (dnums u).length ≤ 19 ∧ dpad 19 u = List.replicate (19 - (dnums u).length) 48 ++ dnums u :=
 dpad_is 18 (u := u) (by rw [show (10 : Nat) ^ (18 + 1) = 10000000000000000000 by decide]; exact h)
theorem chunk_is {full : Bool} {u : Nat} (h : u < 10000000000000000000) : chunkT full u = decT full 19 u ∧ (dnums u).length ≤ 19 := by
 have h1 := dpad_19 h
 refine ⟨?_, h1.1⟩
 unfold chunkT decT
 rw [h1.2]
theorem decT_halves {full : Bool} {k x : Nat} (h : x / 10 ^ k ≠ 0 ∨ full = true) : decT full (k + k) x = decT full k (x / 10 ^ k) ++ decT true k (x % 10 ^ k) := by
 cases full
 ·
  have h1 : x / 10 ^ k ≠ 0 := by rcases h with h | h; exact h; cases h
  exact dnums_split k h1
 ·
  exact dpad_add k k x
theorem decT_low {k x : Nat} (h : x / 10 ^ k = 0) : decT false (k + k) x = decT false k (x % 10 ^ k) := by
 have : x < 10 ^ k := by
  have h1 := Nat.div_add_mod x (10 ^ k)
  rw [h, Nat.mul_zero, Nat.zero_add] at h1
  rw [← h1]; exact Nat.mod_lt _ (Nat.pow_pos (by decide))
 rw [Nat.mod_eq_of_lt this]; rfl
theorem decT_len {full : Bool} {k x : Nat} (hk : 0 < k) (h : x < 10 ^ k) : (decT full k x).length ≤ k := by
 obtain ⟨j, rfl⟩ : ∃ j, k = j + 1 := ⟨k - 1, by omega⟩
 cases full
 ·
  exact (dpad_is j h).1
 ·
  show (dpad (j + 1) x).length ≤ _
  rw [dpad_len]; omega
end Go.Proofs.YtiiefpnkpfliiaaGreatDoor
namespace Go.Proofs.YtiiefpnkpfliiaaGreatDoor
open Go.RowKit
def ten (i : Nat) : Nat := 10 ^ (19 * 2 ^ i)
theorem ten_zero : ten 0 = 10000000000000000000 := by decide
theorem ten_succ (i : Nat) : ten (i + 1) = ten i * ten i := by
 unfold ten
 rw [← Nat.pow_add, Nat.pow_succ]
 congr 1
 omega
theorem ten_pos (i : Nat) : 0 < ten i := Nat.pow_pos (by decide)
structure TensAt (B : Nat) (w : World) (v : Value) (m L : Nat) : Prop where
 row : ∃ xs : List Value, w.ownsRow B 24 1 v m xs ∧ ∀ i, i < m → ∃ o l c, xs[i]? = some (.slice o l c) ∧ Own B w .u64 59 o l c (mag (ten i)) ∧ l ≤ L
theorem infoNat : (Tryz.prog.info? 24).map (fun i => (i.zero, i.size, i.bytes)) = some (some (.slice none 0 0), 1, 24) := by kernel_rfl
theorem TensAt.later {B m L : Nat} {w w' : World} {v : Value} (h : TensAt B w v m L) (hb : Below w.heap.size w w') : TensAt B w' v m L := by
 obtain ⟨xs, ho, hx⟩ := h.row
 exact ⟨xs, owns_later ho hb, fun i hi => by obtain ⟨o, l, c, h1, h2, h3⟩ := hx i hi; exact ⟨o, l, c, h1, h2.later hb, h3⟩⟩
theorem sq_len {p n lx lp : Nat} (hp : lp = (mag p).length) (hx : lx = (mag n).length) (hlt : lx + 1 < 2 * lp) : n < p * p := by
 have h1 : n < 18446744073709551616 ^ lx := by
  have h := val_lt (q := 18446744073709551616) (by decide) (mag_wd n)
  rw [mag_val, ← hx] at h
  have h2 : ((18446744073709551616 ^ lx : Nat) : Int) = (18446744073709551616 : Int) ^ lx := by rw [Int.natCast_pow]; rfl
  rw [← h2] at h
  exact Int.ofNat_lt.1 h
 have h2 : 18446744073709551616 ^ (lp - 1) ≤ p := by
  rcases Nat.lt_or_ge p (18446744073709551616 ^ (lp - 1)) with h | h
  ·
   exfalso
   have h3 : (mag p).length ≤ lp - 1 := mag_len_le (by
    have h2 : ((18446744073709551616 ^ (lp - 1) : Nat) : Int) = (18446744073709551616 : Int) ^ (lp - 1) := by rw [Int.natCast_pow]; rfl
    rw [← h2]; exact Int.ofNat_lt.2 h)
   omega
  ·
   exact h
 have h3 : 18446744073709551616 ^ lx ≤ 18446744073709551616 ^ (lp - 1) * 18446744073709551616 ^ (lp - 1) := by
  rw [← Nat.pow_add]
  exact Nat.pow_le_pow_right (by decide) (by omega)
 exact Nat.lt_of_lt_of_le h1 (Nat.le_trans h3 (Nat.mul_le_mul h2 h2))
theorem ten_bound {m n l : Nat} (h : ten m ≤ n) (hn : l = (mag n).length) : m ≤ 64 * l := by
 have h1 : n < 2 ^ (64 * l) := by
  have h := val_lt (q := 18446744073709551616) (by decide) (mag_wd n)
  rw [mag_val, ← hn] at h
  have h2 : ((2 ^ (64 * l) : Nat) : Int) = (18446744073709551616 : Int) ^ l := by rw [Nat.pow_mul, Int.natCast_pow]; rfl
  rw [← h2] at h
  exact Int.ofNat_lt.1 h
 have h2 : 2 ^ m ≤ ten m := by
  unfold ten
  have a1 : m ≤ 19 * 2 ^ m := by have := Nat.lt_two_pow_self (n := m); omega
  exact Nat.le_trans (Nat.pow_le_pow_right (by decide) a1) (Nat.pow_le_pow_left (by decide) _)
 have h3 : 2 ^ m < 2 ^ (64 * l) := by omega
 exact Nat.le_of_lt ((Nat.pow_lt_pow_iff_right (by decide)).1 h3)
theorem TensAt.push {B m L lp cp : Nat} {w w' : World} {v v' : Value} {po : Option Addr} {xs : List Value} (ho : w.ownsRow B 24 1 v m xs) (hx : ∀ i, i < m → ∃ o l c, xs[i]? = some (.slice o l c) ∧ Own B w .u64 59 o l c (mag (ten i)) ∧ l ≤ L) (hp : Own B w .u64 59 po lp cp (mag (ten m))) (hl : lp ≤ L) (hg : w.grownBy w' v.ownBlock) (ho' : w'.ownsRow B 24 1 v' (m + 1) (xs ++ [.slice po lp cp])) : TensAt B w' v' (m + 1) L := by
 refine ⟨xs ++ [.slice po lp cp], ho', fun i hi => ?_⟩
 have hxl : xs.length = m := by have := ho.1; omega
 by_cases e : i < m
 ·
  obtain ⟨o, l, c, h1, h2, h3⟩ := hx i e
  exact ⟨o, l, c, by rw [List.getElem?_append_left (by omega)]; exact h1, own_grown h2 ho hg (by decide), h3⟩
 ·
  obtain rfl : i = m := by omega
  exact ⟨po, lp, cp, by rw [List.getElem?_append_right (by omega), hxl]; simp, own_grown hp ho hg (by decide), hl⟩
theorem tens_next {m lp cp lq cq : Nat} {w wr wa w2 w3 : World} {v v2 : Value} {po qo : Option Addr} {xs : List Value} (hP : Own w.heap.size wr .u64 59 po lp cp (mag (ten m))) (ho : wr.ownsRow w.heap.size 24 1 v m xs) (hx : ∀ i, i < m → ∃ o l c, xs[i]? = some (.slice o l c) ∧ Own w.heap.size wr .u64 59 o l c (mag (ten i)) ∧ l ≤ 2000) (hlp : lp = (mag (ten m)).length) (hl : lp ≤ 2000) (hl1 : lp ≤ 1000) (hbel : Below w.heap.size w wr) (hA : Below wr.heap.size wr wa) (ho2 : w2.ownsRow w.heap.size 24 1 v2 (m + 1) (xs ++ [.slice po lp cp])) (hg : wa.grownBy w2 v.ownBlock) (hQ : Own w2.heap.size w3 .u64 59 qo lq cq (mag (ten m * ten m))) (hb3 : Below w2.heap.size w2 w3) :
  Own w.heap.size w3 .u64 59 qo lq cq (mag (ten (m + 1))) ∧ lq ≤ 2000 ∧ TensAt w.heap.size w3 v2 (m + 1) 2000 ∧ Below w.heap.size w w3 := by
 have hba : Below w.heap.size w wa := bnext hbel hA
 have hb2 : Below w.heap.size w w2 := grown_owns hba hba.size (owns_later ho hA) hg
 have hT : TensAt w.heap.size w2 v2 (m + 1) 2000 := TensAt.push (owns_later ho hA) (fun i hi => by obtain ⟨o, l, c, h1, h2, h3⟩ := hx i hi; exact ⟨o, l, c, h1, h2.later hA, h3⟩) (hP.later hA) hl hg ho2
 rw [ten_succ]
 refine ⟨hQ.mono hb2.size, ?_, hT.later hb3, bnext hb2 hb3⟩
 rw [hQ.row.hlen]
 have := mag_len_mul (ten m) (ten m)
 omega
theorem tensUpTo_any (ao : Option Addr) (len cap n : Nat) (w : World) (hr : RowAt w .u64 ao len cap (mag n)) (hl : len ≤ 1000) :
  Calls Tryz.prog 132 #[.slice ao len cap] w fun e w' => ∃ v m, e = .returned v ∧ TensAt w.heap.size w' v m 2000 ∧ n < ten m ∧ m ≤ 64 * len + 1 ∧ Below w.heap.size w w' := by
 obtain ⟨i0, hi, hz0, hz1, hz2⟩ := info_parts infoNat
 have HR : Hid (RowAt w .u64 ao len cap (mag n) ∧ len = (mag n).length) := ⟨hr, hr.hlen⟩
 obtain ⟨hO, hbO⟩ := one_row' w 10000000000000000000 10000000000000000000 (by decide) (by decide) (by decide)
 have HP : Hid (Own w.heap.size (w.alloc (.cells #[.int .u64 10000000000000000000] 59)) .u64 59 (some ⟨w.heap.size, 0, none⟩) 1 1 (mag (ten 0)) ∧ Below w.heap.size w (w.alloc (.cells #[.int .u64 10000000000000000000] 59))) := by rw [ten_zero]; exact ⟨hO, hbO⟩
 clear hr hO hbO
 go_enter Tryz.func132, Tryz.ntmps132
 go_wp2
 go_loopw [3, 4] (fun v pv wr => ∃ (m lp cp : Nat) (po : Option Addr), pv = .slice po lp cp ∧ Own w.heap.size wr .u64 59 po lp cp (mag (ten m)) ∧ lp ≤ 2000 ∧ TensAt w.heap.size wr v m 2000 ∧ m ≤ 64 * len + 1 ∧ Below w.heap.size w wr) (fun v _ _ => 64 * len + 2 - lenOf v)
 case atStart => exact ⟨0, 1, 1, _, rfl, HP.out.1, by decide, ⟨[], World.ownsRow_nil _ _ _ _, fun i hi => absurd hi (by omega)⟩, by omega, HP.out.2⟩
 case round =>
  obtain ⟨m, lp, cp, po, rfl, hP, hlp, hT, hm, hbel⟩ := hrel
  obtain ⟨xs, hown, hxs⟩ := hT.row
  obtain ⟨vo, vc, rfl, hvc⟩ := owns_slice hown
  obtain ⟨c, hc⟩ : ∃ c, cmpI (ten m : Int) (n : Int) = c := ⟨_, rfl⟩
  have hcmp := compare_any po ao lp cp len cap (mag (ten m)) (mag n) wr hP.row (HR.out.1.later hbel) (mag_wd _) (mag_wd _) (mag_can _) (mag_can _) (by omega) (by omega)
  rw [mag_val, mag_val, hc] at hcmp
  have HS : Hid (Own w.heap.size wr .u64 59 po lp cp (mag (ten m)) ∧ wr.ownsRow w.heap.size 24 1 (.slice vo m vc) m xs ∧ (∀ i, i < m → ∃ o l c, xs[i]? = some (.slice o l c) ∧ Own w.heap.size wr .u64 59 o l c (mag (ten i)) ∧ l ≤ 2000) ∧ TensAt w.heap.size wr (.slice vo m vc) m 2000 ∧ lp = (mag (ten m)).length) := ⟨hP, hown, hxs, hT, hP.row.hlen⟩
  by_cases hle : ten m ≤ n
  ·
   have hc0 : c ≤ 0 := by rw [← hc]; unfold cmpI; split <;> (try split) <;> omega
   have hm64 := ten_bound hle HR.out.2
   have hlpl : lp ≤ len := by rw [HS.out.2.2.2.2, HR.out.2]; exact mag_len_mono hle
   have h63 : Hid (m + 1 ≤ maxLen) := by show _ ≤ _; unfold maxLen; omega
   have hby : Hid ((m + 1) * 24 ≤ 140737488355328) := by show _ ≤ _; omega
   clear hP hT hown hxs hc hle
   by_cases hbr : len + 1 < 2 * lp
   ·
    have hbr' : (len : Int) < 2 * (lp : Int) - 1 := by omega
    go_wp2_with (first
     | (go_at_call 134; refine hcmp.mono ?_; rintro e w1 ⟨rfl, hb1⟩; have hA : Below wr.heap.size wr (w1.alloc (.cells #[.slice po lp cp] 24)) := bnext hb1 ((Below.refl _ _).alloc (Nat.le_refl _) _))
     | (at_builtin; refine wpList_append_own _ rfl _ _ 117 rfl w.heap.size 24 i0 (.slice none 0 0) 1 24 Tryz.underlying117 hi hz0 hz1 hz2 rfl (by decide) _ _ _ rfl (owns_later HS.out.2.1 hA) ⟨w1.heap.size, 0, none⟩ 1 1 [.slice po lp cp] rfl rfl (World.news_of_block (cs := #[.slice po lp cp]) (t := 24) (fr := (0, 0)) (heap_alloc_new w1 _)) (by simp [Value.oneCell']) h63.out hby.out (Nat.le_trans hbel.size hA.size) ?_; intro v2 w2 hown2 hgrow hnil))
    go_ret
    refine ⟨v2, m + 1, rfl, TensAt.push (owns_later HS.out.2.1 hA) (fun i hi => ?_) (HS.out.1.later hA) hlp hgrow hown2, ?_, by omega, grown_owns (bnext hbel hA) (Nat.le_trans hbel.size hA.size) (owns_later HS.out.2.1 hA) hgrow⟩
    ·
     obtain ⟨o, l, c, h1, h2, h3⟩ := HS.out.2.2.1 i hi
     exact ⟨o, l, c, h1, h2.later hA, h3⟩
    ·
     rw [ten_succ]; exact sq_len HS.out.2.2.2.2 HR.out.2 hbr
   ·
    have hbr' : ¬ (len : Int) < 2 * (lp : Int) - 1 := by omega
    go_wp2_with (first
     | (go_at_call 134; refine hcmp.mono ?_; rintro e w1 ⟨rfl, hb1⟩; have hA : Below wr.heap.size wr (w1.alloc (.cells #[.slice po lp cp] 24)) := bnext hb1 ((Below.refl _ _).alloc (Nat.le_refl _) _))
     | (at_builtin; refine wpList_append_own _ rfl _ _ 117 rfl w.heap.size 24 i0 (.slice none 0 0) 1 24 Tryz.underlying117 hi hz0 hz1 hz2 rfl (by decide) _ _ _ rfl (owns_later HS.out.2.1 hA) ⟨w1.heap.size, 0, none⟩ 1 1 [.slice po lp cp] rfl rfl (World.news_of_block (cs := #[.slice po lp cp]) (t := 24) (fr := (0, 0)) (heap_alloc_new w1 _)) (by simp [Value.oneCell']) h63.out hby.out (Nat.le_trans hbel.size hA.size) ?_; intro v2 w2 hown2 hgrow hnil; have hp2 : Own w.heap.size w2 .u64 59 po lp cp (mag (ten m)) := own_grown (HS.out.1.later hA) (owns_later HS.out.2.1 hA) hgrow (by decide))
     | (go_at_call 149; refine (times_any po po lp cp lp cp (ten m) (ten m) w2 hp2.row hp2.row (by omega) (by omega)).mono ?_; rintro e w3 ⟨qo, lq, cq, rfl, hQ, hb3⟩; have HQ : Hid (Own w.heap.size w3 .u64 59 qo lq cq (mag (ten (m + 1))) ∧ lq ≤ 2000 ∧ TensAt w.heap.size w3 v2 (m + 1) 2000 ∧ Below w.heap.size w w3) := tens_next HS.out.1 HS.out.2.1 HS.out.2.2.1 HS.out.2.2.2.2 hlp (by omega) hbel hA hown2 hgrow hQ hb3))
    obtain ⟨vo2, vc2, rfl, _⟩ := owns_slice hown2
    go_roundw
    case rel => exact ⟨m + 1, lq, cq, qo, rfl, HQ.out.1, HQ.out.2.1, HQ.out.2.2.1, by omega, HQ.out.2.2.2⟩
    case measure => simp [lenOf]; omega
  ·
   have hc0 : ¬ c ≤ 0 := by
    rw [← hc]
    have h1 : (n : Int) < (ten m : Int) := by omega
    rw [cmpI_gt h1]; decide
   have HN : Hid (n < ten m) := by show n < _; omega
   clear hP hown hxs hc hle
   go_wp2_with (go_at_call 134; refine hcmp.mono ?_; rintro e w1 ⟨rfl, hb1⟩)
   go_ret
   exact ⟨_, m, rfl, hT.later hb1, HN.out, hm, bnext hbel hb1⟩
end Go.Proofs.YtiiefpnkpfliiaaGreatDoor
namespace Go.Proofs.YtiiefpnkpfliiaaGreatDoor
open Go.RowKit
theorem own_keep {B : Nat} {w w' : World} {k : IntKind} {t : TypeId} {ao : Option Addr} {len cap : Nat} {zs : List Int} (h : Own B w k t ao len cap zs) (hk : KeepT w w') (ht : t ≠ 5) : Own B w' k t ao len cap zs := by
 rcases h with h | ⟨g, off, cur, h1, h2, h3, h4⟩
 ·
  exact Or.inl h
 ·
  exact Or.inr ⟨g, off, cur, h1, h2, hk.2 _ _ _ _ h3 ht, h4⟩
theorem TensAt.keep {B m L : Nat} {w w' : World} {v : Value} (h : TensAt B w v m L) (hk : KeepT w w') : TensAt B w' v m L := by
 obtain ⟨xs, ho, hx⟩ := h.row
 refine ⟨xs, ⟨ho.1, ?_⟩, fun i hi => ?_⟩
 ·
  rcases ho.2 with hv | ⟨g, cap, cur, hv, hg, hh, hrest⟩
  ·
   exact Or.inl hv
  ·
   exact Or.inr ⟨g, cap, cur, hv, hg, hk.2 _ _ _ _ hh (by decide), hrest⟩
 ·
  obtain ⟨o, l, c, h1, h2, h3⟩ := hx i hi
  exact ⟨o, l, c, h1, own_keep h2 hk (by decide), h3⟩
theorem TensAt.take {B m k L cap : Nat} {w : World} {o : Option Addr} (h : TensAt B w (.slice o m cap) m L) (hk : k ≤ m) : TensAt B w (.slice o k cap) k L := by
 obtain ⟨xs, ho, hx⟩ := h.row
 refine ⟨xs.take k, ⟨by rw [List.length_take, ho.1]; omega, ?_⟩, fun i hi => ?_⟩
 ·
  rcases ho.2 with ⟨hv, h0⟩ | ⟨g, cap', cur, hv, hg, hh, hc1, hc2, hs, ht⟩
  ·
   cases hv; exact Or.inl ⟨by rw [show k = 0 by omega], by omega⟩
  ·
   cases hv
   refine Or.inr ⟨g, cap, cur, rfl, hg, hh, by omega, hc2, hs, ?_⟩
   rw [← ht, List.take_take]; congr 1; omega
 ·
  obtain ⟨o', l, c, h1, h2, h3⟩ := hx i (by omega)
  exact ⟨o', l, c, by rw [List.getElem?_take, if_pos hi]; exact h1, h2, h3⟩
theorem TensAt.at {B m L cap k : Nat} {w : World} {o : Option Addr} (h : TensAt B w (.slice o m cap) m L) (hk : k < m) : ∃ g po lp cp, o = some ⟨g, 0, none⟩ ∧ w.cell? ⟨g, k, none⟩ = some (.slice po lp cp) ∧ RowAt w .u64 po lp cp (mag (ten k)) ∧ lp ≤ L ∧ m ≤ cap ∧ cap ≤ 9223372036854775807 := by
 obtain ⟨xs, ho, hx⟩ := h.row
 obtain ⟨po, lp, cp, h1, h2, h3⟩ := hx k hk
 rcases ho.2 with ⟨hv, h0⟩ | ⟨g, cap', cur, hv, hg, hh, hc1, hc2, hs, ht⟩
 ·
  omega
 ·
  cases hv
  refine ⟨g, po, lp, cp, rfl, ?_, h2.row, h3, hc1, hc2⟩
  rw [← ht, Nat.mul_one, List.getElem?_take, if_pos hk] at h1
  simp only [World.cell?, hh]
  simpa using h1
theorem ten_pow (m : Nat) : ten m = 10 ^ (19 * 2 ^ m) := rfl
theorem nineteen (m : Nat) : 19 * 2 ^ (m + 1) = 19 * 2 ^ m + 19 * 2 ^ m := by rw [Nat.pow_succ]; omega
def DecOut (B : Nat) (D T : List Int) (w w' : World) (e : Ending) : Prop := ∃ v', e = .returned v' ∧ w'.ownsRow B 5 1 v' (D ++ T).length ((D ++ T).map (Value.int .u8)) ∧ Below B w w' ∧ KeepT w w'
theorem appendDecimal_zero (B : Nat) (v : Value) (D : List Int) (xo : Option Addr) (lx cx x : Nat) (tv : Option Addr) (ct : Nat) (full : Bool) (w : World) (hown : w.ownsRow B 5 1 v D.length (D.map (Value.int .u8))) (hB : B ≤ w.heap.size) (hx : RowAt w .u64 xo lx cx (mag x)) (hxt : x < ten 0) (hD : D.length ≤ 1000000) (htab : Pow10 w) :
  Calls Tryz.prog 131 #[v, .slice xo lx cx, .slice tv 0 ct, .bool full] w fun e w' => DecOut B D (decT full 19 x) w w' e := by
 rw [ten_zero] at hxt
 have hlow := lowLimb_any xo lx cx (mag x) w hx
 have hd0 : dig (mag x) 0 = (x : Int) := by
  by_cases h0 : x = 0
  ·
   subst h0; rfl
  ·
   have e : mag x = [(x : Int)] := mag_of (Wd.one (by omega)) (by simp [Can]; omega) (by simp [val])
   rw [e]; rfl
 rw [hd0] at hlow
 have hch := appendChunk_any B v D x full w hown hB hxt (chunk_is (full := full) hxt).2 hD htab
 rw [(chunk_is hxt).1] at hch
 clear hown hx hd0 htab
 go_enter Tryz.func131, Tryz.ntmps131
 go_wp2_with (first
  | (go_at_call 148; refine hlow.mono ?_; rintro e w1 ⟨rfl, hw1⟩; replace hw1 := hw1.symm; subst hw1)
  | (go_at_call 147; refine hch.mono ?_; rintro e w2 ⟨v', rfl, hown', hb', hk'⟩))
 go_ret
 exact ⟨v', rfl, hown', hb', hk'⟩
def Pow10B (B : Nat) (w : World) : Prop := Lib.TabBelow Tryz.prog B w "internal/strconv.uint64pow10" .u64 Lib.pow10Tab
theorem appendDecimal_any (m : Nat) : ∀ (B BT : Nat) (v : Value) (D : List Int) (xo : Option Addr) (lx cx x : Nat) (tv : Option Addr) (ct : Nat) (full : Bool) (w : World), w.ownsRow B 5 1 v D.length (D.map (Value.int .u8)) → B ≤ w.heap.size → RowAt w .u64 xo lx cx (mag x) → lx ≤ 4000 → x < ten m → TensAt BT w (.slice tv m ct) m 2000 → D.length + 19 * 2 ^ m ≤ 1000000 → Pow10B B w →
  Calls Tryz.prog 131 #[v, .slice xo lx cx, .slice tv m ct, .bool full] w fun e w' => DecOut B D (decT full (19 * 2 ^ m) x) w w' e := by
 induction m with
 | zero =>
  intro B BT v D xo lx cx x tv ct full w hown hB hx hlx hxt hT hD htab
  exact appendDecimal_zero B v D xo lx cx x tv ct full w hown hB hx hxt (by omega) htab.here
 | succ m ih =>
  intro B BT v D xo lx cx x tv ct full w hown hB hx hlx hxt hT hD htab
  obtain ⟨vo, vc, rfl, hvc⟩ := owns_slice hown
  obtain ⟨g, po, lp, cp, rfl, hcell, hprow, hlp, hmc, hct⟩ := hT.at (Nat.lt_succ_self m)
  have hdiv := divide_any xo po lx cx lp cp x (ten m) w hx hprow (by omega) (by omega) (ten_pos m)
  have HI : Hid (∀ (B BT : Nat) (v : Value) (D : List Int) (xo : Option Addr) (lx cx x : Nat) (tv : Option Addr) (ct : Nat) (full : Bool) (w : World), w.ownsRow B 5 1 v D.length (D.map (Value.int .u8)) → B ≤ w.heap.size → RowAt w .u64 xo lx cx (mag x) → lx ≤ 4000 → x < ten m → TensAt BT w (.slice tv m ct) m 2000 → D.length + 19 * 2 ^ m ≤ 1000000 → Pow10B B w →
   Calls Tryz.prog 131 #[v, .slice xo lx cx, .slice tv m ct, .bool full] w fun e w' => DecOut B D (decT full (19 * 2 ^ m) x) w w' e) := ih
  have HS : Hid (w.ownsRow B 5 1 (.slice vo D.length vc) D.length (D.map (Value.int .u8)) ∧ TensAt BT w (.slice (some ⟨g, 0, none⟩) m ct) m 2000 ∧ Pow10B B w ∧ lx = (mag x).length) := ⟨hown, hT.take (by omega), htab, hx.hlen⟩
  have HB : Hid (x / ten m < ten m ∧ x % ten m < ten m) := by
   refine ⟨?_, Nat.mod_lt _ (ten_pos m)⟩
   rw [ten_succ] at hxt
   exact Nat.div_lt_of_lt_mul hxt
  have HN : Hid (19 * 2 ^ (m + 1) = 19 * 2 ^ m + 19 * 2 ^ m ∧ D.length + 19 * 2 ^ (m + 1) ≤ 1000000) := ⟨nineteen m, hD⟩
  have hl0 : (((m + 1 : Nat) : Int) == 0) = false := by simp; omega
  have hm1 : ((m + 1 : Nat) : Int) - 1 = (m : Int) := by omega
  have y1 : (0 : Int) ≤ (m : Int) := by omega
  have y2 : (m : Int) < ((m + 1 : Nat) : Int) := by omega
  have y3 : (m : Int) ≤ (ct : Int) := by omega
  clear ih hown hT htab hx hprow hxt hD
  by_cases hup : full = true ∨ 0 < x / ten m
  ·
   have HT : Hid (decT full (19 * 2 ^ (m + 1)) x = decT full (19 * 2 ^ m) (x / ten m) ++ decT true (19 * 2 ^ m) (x % ten m)) := by
    show _ = _
    rw [HN.out.1, ten_pow]
    exact decT_halves (by rcases hup with h | h; exact Or.inr h; exact Or.inl (by rw [← ten_pow]; exact Nat.pos_iff_ne_zero.1 h))
   have HLN : Hid ((decT full (19 * 2 ^ m) (x / ten m)).length ≤ 19 * 2 ^ m) := decT_len (by have := Nat.pow_pos (n := m) (show 0 < 2 by decide); omega) HB.out.1
   have hcond : ∀ lu : Nat, lu = (mag (x / ten m)).length → (full || decide ((0 : Int) < (lu : Int))) = true := fun lu hlu => by
    rcases hup with h | h
    ·
     rw [h]; rfl
    ·
     have : 0 < lu := by rw [hlu]; exact mag_len_pos.2 h
     rw [decide_eq_true (by omega), Bool.or_true]
   have HC : Hid (∀ lu : Nat, lu = (mag (x / ten m)).length → (full || decide ((0 : Int) < (lu : Int))) = true) := hcond
   clear hcond hup
   cases full
   ·
    go_enter Tryz.func131, Tryz.ntmps131
    go_wp2_with (first
     | (go_at_call 128; refine hdiv.mono ?_; rintro e w1 ⟨uo, lu, cu, lo, ll, cl, rfl, hU, hL, hb1, _⟩; have hlu : (0 : Int) < (lu : Int) := (by have := HC.out lu hU.row.hlen; simpa using this); have HL : Hid (RowAt w1 .u64 uo lu cu (mag (x / ten m)) ∧ lu ≤ 4000 ∧ Own w.heap.size w1 .u64 59 lo ll cl (mag (x % ten m)) ∧ ll ≤ 4000) := ⟨hU.row, by rw [hU.row.hlen]; exact Nat.le_trans (mag_len_mono (Nat.div_le_self _ _)) (by rw [← HS.out.2.2.2]; exact hlx), hL, by rw [hL.row.hlen]; exact Nat.le_trans (mag_len_mono (Nat.mod_le _ _)) (by rw [← HS.out.2.2.2]; exact hlx)⟩; clear hU hL)
     | (have _t := hown2; go_at_call 131; refine (HI.out B BT _ (D ++ decT false (19 * 2 ^ m) (x / ten m)) lo ll cl (x % ten m) _ ct true w2 hown2 (Nat.le_trans (Nat.le_trans hB hb1.size) hk2.1) (own_keep HL.out.2.2.1 hk2 (by decide)).row HL.out.2.2.2 HB.out.2 ((HS.out.2.1.later hb1).keep hk2) (by have h1 := HN.out; have h2 := HLN.out; rw [List.length_append]; omega) ((HS.out.2.2.1.on (hb1.mono hB)).on hb2)).mono ?_; rintro e w3 ⟨v3, rfl, hown3, hb3, hk3⟩)
     | (go_at_call 131; refine (HI.out B BT _ D uo lu cu (x / ten m) _ ct false w1 (owns_later HS.out.1 hb1) (Nat.le_trans hB hb1.size) HL.out.1 HL.out.2.1 HB.out.1 (HS.out.2.1.later hb1) (by have := HN.out; omega) (HS.out.2.2.1.on (hb1.mono hB))).mono ?_; rintro e w2 ⟨v2, rfl, hown2, hb2, hk2⟩))
    go_ret
    exact ⟨v3, rfl, by rw [HT.out, ← List.append_assoc]; exact hown3, ((hb1.mono hB).trans hb2).trans hb3, ((KeepT.below hb1).trans hk2).trans hk3⟩
   ·
    go_enter Tryz.func131, Tryz.ntmps131
    go_wp2_with (first
     | (go_at_call 128; refine hdiv.mono ?_; rintro e w1 ⟨uo, lu, cu, lo, ll, cl, rfl, hU, hL, hb1, _⟩; have HL : Hid (RowAt w1 .u64 uo lu cu (mag (x / ten m)) ∧ lu ≤ 4000 ∧ Own w.heap.size w1 .u64 59 lo ll cl (mag (x % ten m)) ∧ ll ≤ 4000) := ⟨hU.row, by rw [hU.row.hlen]; exact Nat.le_trans (mag_len_mono (Nat.div_le_self _ _)) (by rw [← HS.out.2.2.2]; exact hlx), hL, by rw [hL.row.hlen]; exact Nat.le_trans (mag_len_mono (Nat.mod_le _ _)) (by rw [← HS.out.2.2.2]; exact hlx)⟩; clear hU hL)
     | (have _t := hown2; go_at_call 131; refine (HI.out B BT _ (D ++ decT true (19 * 2 ^ m) (x / ten m)) lo ll cl (x % ten m) _ ct true w2 hown2 (Nat.le_trans (Nat.le_trans hB hb1.size) hk2.1) (own_keep HL.out.2.2.1 hk2 (by decide)).row HL.out.2.2.2 HB.out.2 ((HS.out.2.1.later hb1).keep hk2) (by have h1 := HN.out; have h2 := HLN.out; rw [List.length_append]; omega) ((HS.out.2.2.1.on (hb1.mono hB)).on hb2)).mono ?_; rintro e w3 ⟨v3, rfl, hown3, hb3, hk3⟩)
     | (go_at_call 131; refine (HI.out B BT _ D uo lu cu (x / ten m) _ ct true w1 (owns_later HS.out.1 hb1) (Nat.le_trans hB hb1.size) HL.out.1 HL.out.2.1 HB.out.1 (HS.out.2.1.later hb1) (by have := HN.out; omega) (HS.out.2.2.1.on (hb1.mono hB))).mono ?_; rintro e w2 ⟨v2, rfl, hown2, hb2, hk2⟩))
    go_ret
    exact ⟨v3, rfl, by rw [HT.out, ← List.append_assoc]; exact hown3, ((hb1.mono hB).trans hb2).trans hb3, ((KeepT.below hb1).trans hk2).trans hk3⟩
  ·
   obtain rfl : full = false := by cases full; rfl; exact absurd (Or.inl rfl) hup
   have hu0 : x / ten m = 0 := Nat.eq_zero_of_not_pos fun h => hup (Or.inr h)
   have HT : Hid (decT false (19 * 2 ^ (m + 1)) x = decT false (19 * 2 ^ m) (x % ten m) ∧ (mag (x / ten m)).length = 0) := by
    refine ⟨?_, by rw [hu0]; rfl⟩
    rw [HN.out.1]; exact decT_low (by rw [← ten_pow]; exact hu0)
   clear hup hu0
   go_enter Tryz.func131, Tryz.ntmps131
   go_wp2_with (first
    | (go_at_call 128; refine hdiv.mono ?_; rintro e w1 ⟨uo, lu, cu, lo, ll, cl, rfl, hU, hL, hb1, _⟩; obtain rfl : lu = 0 := (by rw [hU.row.hlen]; exact HT.out.2); have HL : Hid (RowAt w1 .u64 lo ll cl (mag (x % ten m)) ∧ ll ≤ 4000) := ⟨hL.row, by rw [hL.row.hlen]; exact Nat.le_trans (mag_len_mono (Nat.mod_le _ _)) (by rw [← HS.out.2.2.2]; exact hlx)⟩; clear hU hL)
    | (go_at_call 131; refine (HI.out B BT _ D lo ll cl (x % ten m) _ ct false w1 (owns_later HS.out.1 hb1) (Nat.le_trans hB hb1.size) HL.out.1 HL.out.2 HB.out.2 (HS.out.2.1.later hb1) (by have := HN.out; omega) (HS.out.2.2.1.on (hb1.mono hB))).mono ?_; rintro e w2 ⟨v', rfl, hown', hb', hk'⟩))
   go_ret
   exact ⟨v', rfl, by rw [HT.out.1]; exact hown', (hb1.mono hB).trans hb', (KeepT.below hb1).trans hk'⟩
end Go.Proofs.YtiiefpnkpfliiaaGreatDoor
