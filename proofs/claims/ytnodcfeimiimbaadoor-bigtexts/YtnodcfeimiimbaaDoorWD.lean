/-
  Walks: digits of 32 bits.
-/
import Derived.Test.YtnodcfeimiimbaaDoorW9
import Derived.Test.YtnodcfeimiimbaaDoorAdd
import Derived.Deep.AppendLies
namespace Go.Proofs.YtnodcfeimiimbaaDoor
open Go.RowKit
set_option linter.unusedVariables false
set_option linter.unusedSimpArgs false

set_option maxHeartbeats 400000 in
theorem cut_any (ao : Option Addr) (len cap : Nat) (zs : List Int) (w : World) (hr : RowAt w .u32 ao len cap zs) (hl : cap ≤ 9223372036854775807) :
    Calls Tryd.prog 54 #[.slice ao len cap] w fun e w' => Trimmed w .u32 ao len cap zs e ∧ w' = w := by
  have hcl := hr.hcap
  have hle := hr.hlen
  have HL : Hid (len = zs.length) := hle
  clear hle
  go_enter Tryd.func54, Tryd.ntmps54
  go_wp2
  go_loop [3] (fun i => ∃ k : Nat, k ≤ len ∧ i = .int .i64 k ∧ ∀ t, k ≤ t → t < len → dig zs t = 0) (fun i => (intOf i).toNat)
  case atStart => exact ⟨len, Nat.le_refl _, rfl, fun t h1 h2 => by omega⟩
  case round =>
    obtain ⟨k, hk, rfl, hz⟩ := hrel
    have HZ : Hid (∀ t, k ≤ t → t < len → dig zs t = 0) := hz
    clear hz
    by_cases hk0 : k = 0
    · subst hk0
      go_wp2
      go_ret
      refine ⟨⟨ao, 0, cap, Nat.zero_le _, rfl, hr.take (Nat.zero_le _), can_take (Nat.zero_le _) (fun h => absurd h (by omega)), fun q => val_take_zeros q (Nat.zero_le _) (fun t h1 h2 => HZ.out t h1 (HL.out ▸ h2)), Or.inl ⟨rfl, rfl⟩⟩, rfl⟩
    · have hkp : 0 < k := by omega
      have HR : Hid (RowAt w .u32 ao len cap zs) := hr
      obtain ⟨b, off, rfl, hb, hc⟩ := hr.get (by omega)
      have hcell := hc (k - 1) (by omega)
      clear hc hr
      by_cases hd : dig zs (k - 1) = 0
      · rw [hd] at hcell
        have HD : Hid (dig zs (k - 1) = 0) := hd
        clear hd
        go_wp2
        go_round
        case rel => exact ⟨k - 1, by omega, by go_num, fun t h1 h2 => by
          by_cases e : t = k - 1
          · subst e; exact HD.out
          · exact HZ.out t (by omega) h2⟩
        case measure => simp [intOf]; omega
      · have hd' : (dig zs (k - 1) == 0) = false := by simpa using hd
        obtain ⟨z, hz⟩ : ∃ z, dig zs (k - 1) = z := ⟨_, rfl⟩
        rw [hz] at hcell hd'
        have HD : Hid (dig zs (k - 1) ≠ 0) := hd
        clear hd hz
        go_wp2
        go_ret
        refine ⟨⟨_, k, cap, hk, rfl, HR.out.take hk, can_take (HL.out ▸ hk) (fun _ => HD.out), fun q => val_take_zeros q (HL.out ▸ hk) (fun t h1 h2 => HZ.out t h1 (HL.out ▸ h2)), Or.inl ⟨rfl, rfl⟩⟩, rfl⟩

theorem own_from {w : World} {B : Nat} {t : TypeId} {v : Value} {n : Nat} {xs : List Value} (h : w.ownsRow B t 1 v n xs) : ∀ k, v.ownBlock = some k → B ≤ k := by
  intro k hk
  rcases h.2 with ⟨hv, _⟩ | ⟨g, cap, cur, hv, hg, _⟩
  · subst hv; simp [Value.ownBlock] at hk
  · subst hv; simp [Value.ownBlock] at hk; omega
theorem row_of_owns {w : World} {B : Nat} {t : TypeId} {k : IntKind} {v : Value} {n : Nat} {L : List Int} (hl : L.length = n) (h : w.ownsRow B t 1 v n (L.map (Value.int k))) : ∃ ao cap, v = .slice ao n cap ∧ RowAt w k ao n cap L := by
  rcases h.2 with ⟨hv, h0⟩ | ⟨g, cap, cur, hv, hg, hh, hc1, _, hs, ht⟩
  · subst hv; subst h0
    exact ⟨none, 0, rfl, hl.symm, Nat.le_refl _, fun _ => rfl, Or.inl rfl⟩
  · refine ⟨_, _, hv, hl.symm, hc1, fun e => (by cases e), Or.inr ⟨g, 0, rfl, ?_, fun t' ht' => ?_⟩⟩
    · by_cases e : g < w.heap.size
      · exact e
      · rw [Array.getElem?_eq_none (by omega)] at hh; cases hh
    · have e : cur[t']? = some (.int k (dig L t')) := by
        have e1 : cur.toList[t']? = some (.int k (dig L t')) := by
          have : (cur.toList.take (n * 1))[t']? = (L.map (Value.int k))[t']? := by rw [ht]
          rw [List.getElem?_take, if_pos (by omega)] at this
          rw [this]; simp [dig, show t' < L.length by omega]
        simpa using e1
      simp [World.cell?, hh, e]
theorem cap_of_owns {w : World} {B : Nat} {t : TypeId} {ao : Option Addr} {n cap : Nat} {xs : List Value} (h : w.ownsRow B t 1 (.slice ao n cap) n xs) : cap ≤ 9223372036854775807 := by
  rcases h.2 with ⟨hv, _⟩ | ⟨g, cap', cur, hv, hg, hh, hc1, hm, _⟩
  · cases hv; omega
  · cases hv; exact hm

theorem half_len_le {n l : Nat} (h : l = (mag n).length) : (half n).length ≤ 2 * l := by
  have h0 := mag_val n
  have h1 := val_lt (q := 18446744073709551616) (by decide) (mag_wd n)
  rw [h0, ← h] at h1
  have e : (18446744073709551616 : Int) ^ l = 4294967296 ^ (2 * l) := by
    rw [Int.pow_mul]; rfl
  rw [e] at h1
  by_cases e0 : half n = []
  · rw [e0]; exact Nat.zero_le _
  · have h2 := val_ge (q := 4294967296) (by decide) (half_wd n) (half_can n) e0
    rw [half_val] at h2
    by_cases hk : (half n).length ≤ 2 * l
    · exact hk
    · have h3 := pow_mono' (q := 4294967296) (by decide) (show 2 * l ≤ (half n).length - 1 by omega)
      omega

/-- a word's two halves, the lower first -/
def twice : List Int → List Int
  | [] => []
  | z :: r => z % 4294967296 :: z / 4294967296 :: twice r
theorem twice_length (zs : List Int) : (twice zs).length = 2 * zs.length := by
  induction zs with
  | nil => rfl
  | cons z r ih => simp only [twice, List.length_cons, ih]; omega
theorem twice_append (a b : List Int) : twice (a ++ b) = twice a ++ twice b := by
  induction a with
  | nil => rfl
  | cons z r ih => simp only [List.cons_append, twice, ih]
theorem twice_wd {zs : List Int} (h : Wd 18446744073709551616 zs) : Wd 4294967296 (twice zs) := by
  induction zs with
  | nil => exact Wd.nil _
  | cons z r ih =>
    have := h.head
    exact Wd.cons (by omega) (Wd.cons (by omega) (ih h.tail))
theorem twice_val (zs : List Int) : val 4294967296 (twice zs) = val 18446744073709551616 zs := by
  induction zs with
  | nil => rfl
  | cons z r ih => simp only [twice, val, ih]; omega

set_option maxRecDepth 100000 in
set_option maxHeartbeats 1000000 in
theorem halves_any (ao : Option Addr) (len cap : Nat) (zs : List Int) (w : World) (hr : RowAt w .u64 ao len cap zs) (hW : Wd 18446744073709551616 zs) (hl : len ≤ 4294967296) (N : Nat) (hN : val 18446744073709551616 zs = N) :
    Calls Tryd.prog 33 #[.slice ao len cap] w fun e w' => (∃ ao' l' c', e = .returned (.slice ao' l' c') ∧ RowAt w' .u32 ao' l' c' (half N)) ∧ Below w.heap.size w w' := by
  obtain ⟨i0, hi, hz0, hz1, hz2⟩ := info_parts info32
  have HL : Hid (len = zs.length ∧ Wd 18446744073709551616 zs ∧ val 18446744073709551616 zs = N) := ⟨hr.hlen, hW, hN⟩
  clear hW hN
  go_enter Tryd.func33, Tryd.ntmps33
  go_wp2
  go_loopw [3, 4] (fun v i wr => ∃ k : Nat, k ≤ len ∧ i = .int .i64 k ∧ wr.ownsRow w.heap.size 65 1 v (2 * k) ((twice (zs.take k)).map (Value.int .u32)) ∧ Below w.heap.size w wr) (fun _ i _ => len - (intOf i).toNat)
  case atStart => exact ⟨0, Nat.zero_le _, rfl, World.ownsRow_nil _ _ _ _, Below.refl _ _⟩
  case round =>
    obtain ⟨k, hk, rfl, hown, hbel⟩ := hrel
    by_cases hlt : k < len
    · obtain ⟨b, off, rfl, hb, hc⟩ := hr.get (by omega)
      have hcell : wr.cell? ⟨b, off + k, none⟩ = some (.int .u64 (dig zs k)) := (hbel.cell (p := ⟨b, off + k, none⟩) hb).trans (hc k hlt)
      obtain ⟨z, hz⟩ : ∃ z, dig zs k = z := ⟨_, rfl⟩
      rw [hz] at hcell
      have HZ : Hid (dig zs k = z) := hz
      have hzb : 0 ≤ z ∧ z < 18446744073709551616 := hz ▸ HL.out.2.1.dig (by decide) k
      obtain ⟨hz1', hz2'⟩ := hzb
      have hlt' : (k : Int) < (len : Int) := by omega
      have hge' : (0 : Int) ≤ (k : Int) := by omega
      have hbs : b < wr.heap.size := by have := hbel.size; omega
      have HC : Hid (w.cell? ⟨b, off + k, none⟩ = some (.int .u64 z)) := by show _ = _; rw [hc k hlt, hz]
      have HX : Hid ((twice (zs.take (k + 1))).map (Value.int .u32) = (twice (zs.take k)).map (Value.int .u32) ++ [.int .u32 (IntKind.u32.wrap z), .int .u32 (IntKind.u32.wrap (z / 4294967296))]) := by
        show _ = _
        rw [take_getD (by have := HL.out.1; omega), twice_append, List.map_append]
        have : zs.getD k 0 = z := hz
        rw [this, IntKind.wrap_u32', IntKind.wrap_u32']
        simp only [twice, List.map_cons, List.map_nil]
        rw [Int.emod_eq_of_lt (by omega) (show z / 4294967296 < 4294967296 by omega)]
      have h63 : Hid (2 * k + 2 ≤ maxLen) := by show _ ≤ _; unfold maxLen; omega
      have hby : Hid ((2 * k + 2) * 4 ≤ 140737488355328) := by show _ ≤ _; omega
      clear hz hc
      go_wp2
      go_region_held3 (fun w' => w'.cell? ⟨b, off + k, none⟩ = some (.int .u64 z))
        (first | go_keep | exact (hB1.cell (p := ⟨b, off + k, none⟩) hb).trans HC.out)
        ((refine step_append_lies _ (by rfl) _ _ _ (by rfl) w.heap.size 65 i0 _ 1 4 Tryd.underlying63 hi hz0 hz1 hz2 rfl (by omega) _ (2 * k) _ (by rfl) ((hown.alloc _).drew) ⟨wr.heap.size, 0, none⟩ 2 2 [.int .u32 (IntKind.u32.wrap z), .int .u32 (IntKind.u32.wrap (z / 4294967296))] (by rfl) (by rfl) (World.news_of_block (cs := #[.int .u32 (IntKind.u32.wrap z), .int .u32 (IntKind.u32.wrap (z / 4294967296))]) (t := 65) (fr := (0, 0)) (heap_alloc_new wr _)) (by simp [Value.oneCell']) (by omega) h63.out hby.out (by simp; have := hbel.size; omega) (wr.heap.size + 1) (by simp) ?_; intro g cp w1 hown1 hgrow hat hltg; have hB1 : Below w.heap.size w w1 := ((hbel.alloc hbel.size _).drew).grown hgrow (by simp; have := hbel.size; omega) (own_from hown)))
      go_wp2
      go_roundw
      case rel => exact ⟨k + 1, by omega, by go_num, by rw [HX.out]; exact hown1, hB1⟩
      case measure => simp [intOf]; omega
    · obtain rfl : k = len := by omega
      have hkl : Hid (zs.take k = zs) := List.take_of_length_le (by have := HL.out.1; omega)
      rw [hkl.out] at hown
      obtain ⟨ao1, c1, hv, hrow⟩ := row_of_owns (by rw [twice_length]; have := HL.out.1; omega) hown
      subst hv
      have hcap := cap_of_owns hown
      go_wp2_with (go_at_call 54; refine (cut_any ao1 (2 * k) c1 (twice zs) _ hrow hcap).mono ?_; rintro e w4 ⟨hT, rfl⟩; obtain ⟨ao', n', cap', hn', rfl, hrow', hcan', hval', hrest⟩ := hT)
      go_ret
      have hm : half N = (twice zs).take n' := half_of ((twice_wd HL.out.2.1).take n') hcan' (by rw [hval', twice_val, HL.out.2.2])
      exact ⟨⟨ao', n', cap', rfl, by rw [hm]; exact hrow'⟩, hbel⟩
end Go.Proofs.YtnodcfeimiimbaaDoor
