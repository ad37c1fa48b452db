/-
  Walks: rows trimmed and compared.
-/
import Derived.Test.YtnodcfeimiimbaaDoorRows
import Derived.Test.YtnodcfeimiimbaaDoorCore
namespace Go.Proofs.YtnodcfeimiimbaaDoor
open Go.RowKit
set_option linter.unusedVariables false
set_option linter.unusedSimpArgs false

set_option maxHeartbeats 400000 in
theorem ntrim_any (ao : Option Addr) (len cap : Nat) (zs : List Int) (w : World) (hr : RowAt w .u64 ao len cap zs) (hl : cap ≤ 9223372036854775807) :
    Calls Tryd.prog 56 #[.slice ao len cap] w fun e w' => Trimmed w .u64 ao len cap zs e ∧ w' = w := by
  have hcl := hr.hcap
  have hle := hr.hlen
  have HL : Hid (len = zs.length) := hle
  clear hle
  go_enter Tryd.func56, Tryd.ntmps56
  go_wp2
  go_loop [3] (fun i => ∃ k : Nat, k ≤ len ∧ i = .int .i64 k ∧ ∀ t, k ≤ t → t < len → dig zs t = 0) (fun i => (intOf i).toNat)
  case atStart => exact ⟨len, Nat.le_refl _, rfl, fun t h1 h2 => by omega⟩
  case round =>
    obtain ⟨k, hk, rfl, hz⟩ := hrel
    have HZ : Hid (∀ t, k ≤ t → t < len → dig zs t = 0) := hz
    clear hz
    by_cases hk0 : k = 0
    · subst hk0
      go_wp2
      go_ret
      refine ⟨⟨ao, 0, cap, Nat.zero_le _, rfl, hr.take (Nat.zero_le _), can_take (Nat.zero_le _) (fun h => absurd h (by omega)), fun q => val_take_zeros q (Nat.zero_le _) (fun t h1 h2 => HZ.out t h1 (HL.out ▸ h2)), Or.inl ⟨rfl, rfl⟩⟩, rfl⟩
    · have hkp : 0 < k := by omega
      have HR : Hid (RowAt w .u64 ao len cap zs) := hr
      obtain ⟨b, off, rfl, hb, hc⟩ := hr.get (by omega)
      have hcell := hc (k - 1) (by omega)
      clear hc hr
      by_cases hd : dig zs (k - 1) = 0
      · rw [hd] at hcell
        have HD : Hid (dig zs (k - 1) = 0) := hd
        clear hd
        go_wp2
        go_round
        case rel => exact ⟨k - 1, by omega, by go_num, fun t h1 h2 => by
          by_cases e : t = k - 1
          · subst e; exact HD.out
          · exact HZ.out t (by omega) h2⟩
        case measure => simp [intOf]; omega
      · have hd' : (dig zs (k - 1) == 0) = false := by simpa using hd
        obtain ⟨z, hz⟩ : ∃ z, dig zs (k - 1) = z := ⟨_, rfl⟩
        rw [hz] at hcell hd'
        have HD : Hid (dig zs (k - 1) ≠ 0) := hd
        clear hd hz
        go_wp2
        go_ret
        refine ⟨⟨_, k, cap, hk, rfl, HR.out.take hk, can_take (HL.out ▸ hk) (fun _ => HD.out), fun q => val_take_zeros q (HL.out ▸ hk) (fun t h1 h2 => HZ.out t h1 (HL.out ▸ h2)), Or.inl ⟨rfl, rfl⟩⟩, rfl⟩
set_option maxHeartbeats 400000 in
theorem trim_any (ao : Option Addr) (len cap : Nat) (zs : List Int) (w : World) (hr : RowAt w .u64 ao len cap zs) (hl : cap ≤ 9223372036854775807) :
    Calls Tryd.prog 48 #[.slice ao len cap] w fun e w' => Trimmed w .u64 ao len cap zs e ∧ w' = w := by
  have hcl := hr.hcap
  have hle := hr.hlen
  have HL : Hid (len = zs.length) := hle
  clear hle
  go_enter Tryd.func48, Tryd.ntmps48
  go_wp2
  go_loop [3] (fun i => ∃ k : Nat, k ≤ len ∧ i = .int .i64 k ∧ ∀ t, k ≤ t → t < len → dig zs t = 0) (fun i => (intOf i).toNat)
  case atStart => exact ⟨len, Nat.le_refl _, rfl, fun t h1 h2 => by omega⟩
  case round =>
    obtain ⟨k, hk, rfl, hz⟩ := hrel
    have HZ : Hid (∀ t, k ≤ t → t < len → dig zs t = 0) := hz
    clear hz
    by_cases hk0 : k = 0
    · subst hk0
      go_wp2
      go_ret
      refine ⟨⟨none, 0, 0, Nat.zero_le _, rfl, RowAt.nilRow _ _, can_take (Nat.zero_le _) (fun h => absurd h (by omega)), fun q => val_take_zeros q (Nat.zero_le _) (fun t h1 h2 => HZ.out t h1 (HL.out ▸ h2)), Or.inr ⟨rfl, rfl⟩⟩, rfl⟩
    · have hkp : 0 < k := by omega
      have HR : Hid (RowAt w .u64 ao len cap zs) := hr
      obtain ⟨b, off, rfl, hb, hc⟩ := hr.get (by omega)
      have hcell := hc (k - 1) (by omega)
      clear hc hr
      by_cases hd : dig zs (k - 1) = 0
      · rw [hd] at hcell
        have HD : Hid (dig zs (k - 1) = 0) := hd
        clear hd
        go_wp2
        go_round
        case rel => exact ⟨k - 1, by omega, by go_num, fun t h1 h2 => by
          by_cases e : t = k - 1
          · subst e; exact HD.out
          · exact HZ.out t (by omega) h2⟩
        case measure => simp [intOf]; omega
      · have hd' : (dig zs (k - 1) == 0) = false := by simpa using hd
        obtain ⟨z, hz⟩ : ∃ z, dig zs (k - 1) = z := ⟨_, rfl⟩
        rw [hz] at hcell hd'
        have HD : Hid (dig zs (k - 1) ≠ 0) := hd
        clear hd hz
        go_wp2
        go_ret
        refine ⟨⟨_, k, cap, hk, rfl, HR.out.take hk, can_take (HL.out ▸ hk) (fun _ => HD.out), fun q => val_take_zeros q (HL.out ▸ hk) (fun t h1 h2 => HZ.out t h1 (HL.out ▸ h2)), Or.inl ⟨rfl, rfl⟩⟩, rfl⟩

set_option maxHeartbeats 800000 in
theorem eqwords_any (ao bo : Option Addr) (la ca lb cb : Nat) (x y : List Int) (w : World) (hx : RowAt w .u64 ao la ca x) (hy : RowAt w .u64 bo lb cb y) (hl : la ≤ 4611686018427387904) :
    Calls Tryd.prog 20 #[.slice ao la ca, .slice bo lb cb] w fun e w' => e = .returned (.bool (decide (x = y))) ∧ Below w.heap.size w w' := by
  by_cases hlen : la = lb
  · subst hlen
    have HX := hx.hlen; have HY := hy.hlen
    have hh : Hid (la = x.length ∧ la = y.length) := ⟨HX, HY⟩
    clear HX HY
    go_enter Tryd.func20, Tryd.ntmps20
    go_wp2
    go_loopw [5] (fun i wr => ∃ k : Nat, k ≤ la ∧ i = .int .i64 k ∧ (∃ nq, wr = w.drewN nq) ∧ ∀ t, t < k → dig x t = dig y t) (fun i _ => la - (intOf i).toNat)
    case atStart => exact ⟨0, Nat.zero_le _, rfl, ⟨0, rfl⟩, fun t ht => absurd ht (by omega)⟩
    case round =>
      obtain ⟨k, hk, rfl, ⟨nq, rfl⟩, hz⟩ := hrel
      have HZ : Hid (∀ t, t < k → dig x t = dig y t) := hz
      clear hz
      by_cases hlt : k < la
      · obtain ⟨b, off, rfl, hb, hc⟩ := hx.get (by omega)
        obtain ⟨b', off', rfl, hb', hc'⟩ := hy.get (by omega)
        have h1 := hc k hlt
        have h2 := hc' k hlt
        clear hx hy hc hc'
        have hlt' : (k : Int) < (la : Int) := by omega
        have hge' : (0 : Int) ≤ (k : Int) := by omega
        obtain ⟨u, hu⟩ : ∃ u, dig x k = u := ⟨_, rfl⟩
        obtain ⟨v, hv⟩ : ∃ v, dig y k = v := ⟨_, rfl⟩
        have HU : Hid (dig x k = u ∧ dig y k = v) := ⟨hu, hv⟩
        rw [hu] at h1; rw [hv] at h2
        clear hu hv
        by_cases he : u = v
        · subst he
          go_wp2
          go_quiet (fail)
          go_wp2
          go_roundw
          case rel => exact ⟨k + 1, by omega, by go_num, ⟨_, rfl⟩, fun t ht => by
            by_cases e : t = k
            · subst e; rw [HU.out.1, HU.out.2]
            · exact HZ.out t (by omega)⟩
          case measure => simp [intOf]; omega
        · have he' : (u != v) = true := by simpa using he
          have HE : Hid (¬ u = v) := he
          clear he
          go_wp2
          go_quiet (fail)
          go_wp2
          go_ret
          refine ⟨ret_bool (a := false) (decide_eq_false ?_).symm, below_drewN (below_drewN (Below.refl _ _) _) _⟩
          intro e; subst e
          exact HE.out (HU.out.1.symm.trans HU.out.2)
      · go_wp2
        go_ret
        refine ⟨ret_bool (a := true) (decide_eq_true ?_).symm, below_drewN (Below.refl _ _) _⟩
        exact dig_ext (by have := hh.out; omega) (fun t ht => HZ.out t (by have := hh.out; omega))
  · have hne : Hid (¬ x = y) := fun e => by have h1 := hx.hlen; have h2 := hy.hlen; subst e; omega
    have hlen' : ((la : Int) != (lb : Int)) = true := by simp; omega
    go_enter Tryd.func20, Tryd.ntmps20
    go_wp2
    go_ret
    exact ⟨ret_bool (a := false) (decide_eq_false hne.out).symm, Below.refl _ _⟩

end Go.Proofs.YtnodcfeimiimbaaDoor
