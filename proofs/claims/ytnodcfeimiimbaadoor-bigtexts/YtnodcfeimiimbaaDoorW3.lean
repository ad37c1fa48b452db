/-
  Walks: rows compared.
-/
import Derived.Test.YtnodcfeimiimbaaDoorRows
import Derived.Test.YtnodcfeimiimbaaDoorCore
namespace Go.Proofs.YtnodcfeimiimbaaDoor
open Go.RowKit
set_option linter.unusedVariables false
set_option linter.unusedSimpArgs false

set_option maxHeartbeats 1000000 in
theorem compare_any (ao bo : Option Addr) (la ca lb cb : Nat) (x y : List Int) (w : World) (hx : RowAt w .u64 ao la ca x) (hy : RowAt w .u64 bo lb cb y) (wx : Wd 18446744073709551616 x) (wy : Wd 18446744073709551616 y) (cx : Can x) (cy : Can y) (hl : la ≤ 4611686018427387904) (hl' : lb ≤ 4611686018427387904) :
    Calls Tryd.prog 45 #[.slice ao la ca, .slice bo lb cb] w fun e w' => e = .returned (.int .i64 (cmpI (val 18446744073709551616 x) (val 18446744073709551616 y))) ∧ Below w.heap.size w w' := by
  have hh : Hid (la = x.length ∧ lb = y.length) := ⟨hx.hlen, hy.hlen⟩
  have HW : Hid (Wd 18446744073709551616 x ∧ Wd 18446744073709551616 y ∧ Can x ∧ Can y) := ⟨wx, wy, cx, cy⟩
  clear wx wy cx cy
  rcases Nat.lt_trichotomy la lb with hlt | heq | hgt
  · have h1 : Hid (val 18446744073709551616 x < val 18446744073709551616 y) := val_lt_of_len (by decide) HW.out.1 HW.out.2.1 HW.out.2.2.2 (by have := hh.out; omega)
    have h2 : ((la : Int) != (lb : Int)) = true := by simp; omega
    go_enter Tryd.func45, Tryd.ntmps45
    go_wp2
    go_ret
    exact ⟨ret_int (a := -1) (cmpI_lt h1.out).symm, Below.refl _ _⟩
  · subst heq
    go_enter Tryd.func45, Tryd.ntmps45
    go_wp2
    go_loopw [5] (fun i wr => ∃ k : Nat, k ≤ la ∧ i = .int .i64 ((k : Int) - 1) ∧ (∃ nq, wr = w.drewN nq) ∧ ∀ t, k ≤ t → t < la → dig x t = dig y t) (fun i _ => (intOf i + 1).toNat)
    case atStart => exact ⟨la, Nat.le_refl _, rfl, ⟨0, rfl⟩, fun t h1 h2 => absurd h1 (by omega)⟩
    case round =>
      obtain ⟨k, hk, rfl, ⟨nq, rfl⟩, hz⟩ := hrel
      have HZ : Hid (∀ t, k ≤ t → t < la → dig x t = dig y t) := hz
      clear hz
      by_cases hk0 : 0 < k
      · obtain ⟨b, off, rfl, hb, hc⟩ := hx.get (by omega)
        obtain ⟨b', off', rfl, hb', hc'⟩ := hy.get (by omega)
        have h1 := hc (k - 1) (by omega)
        have h2 := hc' (k - 1) (by omega)
        clear hx hy hc hc'
        have hlt' : (k : Int) - 1 < (la : Int) := by omega
        have hge' : (0 : Int) ≤ (k : Int) - 1 := by omega
        obtain ⟨u, hu⟩ : ∃ u, dig x (k - 1) = u := ⟨_, rfl⟩
        obtain ⟨v, hv⟩ : ∃ v, dig y (k - 1) = v := ⟨_, rfl⟩
        have HU : Hid (dig x (k - 1) = u ∧ dig y (k - 1) = v) := ⟨hu, hv⟩
        have HD : Hid (x.drop (k - 1 + 1) = y.drop (k - 1 + 1)) := drop_dig (by have := hh.out; omega) (fun t a1 a2 => HZ.out t (by omega) (by have := hh.out; omega))
        rw [hu] at h1; rw [hv] at h2
        clear hu hv
        rcases Int.lt_trichotomy u v with he | he | he
        · go_wp2
          go_quiet (fail)
          go_wp2
          go_ret
          exact ⟨ret_int (a := -1) (cmpI_lt (val_lt_at (by decide) HW.out.1 HW.out.2.1 (by have := hh.out; omega) (k := k - 1) (by have := hh.out; omega) HD.out (by rw [← HU.out.1, ← HU.out.2] at he; exact he))).symm, below_drewN (below_drewN (Below.refl _ _) _) _⟩
        · subst he
          go_wp2
          go_quiet (fail)
          go_wp2
          go_quiet (fail)
          go_wp2
          go_roundw
          case rel => exact ⟨k - 1, by omega, by go_num, ⟨_, rfl⟩, fun t a1 a2 => by
            by_cases e : t = k - 1
            · subst e; rw [HU.out.1, HU.out.2]
            · exact HZ.out t (by omega) a2⟩
          case measure => simp [intOf]; omega
        · have he' : ¬ u < v := by omega
          have he2 : decide (u < v) = false := by simpa using he'
          go_wp2
          go_quiet (fail)
          go_wp2
          go_quiet (fail)
          go_wp2
          go_ret
          exact ⟨ret_int (a := 1) (cmpI_gt (val_lt_at (by decide) HW.out.2.1 HW.out.1 (by have := hh.out; omega) (k := k - 1) (by have := hh.out; omega) HD.out.symm (by rw [← HU.out.1, ← HU.out.2] at he; exact he))).symm, below_drewN (below_drewN (below_drewN (Below.refl _ _) _) _) _⟩
      · have hk1 : k = 0 := by omega
        subst hk1
        go_wp2
        go_ret
        refine ⟨ret_int (a := 0) (cmpI_eq ?_).symm, below_drewN (Below.refl _ _) _⟩
        rw [dig_ext (by have := hh.out; omega) (fun t ht => HZ.out t (by omega) (by have := hh.out; omega))]
  · have h1 : Hid (val 18446744073709551616 y < val 18446744073709551616 x) := val_lt_of_len (by decide) HW.out.2.1 HW.out.1 HW.out.2.2.1 (by have := hh.out; omega)
    have h2 : ((la : Int) != (lb : Int)) = true := by simp; omega
    go_enter Tryd.func45, Tryd.ntmps45
    go_wp2
    go_ret
    exact ⟨ret_int (a := 1) (cmpI_gt h1.out).symm, Below.refl _ _⟩

end Go.Proofs.YtnodcfeimiimbaaDoor
