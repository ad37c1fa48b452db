/-
  HY, HZ.
-/
import Derived.Test.YtiiefpnkpfliiaaGreatDoorHU
import Derived.Laws.BytesArg

/- Walks: the page's text of a number. -/
namespace Go.Proofs.YtiiefpnkpfliiaaGreatDoor
open Go.RowKit
set_option linter.unusedVariables false
set_option linter.unusedSimpArgs false

/-- a number's decimal digits, the highest first, as bytes -/
def dnums (n : Nat) : List Int := if n = 0 then [48] else (limbs 10 n).reverse.map (48 + ·)
/-- digits E are written, R is left -/
structure TxSt (n : Nat) (E : List Int) (R : Nat) : Prop where
  wd : Wd 10 E
  eq : val 10 E + 10 ^ E.length * (R : Int) = (n : Int)
theorem TxSt.step {n R : Nat} {E : List Int} (h : TxSt n E R) : TxSt n (E ++ [((R % 10 : Nat) : Int)]) (R / 10) := by
  refine ⟨h.wd.append (Wd.one (by omega)), ?_⟩
  have h1 := h.eq
  rw [val_snoc, List.length_append, List.length_singleton, Int.pow_succ]
  have h2 : (R : Int) = ((R % 10 : Nat) : Int) + 10 * ((R / 10 : Nat) : Int) := by omega
  rw [h2] at h1
  rw [← h1]; grind
theorem TxSt.len {n R : Nat} {E : List Int} (h : TxSt n E R) (hR : 0 < R) {l : Nat} (hn : n < 18446744073709551616 ^ l) : E.length ≤ 64 * l := by
  have h1 := h.eq
  have h2 := val_nonneg (q := 10) (by decide) h.wd
  have h3 : (10 : Int) ^ E.length ≤ (n : Int) := by
    have : (10 : Int) ^ E.length * 1 ≤ 10 ^ E.length * (R : Int) := Int.mul_le_mul_of_nonneg_left (by omega) (Int.le_of_lt (Int.pow_pos (by decide)))
    omega
  have h4 : 10 ^ E.length ≤ n := by exact_mod_cast h3
  have h5 : 2 ^ E.length ≤ 10 ^ E.length := Nat.pow_le_pow_left (by decide) _
  have h6 : (18446744073709551616 : Nat) ^ l = 2 ^ (64 * l) := by rw [Nat.pow_mul]
  have h7 : 2 ^ E.length < 2 ^ (64 * l) := by omega
  exact Nat.le_of_lt ((Nat.pow_lt_pow_iff_right (by decide)).1 h7)
theorem TxSt.le {n R : Nat} {E : List Int} (h : TxSt n E R) : R ≤ n := by
  have h1 := h.eq
  have h2 := val_nonneg (q := 10) (by decide) h.wd
  have h3 : 1 * (R : Int) ≤ 10 ^ E.length * (R : Int) := Int.mul_le_mul_of_nonneg_right (by have := Int.pow_pos (n := 10) (m := E.length) (by decide); omega) (by omega)
  omega
def lenOf : Value → Nat
  | .slice _ n _ => n
  | _ => 0
theorem info8 : (Tryz.prog.info? 5).map (fun i => (i.zero, i.size, i.bytes)) = some (some (.int .u8 0), 1, 1) := by kernel_rfl
/-- digits as bytes -/
def asBytes (E : List Int) : List Int := E.map (48 + ·)
theorem asBytes_len (E : List Int) : (asBytes E).length = E.length := by simp [asBytes]
theorem asBytes_snoc (E : List Int) (z : Int) : (asBytes (E ++ [z])).map (Value.int .u8) = (asBytes E).map (Value.int .u8) ++ [.int .u8 (48 + z)] := by simp [asBytes]
theorem asBytes_dig (E : List Int) {t : Nat} (h : t < E.length) : dig (asBytes E) t = 48 + dig E t := by simp [asBytes, dig, h]
end Go.Proofs.YtiiefpnkpfliiaaGreatDoor

/- Walks: NText. -/
namespace Go.Proofs.YtiiefpnkpfliiaaGreatDoor
open Go.RowKit
set_option linter.unusedVariables false
set_option linter.unusedSimpArgs false

theorem owns_slice {w : World} {B n : Nat} {t : TypeId} {v : Value} {xs : List Value} (h : w.ownsRow B t 1 v n xs) : ∃ ao cap, v = .slice ao n cap ∧ cap ≤ 9223372036854775807 := by
  rcases h.2 with ⟨hv, h0⟩ | ⟨g, cap, cur, hv, hg, hh, hc1, hm, _⟩
  · subst h0; exact ⟨none, 0, hv, by omega⟩
  · exact ⟨_, cap, hv, hm⟩
theorem half_nil {n : Nat} (h : (half n).length = 0) : n = 0 := (limbs_eq_nil (q := 4294967296) (by decide)).1 (List.eq_nil_of_length_eq_zero h)

theorem owns_later {w w' : World} {B n : Nat} {t : TypeId} {v : Value} {xs : List Value} (h : w.ownsRow B t 1 v n xs) (hb : Below w.heap.size w w') : w'.ownsRow B t 1 v n xs := by
  refine ⟨h.1, ?_⟩
  rcases h.2 with hv | ⟨g, cap, cur, hv, hg, hh, hrest⟩
  · exact Or.inl hv
  · exact Or.inr ⟨g, cap, cur, hv, hg, by rw [hb.block g (heap_lt hh)]; exact hh, hrest⟩

theorem grown_owns {w0 w w' : World} {B n : Nat} {t : TypeId} {v : Value} {xs : List Value} (hb : Below B w0 w) (hB : B ≤ w.heap.size) (ho : w.ownsRow B t 1 v n xs) (hg : w.grownBy w' v.ownBlock) : Below B w0 w' :=
  hb.grown hg hB fun k hk => (ho.lt k hk).1
theorem own_grown {B B' n : Nat} {w w' : World} {k : IntKind} {t t' : TypeId} {v : Value} {xs : List Value} {ao : Option Addr} {len cap : Nat} {zs : List Int} (h : Own B w k t ao len cap zs) (ho : w.ownsRow B' t' 1 v n xs) (hg : w.grownBy w' v.ownBlock) (hne : t ≠ t') : Own B w' k t ao len cap zs := by
  rcases h with h | ⟨g, off, cur, h1, h2, h3, h4⟩
  · exact Or.inl h
  · refine Or.inr ⟨g, off, cur, h1, h2, ?_, h4⟩
    rw [hg.block g (heap_lt h3) ?_]
    · exact h3
    · intro e
      rcases ho.2 with ⟨rfl, _⟩ | ⟨g', cap', cur', rfl, hg', hh, _⟩
      · cases e
      · simp only [Value.ownBlock, Option.some.injEq] at e
        subst e
        rw [h3] at hh
        simp only [Option.some.injEq, Obj.cells.injEq] at hh
        exact hne hh.2.1
theorem rev_take_dig {E : List Int} {m i : Nat} (hm : m ≤ E.length) (hi : i < m) : (E.take m).reverse.getD (m - (i + 1)) 0 = dig E i := by
  unfold dig
  rw [List.getD_eq_getElem?_getD, List.getD_eq_getElem?_getD, List.getElem?_reverse (by simp; omega), List.length_take, Nat.min_eq_left hm, show m - 1 - (m - (i + 1)) = i by omega, List.getElem?_take, if_pos hi]
theorem below_alloc' {w X : World} {o : Obj} (h : Below w.heap.size w X) : Below w.heap.size w (X.alloc o) := h.alloc h.size o
theorem tx_low {r k : Nat} (h : r < 10 ^ (9 - k)) (hk : k < 9) : r / 10 < 10 ^ (9 - (k + 1)) := by
  rw [show 9 - k = (9 - (k + 1)) + 1 by omega, Nat.pow_succ] at h
  omega
theorem tx_step {n r k Q : Nat} {E : List Int} (h : TxSt n E (r + 10 ^ (9 - k) * Q)) (hk : k < 9) : TxSt n (E ++ [((r % 10 : Nat) : Int)]) (r / 10 + 10 ^ (9 - (k + 1)) * Q) := by
  have h1 := h.step
  have e : 10 ^ (9 - k) * Q = 10 * (10 ^ (9 - (k + 1)) * Q) := by
    rw [show 9 - k = (9 - (k + 1)) + 1 by omega, Nat.pow_succ]
    simp only [Nat.mul_comm, Nat.mul_left_comm, Nat.mul_assoc]
  rw [e] at h1
  have e1 : (r + 10 * (10 ^ (9 - (k + 1)) * Q)) % 10 = r % 10 := by omega
  have e2 : (r + 10 * (10 ^ (9 - (k + 1)) * Q)) / 10 = r / 10 + 10 ^ (9 - (k + 1)) * Q := by omega
  rw [e1, e2] at h1
  exact h1

end Go.Proofs.YtiiefpnkpfliiaaGreatDoor
