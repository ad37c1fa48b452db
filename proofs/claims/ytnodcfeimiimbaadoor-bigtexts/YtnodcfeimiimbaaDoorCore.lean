/-
  Rows of words in memory; what a later world keeps of them. No Go text is named here.
-/
import Derived.WalkKit
import Derived.WalkSpells
import Derived.WalkLawsBesides
import Derived.Deep.QuietTactic
import Derived.BigQuiet
import Derived.Test.YtnodcfeimiimbaaDoorNum
namespace Go.Proofs.YtnodcfeimiimbaaDoor
open Go.RowKit
set_option linter.unusedVariables false
set_option linter.unusedSimpArgs false

/-- digit t (0 beyond the top) -/
def dig (zs : List Int) (t : Nat) : Int := zs.getD t 0

/-- a slice of len numbers zs, of kind k -/
structure RowAt (w : World) (k : IntKind) (ao : Option Addr) (len cap : Nat) (zs : List Int) : Prop where
  hlen : len = zs.length
  hcap : len ≤ cap
  hnil : ao = none → cap = 0
  hat : len = 0 ∨ ∃ b off, ao = some ⟨b, off, none⟩ ∧ b < w.heap.size ∧ ∀ t, t < len → w.cell? ⟨b, off + t, none⟩ = some (.int k (dig zs t))

theorem cell_lt {w : World} {p : Addr} {v : Value} (h : w.cell? p = some v) : p.block < w.heap.size := by
  by_cases hlt : p.block < w.heap.size
  · exact hlt
  · exfalso
    have : w.heap[p.block]? = none := by simp; omega
    simp [World.cell?, this] at h

theorem RowAt.get {w : World} {k : IntKind} {ao : Option Addr} {len cap : Nat} {zs : List Int} (h : RowAt w k ao len cap zs) (hp : 0 < len) :
    ∃ b off, ao = some ⟨b, off, none⟩ ∧ b < w.heap.size ∧ ∀ t, t < len → w.cell? ⟨b, off + t, none⟩ = some (.int k (dig zs t)) := by
  rcases h.hat with h | h
  · omega
  · exact h

theorem RowAt.later {w w' : World} {k : IntKind} {ao : Option Addr} {len cap : Nat} {zs : List Int} (h : RowAt w k ao len cap zs) (hb : Below w.heap.size w w') : RowAt w' k ao len cap zs := by
  refine ⟨h.hlen, h.hcap, h.hnil, ?_⟩
  rcases h.hat with h0 | ⟨b, off, h1, hlt, h2⟩
  · exact Or.inl h0
  · exact Or.inr ⟨b, off, h1, Nat.lt_of_lt_of_le hlt hb.size, fun t ht => by rw [hb.cell (p := ⟨b, off + t, none⟩) hlt]; exact h2 t ht⟩

theorem RowAt.nilRow (w : World) (k : IntKind) : RowAt w k none 0 0 [] := ⟨rfl, Nat.le_refl _, fun _ => rfl, Or.inl rfl⟩

theorem dig_take {zs : List Int} {n t : Nat} (h : t < n) : dig (zs.take n) t = dig zs t := by
  simp [dig, h]
theorem RowAt.take {w : World} {k : IntKind} {ao : Option Addr} {len cap : Nat} {zs : List Int} (h : RowAt w k ao len cap zs) {n : Nat} (hn : n ≤ len) : RowAt w k ao n cap (zs.take n) := by
  refine ⟨?_, Nat.le_trans hn h.hcap, h.hnil, ?_⟩
  · have := h.hlen; simp; omega
  · rcases h.hat with h0 | ⟨b, off, h1, hlt, h2⟩
    · exact Or.inl (by omega)
    · exact Or.inr ⟨b, off, h1, hlt, fun t ht => by rw [dig_take ht]; exact h2 t (by omega)⟩

/-- is it a number: its top word is not 0; 0 has no sign -/
def mayB (neg : Bool) (zs : List Int) : Bool := match zs.getLast? with | none => !neg | some z => z != 0
theorem mayB_nil (neg : Bool) : mayB neg [] = !neg := rfl
theorem mayB_last {neg : Bool} {zs : List Int} (h : zs ≠ []) : mayB neg zs = (dig zs (zs.length - 1) != 0) := by
  unfold mayB dig
  rw [List.getLast?_eq_getElem?]
  cases zs with
  | nil => exact absurd rfl h
  | cons x r => simp

/-- what a number's magnitude is in memory: its words -/
def mag (n : Nat) : List Int := limbs 18446744073709551616 n
theorem mag_wd (n : Nat) : Wd 18446744073709551616 (mag n) := limbs_wd (by decide) n
theorem mag_can (n : Nat) : Can (mag n) := limbs_can (by decide) n
theorem mag_val (n : Nat) : val 18446744073709551616 (mag n) = n := limbs_val (q := 18446744073709551616) (by decide) n
theorem mag_of {zs : List Int} {n : Nat} (h : Wd 18446744073709551616 zs) (hc : Can zs) (hv : val 18446744073709551616 zs = n) : mag n = zs := limbs_of (q := 18446744073709551616) (by decide) h hc hv
def half (n : Nat) : List Int := limbs 4294967296 n
theorem half_wd (n : Nat) : Wd 4294967296 (half n) := limbs_wd (by decide) n
theorem half_can (n : Nat) : Can (half n) := limbs_can (by decide) n
theorem half_val (n : Nat) : val 4294967296 (half n) = n := limbs_val (q := 4294967296) (by decide) n
theorem half_of {zs : List Int} {n : Nat} (h : Wd 4294967296 zs) (hc : Can zs) (hv : val 4294967296 zs = n) : half n = zs := limbs_of (q := 4294967296) (by decide) h hc hv

/-- zeros on top add nothing -/
theorem val_take_zeros (q : Int) {zs : List Int} : ∀ {k : Nat}, k ≤ zs.length → (∀ t, k ≤ t → t < zs.length → dig zs t = 0) → val q (zs.take k) = val q zs := by
  intro k hk h
  obtain ⟨d, hd⟩ : ∃ d, zs.length - k = d := ⟨_, rfl⟩
  induction d generalizing k with
  | zero => rw [List.take_of_length_le (by omega)]
  | succ d ih =>
    have h1 := ih (k := k + 1) (by omega) (fun t ht htl => h t (by omega) htl) (by omega)
    have h2 := val_take_succ q (zs := zs) (k := k) (by omega)
    have h3 : zs.getD k 0 = 0 := h k (Nat.le_refl _) (by omega)
    rw [h3] at h2; rw [← h1, h2]; simp
theorem can_take {zs : List Int} {k : Nat} (hk : k ≤ zs.length) (h : 0 < k → dig zs (k - 1) ≠ 0) : Can (zs.take k) := by
  cases k with
  | zero => simp [Can]
  | succ j => rw [take_getD (by omega)]; exact can_snoc.2 (by simpa [dig] using h (by omega))

theorem ret_bool {a b : Bool} (h : a = b) : Ending.returned (.bool a) = .returned (.bool b) := by rw [h]
theorem ret_int {k : IntKind} {a b : Int} (h : a = b) : Ending.returned (.int k a) = .returned (.int k b) := by rw [h]
theorem dig_ext {x y : List Int} (hl : x.length = y.length) (h : ∀ t, t < x.length → dig x t = dig y t) : x = y := by
  apply List.ext_getElem hl
  intro i h1 h2
  have := h i h1
  simpa [dig, h1, h2] using this

/-- a row that was cut behind its top digit -/
def Trimmed (w : World) (k : IntKind) (ao : Option Addr) (len cap : Nat) (zs : List Int) (e : Ending) : Prop :=
  ∃ ao' n cap', n ≤ len ∧ e = .returned (.slice ao' n cap') ∧ RowAt w k ao' n cap' (zs.take n) ∧ Can (zs.take n) ∧ (∀ q, val q (zs.take n) = val q zs) ∧ (ao' = ao ∧ cap' = cap ∨ ao' = none ∧ n = 0)

/-- how two numbers stand to each other -/
def cmpI (a b : Int) : Int := if a < b then -1 else if b < a then 1 else 0
theorem cmpI_lt {a b : Int} (h : a < b) : cmpI a b = -1 := by simp [cmpI, h]
theorem cmpI_gt {a b : Int} (h : b < a) : cmpI a b = 1 := by have : ¬ a < b := by omega
                                                             simp [cmpI, h, this]
theorem cmpI_eq {a b : Int} (h : a = b) : cmpI a b = 0 := by subst h; simp [cmpI]
theorem drop_dig {x y : List Int} {k : Nat} (hl : x.length = y.length) (h : ∀ t, k ≤ t → t < x.length → dig x t = dig y t) : x.drop k = y.drop k := by
  apply List.ext_getElem (by simp [hl])
  intro i h1 h2
  simp only [List.length_drop] at h1 h2
  have := h (k + i) (by omega) (by omega)
  simpa [dig, show k + i < x.length by omega, show k + i < y.length by omega] using this

end Go.Proofs.YtnodcfeimiimbaaDoor
