/-
  A pack of walks and facts: JB0.
-/
import Derived.Test.YthjkdnlbdhhmbaaGreatDoorPV02
set_option maxRecDepth 100000
set_option maxHeartbeats 40000000
set_option linter.unusedVariables false
set_option linter.unusedSimpArgs false
namespace Go.Proofs.YthjkdnlbdhhmbaaGreatDoor
open Go.RowKit
def ev : List Int → Int → Int
 | [], _ => 0
 | a :: p, x => a + x * ev p x
theorem zero_of_ev : ∀ {p : List Int} {N : Nat}, (∀ x : Int, (N : Int) < x → ev p x = 0) → ∀ a ∈ p, a = 0 := by
 intro p
 induction p with
 | nil => intro N h a ha; cases ha
 | cons a p ih =>
  intro N h
  have ha : a = 0 := by
   have hx : (N : Int) < (a.natAbs : Int) + N + 1 := by omega
   have h1 := h _ hx
   simp only [ev] at h1
   have h2 : ((a.natAbs : Int) + N + 1) ∣ a := ⟨-(ev p ((a.natAbs : Int) + N + 1)), by rw [Int.mul_neg]; omega⟩
   have h3 : ((a.natAbs : Int) + N + 1).natAbs ∣ a.natAbs := Int.natAbs_dvd_natAbs.2 h2
   rcases Nat.eq_zero_or_pos a.natAbs with h4 | h4
   ·
    omega
   ·
    have := Nat.le_of_dvd h4 h3
    omega
  subst ha
  have h3 : ∀ x : Int, (N : Int) < x → ev p x = 0 := by
   intro x hx
   have h1 := h x (by omega)
   simp only [ev, Int.zero_add] at h1
   rcases Int.mul_eq_zero.1 h1 with h2 | h2
   ·
    omega
   ·
    exact h2
  intro b hb
  rcases List.mem_cons.1 hb with rfl | hb
  ·
   rfl
  ·
   exact ih h3 b hb
theorem eq_of_ev : ∀ {p q : List Int}, p.length = q.length → (∀ x, ev p x = ev q x) → p = q := by
 intro p q hl h
 have key : ∀ (p q : List Int), p.length = q.length → ∀ x, ev (List.zipWith (fun a b => a - b) p q) x = ev p x - ev q x := by
  intro p
  induction p with
  | nil => intro q hl x; cases q <;> simp_all [ev]
  | cons a p ih =>
   intro q hl x
   cases q with
   | nil => simp at hl
   | cons b q =>
    simp only [List.zipWith_cons_cons, ev]
    rw [ih q (by simpa using hl) x, Int.mul_sub]; omega
 have hz := zero_of_ev (p := List.zipWith (fun a b => a - b) p q) (N := 0) (fun x _ => by rw [key p q hl, h x]; omega)
 apply List.ext_getElem hl
 intro i h1 h2
 have hm : p[i] - q[i] ∈ List.zipWith (fun a b => a - b) p q := by
  rw [List.mem_iff_getElem]
  exact ⟨i, by simp; omega, by simp⟩
 have := hz _ hm
 omega
def addTo : List Int → List Int → List Int
 | [], l => l
 | a :: p, [] => a :: p
 | a :: p, b :: l => (a + b) :: addTo p l
theorem addTo_ev (p l : List Int) (x : Int) : ev (addTo p l) x = ev p x + ev l x := by
 induction p generalizing l with
 | nil => simp [addTo, ev]
 | cons a p ih => cases l with
  | nil => simp [addTo, ev]
  | cons b l => simp only [addTo, ev, ih]; grind
theorem addTo_len (p l : List Int) (h : p.length ≤ l.length) : (addTo p l).length = l.length := by
 induction p generalizing l with
 | nil => rfl
 | cons a p ih => cases l with
  | nil => simp at h
  | cons b l => simp only [addTo, List.length_cons]; rw [ih l (by simpa using h)]
theorem addTo_dig (p l : List Int) (k : Nat) : dig (addTo p l) k = dig p k + dig l k := by
 induction p generalizing l k with
 | nil => simp [addTo, dig]
 | cons a p ih => cases l with
  | nil => simp [addTo, dig]
  | cons b l => cases k with
   | zero => simp [addTo, dig]
   | succ k => simpa [addTo, dig] using ih l k
theorem map_ev (a : Int) (s : List Int) (x : Int) : ev (s.map (a * ·)) x = a * ev s x := by
 induction s with
 | nil => simp [ev]
 | cons b s ih => simp only [List.map_cons, ev, ih]; grind
theorem map_dig (a : Int) (s : List Int) (k : Nat) : dig (s.map (a * ·)) k = a * dig s k := by
 unfold dig
 rw [List.getD_eq_getElem?_getD, List.getD_eq_getElem?_getD, List.getElem?_map]
 cases s[k]? <;> simp
theorem rep_ev (n : Nat) (x : Int) : ev (List.replicate n 0) x = 0 := by
 induction n with
 | zero => rfl
 | succ n ih => simp [List.replicate_succ, ev, ih]
theorem rep_dig (n k : Nat) : dig (List.replicate n 0) k = 0 := by
 unfold dig
 rw [List.getD_eq_getElem?_getD, List.getElem?_replicate]
 split <;> rfl
def mulL : List Int → List Int → List Int
 | [], s => List.replicate (s.length - 1) 0
 | a :: p, s => addTo (s.map (a * ·)) (0 :: mulL p s)
theorem mulL_len (p s : List Int) (h : 0 < s.length) : (mulL p s).length = p.length + s.length - 1 := by
 induction p with
 | nil => simp [mulL]
 | cons a p ih =>
  rw [mulL, addTo_len _ _ (by simp [ih]; omega)]
  simp [ih]; omega
theorem mulL_ev (p s : List Int) (x : Int) : ev (mulL p s) x = ev p x * ev s x := by
 induction p with
 | nil => simp [mulL, rep_ev, ev]
 | cons a p ih => simp only [mulL, addTo_ev, map_ev, ev, ih]; grind
theorem dig_past {s : List Int} {k : Nat} (h : s.length ≤ k) : dig s k = 0 := by
 unfold dig; rw [List.getD_eq_getElem?_getD, List.getElem?_eq_none h]; rfl
theorem dig_cons (a : Int) (p : List Int) (k : Nat) : dig (a :: p) (k + 1) = dig p k := by simp [dig]
theorem mulL_lead (p s : List Int) (hp : 0 < p.length) (h : 0 < s.length) : dig (mulL p s) (p.length + s.length - 2) = dig p (p.length - 1) * dig s (s.length - 1) := by
 induction p with
 | nil => simp at hp
 | cons a p ih =>
  rw [mulL, addTo_dig, map_dig]
  cases p with
  | nil =>
   have e1 : ([a] : List Int).length + s.length - 2 = s.length - 1 := by simp; omega
   rw [e1]
   cases hs : s.length - 1 with
   | zero => simp [dig]
   | succ k => rw [dig_cons]; simp only [mulL, rep_dig]; simp [dig]
  | cons b p =>
   have e1 : (a :: b :: p).length + s.length - 2 = ((b :: p).length + s.length - 2) + 1 := by simp; omega
   rw [e1, dig_past (s := s) (by simp; omega), dig_cons, ih (by simp)]
   have e2 : (a :: b :: p).length - 1 = ((b :: p).length - 1) + 1 := by simp
   rw [e2, dig_cons]; simp
theorem ev_set (l : List Int) (j : Nat) (v x : Int) (h : j < l.length) : ev (l.set j (dig l j + v)) x = ev l x + v * x ^ j := by
 induction l generalizing j with
 | nil => simp at h
 | cons a l ih => cases j with
  | zero => simp [ev, dig]; omega
  | succ j =>
   have := ih j (by simpa using h)
   simp only [List.set_cons_succ, ev, dig_cons, this, Int.pow_succ]; grind
theorem ev_take (l : List Int) (j : Nat) (x : Int) (h : j < l.length) : ev (l.take (j + 1)) x = ev (l.take j) x + dig l j * x ^ j := by
 induction l generalizing j with
 | nil => simp at h
 | cons a l ih => cases j with
  | zero => simp [ev, dig]
  | succ j =>
   have := ih j (by simpa using h)
   simp only [List.take_succ_cons, ev, dig_cons, this, Int.pow_succ]; grind
def PMulSt (p s : List Int) (i k : Nat) (l : List Int) : Prop := l.length = p.length + s.length - 1 ∧ ∀ x, ev l x = ev (p.take i) x * ev s x + dig p i * x ^ i * ev (s.take k) x
theorem PMulSt.start (p s : List Int) : PMulSt p s 0 0 (List.replicate (p.length + s.length - 1) 0) := ⟨by simp, fun x => by simp [rep_ev, ev]⟩
theorem PMulSt.step {p s l : List Int} {i k : Nat} (h : PMulSt p s i k l) (hi : i < p.length) (hk : k < s.length) : PMulSt p s i (k + 1) (l.set (i + k) (dig l (i + k) + dig p i * dig s k)) := by
 refine ⟨by simpa using h.1, fun x => ?_⟩
 rw [ev_set _ _ _ _ (by rw [h.1]; omega), h.2 x, ev_take _ _ _ hk, Int.pow_add]; grind
theorem PMulSt.row {p s l : List Int} {i : Nat} (h : PMulSt p s i s.length l) (hi : i < p.length) : PMulSt p s (i + 1) 0 l := by
 refine ⟨h.1, fun x => ?_⟩
 rw [h.2 x, ev_take _ _ _ hi, List.take_length]
 simp [ev]; grind
theorem PMulSt.done {p s l : List Int} (h : PMulSt p s p.length 0 l) (hs : 0 < s.length) : l = mulL p s :=
 eq_of_ev (by rw [h.1, mulL_len _ _ hs]) fun x => by rw [h.2 x, mulL_ev]; simp [ev]
theorem pdig_set (l : List Int) (j t : Nat) (v : Int) (h : t < l.length) : dig (l.set j v) t = if t = j then v else dig l t := by
 unfold dig
 rw [List.getD_eq_getElem?_getD, List.getD_eq_getElem?_getD, List.getElem?_set]
 by_cases e : j = t
 ·
  subst e; simp [h]
 ·
  simp [e, Ne.symm e, show ¬ t = j from fun x => e x.symm]
end Go.Proofs.YthjkdnlbdhhmbaaGreatDoor
