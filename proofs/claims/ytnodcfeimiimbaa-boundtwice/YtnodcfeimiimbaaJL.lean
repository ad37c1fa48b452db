/-
  A list of polynomials with numbers, in memory; what the statement's walk leans on.
-/
import Derived.Test.YtnodcfeimiimbaaJK
import Derived.Test.YtnodcfeimiimbaaJJ
namespace Go.Proofs.Ytnodcfeimiimbaa
open Go.RowKit
set_option linter.unusedVariables false
set_option linter.unusedSimpArgs false

/-- a token: which step of a walk is next -/
def Step (n : Nat) : Prop := True
theorem step (n : Nat) : Step n := trivial

/-- a polynomial, a number and a count lie in block b from o on: whatever they are -/
def MoveAt (w : World) (b o : Nat) : Prop :=
  ∃ (po co : Option Addr) (pl pc lc cc : Nat) (nc : Bool) (K : Int) (rs : List (Bool × List Int)) (x : List Int),
    (w.cell? ⟨b, o, none⟩ = some (.slice po pl pc) ∧ w.cell? ⟨b, o + 1, none⟩ = some (.bool nc) ∧ w.cell? ⟨b, o + 2, none⟩ = some (.slice co lc cc) ∧ w.cell? ⟨b, o + 3, none⟩ = some (.int .i64 K)) ∧
    RawsAt w po pl pc rs ∧ pc ≤ 9223372036854775807 ∧ RowAt w .u64 co lc cc x ∧ Wd 18446744073709551616 x ∧ -9223372036854775808 ≤ K ∧ K ≤ 9223372036854775807
/-- a list of such -/
def MovesAt (w : World) (lo : Option Addr) (n : Nat) : Prop := ∀ i, i < n → ∃ b off, lo = some ⟨b, off, none⟩ ∧ b < w.heap.size ∧ MoveAt w b (off + i * 4)
theorem MoveAt.later {w w' : World} {b o : Nat} (h : MoveAt w b o) (hb : Below w.heap.size w w') (hlt : b < w.heap.size) : MoveAt w' b o := by
  obtain ⟨po, co, pl, pc, lc, cc, nc, K, rs, x, ⟨h0, h1, h2, h3⟩, hp, hpc, hx, wx, hn⟩ := h
  exact ⟨po, co, pl, pc, lc, cc, nc, K, rs, x, ⟨(hb.cell (p := ⟨b, o, none⟩) hlt).trans h0, (hb.cell (p := ⟨b, o + 1, none⟩) hlt).trans h1, (hb.cell (p := ⟨b, o + 2, none⟩) hlt).trans h2, (hb.cell (p := ⟨b, o + 3, none⟩) hlt).trans h3⟩, hp.later hb, hpc, hx.later hb, wx, hn⟩
/-- a polynomial off what lies there -/
theorem poly_of_raws {w : World} {ao : Option Addr} {len cap L : Nat} {rs : List (Bool × List Int)} (h : RawsAt w ao len cap rs) (hm : pmayB len rs = true) (hL : ∀ r ∈ rs, r.2.length ≤ L) : ∃ p, PolyAt w ao len cap p ∧ Lim L p ∧ Lead p := by
  obtain ⟨_, hall, hlast⟩ := pmayB_true hm
  rcases Nat.eq_zero_or_pos len with h0 | h0
  · subst h0
    exact ⟨[], ⟨rfl, h.hcap, h.hnil, Or.inl rfl⟩, fun t => by simp [dig, lim_zero], fun h => by simp at h⟩
  · obtain ⟨b, off, h1, h2⟩ := h.get h0
    have hv : ∀ t, ∃ v, (ht : t < rs.length) → CoefAt w b (off + t * 2) v ∧ (rs[t]).2 = mag v.natAbs := by
      intro t
      by_cases ht : t < rs.length
      · obtain ⟨ao', l, c, hc, hr, hw⟩ := h2 t ht
        obtain ⟨v, hi, hz⟩ := int_of_may hr hw (hall _ (List.getElem_mem ht))
        exact ⟨v, fun _ => ⟨⟨_, ao', l, c, hc, hi⟩, hz⟩⟩
      · exact ⟨0, fun h => absurd h ht⟩
    have e : ∀ t, t < len → dig ((List.range len).map fun t => Classical.choose (hv t)) t = Classical.choose (hv t) := by
      intro t ht
      unfold dig
      rw [List.getD_eq_getElem?_getD, List.getElem?_map, List.getElem?_range ht]; rfl
    have hlen := h.hlen
    refine ⟨(List.range len).map fun t => Classical.choose (hv t), ⟨by simp, h.hcap, h.hnil, Or.inr ⟨b, off, h1, fun t ht => ?_⟩⟩, fun t => ?_, fun _ => ?_⟩
    · rw [e t ht]
      exact (Classical.choose_spec (hv t) (by omega)).1
    · by_cases ht : t < len
      · rw [e t ht]
        have := (Classical.choose_spec (hv t) (by omega)).2
        unfold lim; rw [← this]
        exact hL _ (List.getElem_mem _)
      · rw [dig_past (by simp; omega), lim_zero]; omega
    · have hk : ((List.range len).map fun t => Classical.choose (hv t)).length - 1 = len - 1 := by simp
      rw [hk, e (len - 1) (by omega)]
      have h3 := (Classical.choose_spec (hv (len - 1)) (by omega)).2
      have h4 := hlast h0
      rw [List.getD_eq_getElem?_getD, List.getElem?_eq_getElem (by omega), Option.getD_some, h3] at h4
      intro e0
      rw [e0] at h4
      exact h4 rfl
theorem may_num (v : Int) : mayB (sgB v) (mag v.natAbs) = true := by
  by_cases h : v = 0
  · subst h; rfl
  · have h1 : mag v.natAbs ≠ [] := fun e => lim_pos h (by unfold lim; rw [e]; rfl)
    rw [mayB_last h1]
    have hc := mag_can v.natAbs
    unfold Can at hc
    rw [List.getLast?_eq_getElem?, List.getElem?_eq_getElem (by have := List.length_pos_iff.2 h1; omega)] at hc
    unfold dig
    rw [List.getD_eq_getElem?_getD, List.getElem?_eq_getElem (by have := List.length_pos_iff.2 h1; omega), Option.getD_some]
    simpa using hc
theorem PolyAt.raws {w : World} {ao : Option Addr} {len cap : Nat} {p : List Int} (h : PolyAt w ao len cap p) : RawsAt w ao len cap (p.map fun v => (sgB v, mag v.natAbs)) := by
  refine ⟨by rw [List.length_map]; exact h.hlen, h.hcap, h.hnil, ?_⟩
  rcases h.hat with h0 | ⟨b, off, h1, h2⟩
  · exact Or.inl h0
  · refine Or.inr ⟨b, off, h1, fun t ht => ?_⟩
    rw [List.length_map] at ht
    obtain ⟨n, o, l, c, hc, hi⟩ := h2 t (by rw [h.hlen]; exact ht)
    have hd : dig p t = p[t] := by simp [dig, ht]
    rw [hd] at hi
    rw [List.getElem_map]
    exact ⟨o, l, c, by rw [← hi.sg]; exact hc, hi.row, mag_wd _⟩
theorem pmay_poly (ao : Option Addr) (len cap : Nat) (p : List Int) (w : World) (hp : PolyAt w ao len cap p) (hl : len ≤ 1025) (hL : Lead p) (hlim : Lim 4611686018427387904 p) :
    Calls Try.prog 5 #[.slice ao len cap] w fun e w' => e = .returned (.bool true) ∧ Below w.heap.size w w' := by
  refine pmay_any ao len cap _ w hp.raws (by omega) ?_ true ?_
  · intro r hr
    obtain ⟨v, hv, rfl⟩ := List.mem_map.1 hr
    obtain ⟨t, ht, rfl⟩ := List.getElem_of_mem hv
    have := hlim t
    rw [show dig p t = p[t] by simp [dig, ht]] at this
    exact this
  · unfold pmayB
    rw [decide_eq_true hl, Bool.true_and, Bool.and_eq_true]
    refine ⟨?_, ?_⟩
    · rw [List.all_eq_true]
      intro r hr
      obtain ⟨v, hv, rfl⟩ := List.mem_map.1 hr
      exact may_num v
    · rcases Nat.eq_zero_or_pos len with h0 | h0
      · rw [decide_eq_true h0]; rfl
      · rw [Bool.or_eq_true]; right
        have hlen := hp.hlen
        refine decide_eq_true ?_
        rw [List.getD_eq_getElem?_getD, List.getElem?_map, List.getElem?_eq_getElem (show len - 1 < p.length by omega), Option.map_some, Option.getD_some]
        have h1 := hL (by omega)
        rw [← hlen, show dig p (len - 1) = p[len - 1] by simp [dig, show len - 1 < p.length by omega]] at h1
        intro e
        exact lim_pos h1 (by unfold lim; exact congrArg List.length e)
/-- the product; of nothing nothing -/
def mulP (p s : List Int) : List Int := if p.length = 0 ∨ s.length = 0 then [] else mulL p s
theorem sh_nil (c : Int) : sh c [] = [] := rfl
theorem sh_mulP (c : Int) (p s : List Int) : mulP (sh c p) (sh c s) = sh c (mulP p s) := by
  unfold mulP
  rw [sh_len, sh_len]
  split
  · rfl
  · exact sh_mulL c p s (by omega)
theorem mulP_lead {p s : List Int} (hp : Lead p) (hs : Lead s) : Lead (mulP p s) := by
  unfold mulP
  split
  · intro h; simp at h
  · exact mul_lead hp hs (by omega) (by omega)
theorem mulP_len (p s : List Int) : (mulP p s).length ≤ p.length + s.length := by
  unfold mulP
  split
  · simp
  · rw [mulL_len _ _ (by omega)]; omega

set_option maxRecDepth 100000 in
set_option maxHeartbeats 1000000 in
theorem ptimes_nil (ao bo : Option Addr) (la ca lb cb : Nat) (w : World) (h : la = 0 ∨ lb = 0) :
    Calls Try.prog 14 #[.slice ao la ca, .slice bo lb cb] w fun e w' => e = .returned (.slice none 0 0) ∧ w' = w := by
  by_cases h0 : la = 0
  · subst h0
    go_enter Try.func14, Try.ntmps14
    go_wp2
    go_ret
    exact ⟨rfl, rfl⟩
  · obtain rfl : lb = 0 := by omega
    have q1 : ((la : Int) == 0) = false := by simp; omega
    clear h h0
    go_enter Try.func14, Try.ntmps14
    go_wp2
    go_ret
    exact ⟨rfl, rfl⟩
theorem ptimes_all (ao bo : Option Addr) (la ca lb cb A : Nat) (p s : List Int) (w : World) (hp : PolyAt w ao la ca p) (hs : PolyAt w bo lb cb s) (hla' : la ≤ 20) (hlb' : lb ≤ 20) (hA : A ≤ 100000) (hlp : Lim A p) (hls : Lim A s) (hLp : Lead p) (hLs : Lead s) :
    Calls Try.prog 14 #[.slice ao la ca, .slice bo lb cb] w fun e w' => ∃ o N, e = .returned (.slice o N N) ∧ PolyAt w' o N N (mulP p s) ∧ Lim (400 * (2 * A + 1)) (mulP p s) ∧ Below w.heap.size w w' := by
  by_cases h : la = 0 ∨ lb = 0
  · refine (ptimes_nil ao bo la ca lb cb w h).mono fun e w' ⟨he, hw⟩ => ?_
    subst hw
    have : mulP p s = [] := by unfold mulP; rw [if_pos (by rw [← hp.hlen, ← hs.hlen]; exact h)]
    rw [this]
    exact ⟨none, 0, he, PolyAt.nilPoly _, fun t => by simp [dig, lim_zero], Below.refl _ _⟩
  · have : mulP p s = mulL p s := by unfold mulP; rw [if_neg (by rw [← hp.hlen, ← hs.hlen]; exact h)]
    rw [this]
    refine (ptimes_any ao bo la ca lb cb A p s w hp hs (by omega) (by omega) hla' hlb' hA hlp hls hLp hLs).mono fun e w' ⟨g, N, hN, he, hP, hL, hb⟩ => ?_
    exact ⟨_, N, he, hP, hL, hb⟩
/-- what the statement's calls meet -/
structure TwiceF (p s : List Int) (cv dv : Int) : Prop where
  a : ShLim 1000000000 cv p
  al : Lim 7168 (sh cv p)
  b : ShLim 1000000000 dv (sh cv p)
  c : ShLim 1000000000 (cv + dv) p
  bc : sh dv (sh cv p) = sh (cv + dv) p
  bl : Lim 4611686018427387904 (sh (cv + dv) p)
  x : ShLim 1000000000 cv s
  xl : Lim 7168 (sh cv s)
  y : Lim 2800 (mulP p s) → ShLim 1000000000 cv (mulP p s)
  leads : Lead p ∧ Lead s ∧ Lead (sh cv p) ∧ Lead (sh cv s) ∧ Lead (mulP p s) ∧ Lead (mir p.length p)
  lims : Lim 3 p ∧ Lim 3 s ∧ Lim 1000000000 p ∧ Lim 1000000000 (mir p.length p)
theorem twiceF {p s : List Int} {cv dv : Int} (h1 : Lim 3 p) (h2 : Lead p) (h3 : Lim 3 s) (h4 : Lead s) (h5 : lim cv ≤ 3) (h6 : lim dv ≤ 1) (h7 : p.length ≤ 10) (h8 : s.length ≤ 10) (h9 : p.length + s.length ≤ 11) : TwiceF p s cv dv := by
  have a0 := ShLim.of (K := 7168) h1 h5 h7 (by decide)
  have x0 := ShLim.of (K := 7168) h3 h5 h8 (by decide)
  have c0 : ShLim 1000000000 (cv + dv) p := ShLim.of (C := 5) h1 (by have := lim_add cv dv; omega) h7 (by decide)
  refine ⟨ShLim.of h1 h5 h7 (by decide), a0.res, ShLim.of (N := 10) a0.res h6 (by rw [sh_len]; exact h7) (by decide), c0, sh_sh cv dv p, c0.res.mono (by decide), ShLim.of h3 h5 h8 (by decide), x0.res, fun h => ShLim.of (N := 11) h h5 (by have := mulP_len p s; omega) (by decide), ⟨h2, h4, sh_lead h2, sh_lead h4, mulP_lead h2 h4, mir_lead h2⟩, h1, h3, h1.mono (by decide), mir_lim (h1.mono (by decide))⟩
end Go.Proofs.Ytnodcfeimiimbaa
