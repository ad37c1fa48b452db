/-
  A pack of walks and facts: SA, TC, TH0, TF, TJ0, OE, RU, RV.
-/
import Derived.Test.YthjkdnlbdhhmbaaGreatDoorPV25
import Derived.Deep.DeepCutAuto
import Derived.ArgAppend
set_option maxRecDepth 100000
set_option maxHeartbeats 40000000
set_option linter.unusedVariables false
set_option linter.unusedSimpArgs false
namespace Go.Proofs.YthjkdnlbdhhmbaaGreatDoor
open Go.RowKit
theorem rclone_any (neg : Bool) (ao : Option Addr) (len cap : Nat) (v : Int) (w : World) (hx : IntAt w neg ao len cap v) (hl : len ≤ 1073741824) :
  Calls Tryz.prog 105 #[.agg #[.bool neg, .slice ao len cap]] w fun e w' => NewInt w w' e v := by
 obtain ⟨W, hT⟩ := One2.mk' w neg ao len cap
 have hsz := hT.size
 have HX : Hid (IntAt W neg ao len cap v) := hx.later hT.below
 have KW : Hid (∀ w' : World, Below W.heap.size W w' → w'.cell? ⟨w.heap.size, 0, none⟩ = some (.bool neg) ∧ w'.cell? ⟨w.heap.size, 1, none⟩ = some (.slice ao len cap)) := fun w' h => ⟨(h.cell (p := ⟨w.heap.size, 0, none⟩) (by show w.heap.size < _; omega)).trans hT.a.1, (h.cell (p := ⟨w.heap.size, 1, none⟩) (by show w.heap.size < _; omega)).trans hT.a.2⟩
 have KS : Hid (∀ X : World, Below W.heap.size W X → ∀ x y, (fun w' : World => w'.cell? ⟨w.heap.size, 0, none⟩ = some (.bool neg) ∧ w'.cell? ⟨w.heap.size, 1, none⟩ = some (.slice ao len cap)) ((X.setCell ⟨w.heap.size + 1, 0, none⟩ x).setCell ⟨w.heap.size + 1, 1, none⟩ y)) := fun X h x y => by
  obtain ⟨h1, h2⟩ := KW.out X h
  (try dsimp only)
  rw [cell_off (by omega), cell_off (by omega), cell_off (by omega), cell_off (by omega)]
  exact ⟨h1, h2⟩
 have HF : Hid (Fresh W (w.heap.size + 1) ∧ Below w.heap.size w W) := ⟨hT.r, hT.below⟩
 clear hx
 go_enter Tryz.func105, Tryz.ntmps105
 go_upto_region 1 with fail
 rw [← hT.eq]
 clear hT
 have hzU : W.heap.size ≤ W.drew.heap.size := Nat.le_refl _
 have S0 : Step8 0 := ⟨trivial⟩
 go_region_held3 (fun w' => (w'.cell? ⟨w.heap.size, 0, none⟩ = some (.bool neg) ∧ w'.cell? ⟨w.heap.size, 1, none⟩ = some (.slice ao len cap)))
  (with_reducible (first | exact KS.out _ hbF1 _ _ | exact KW.out _ (Below.refl _ _).drew | exact KW.out _ (by assumption) | (refine KW.out _ ?_; (repeat (first | refine below_alloc ?_ (Nat.le_refl _) | refine Below.drew ?_ | refine below_set ?_ (by omega))); (first | exact hbF1 | exact Below.refl _ _))))
  (first
   | (have _t := S0; go_at_call 107; refine with_held (S := fun w9 => Below W.heap.size W w9) (by show Below _ _ _; with_reducible ((repeat (first | refine below_alloc ?_ (Nat.le_refl _) | refine Below.drew ?_ | refine below_set ?_ (by omega))); (first | exact hbF1 | exact Below.refl _ _))) (fun hS => ?_); refine (cloneNat_any ao len cap v.natAbs _ (HX.out.row.later hS) hl).mono ?_; rintro e f1 ⟨o1, l1, c1, rfl, ho, hb⟩; have H1 : Hid (Own W.heap.size f1 .u64 60 o1 l1 c1 (mag v.natAbs) ∧ Below W.heap.size W f1) := ⟨ho.mono hS.size, bnext hS hb⟩; clear ho; obtain ⟨k5, k2, k3⟩ := HF.out.1.later (bnext hS hb) (by omega); have hbF1 : Below W.heap.size W f1 := bnext hS hb; have hzF1 := hbF1.size; clear hS hb S0; skip))
 all_goals go_wp2
 exact bodyPost_ret (v := .agg #[.bool neg, .slice o1 l1 c1]) (by simp [results, Tryz.results105, go_sem, k2, k3]) rfl
  ⟨_, _, _, _, rfl, HX.out.sg, (H1.out.1.store (by omega) _ _).mono (by omega), below_store (bnext HF.out.2 H1.out.2) (by omega) _ _⟩
theorem qint_any (n : Int) (w : World) (h1 : -9223372036854775808 ≤ n) (h2 : n ≤ 9223372036854775807) :
  Calls Tryz.prog 34 #[.int .i64 n] w fun e w' => SomeR w w' e (n : Rat) := by
 obtain ⟨W, hT⟩ := R1.mk' w
 have hsz := hT.size
 go_enter Tryz.func34, Tryz.ntmps34
 go_wp2_with (first
  | (go_at_call 42; rw [← hT.eq]; refine (rfrom_any n _ h1 h2).mono ?_; rintro e w1 ⟨n1, o1, l1, c1, rfl, hs, ho, hb1⟩; have H1 : Hid (IntAt w1 n1 o1 l1 c1 n) := ho.int hs; clear hs ho)
  | (go_at_call 37; refine (qfrom_any n1 o1 l1 c1 _ _ H1.out.row).mono ?_; rintro e w2 ⟨p2, m2, k2, rfl, hr, ho, hb2⟩; have H2 : Hid (RatAt w2 n1 o1 l1 c1 p2 m2 k2 (n : Rat) ∧ Below W.heap.size W w2) := ⟨⟨⟨H1.out.sg, hr⟩, ho.row⟩, bnext hb1 hb2⟩; clear hr ho; obtain ⟨g5, g2, g3, g4⟩ := hT.r.later H2.out.2 (by omega)))
 exact bodyPost_ret (v := .agg #[.bool n1, .slice o1 l1 c1, .slice p2 m2 k2]) (by simp [results, Tryz.results34, go_sem, g2, g3, g4]) rfl
  ⟨_, _, _, _, _, _, _, rfl, rat_kept H2.out.1 ⟨g2, g3, g4⟩, below_store3 (bnext hT.below H2.out.2) (by omega) _ _ _⟩
theorem Sz.max {a b : Rat} {k : Nat} (ha : Sz a k) (hb : Sz b k) : Sz (maxQ a b) k := by unfold maxQ; split <;> assumption
theorem Sz.min {a b : Rat} {k : Nat} (ha : Sz a k) (hb : Sz b k) : Sz (minQ a b) k := by unfold minQ; split <;> assumption
theorem cmpQ_le {a b : Rat} : cmpQ a b ≤ 0 ↔ a ≤ b := by
 show cmpI _ _ ≤ 0 ↔ _
 rw [Rat.le_iff]
 unfold cmpI
 split
 ·
  constructor
  ·
   intro _; omega
  ·
   intro _; omega
 ·
  split
  ·
   constructor
   ·
    intro h; omega
   ·
    intro h; omega
  ·
   constructor
   ·
    intro _; omega
   ·
    intro _; omega
theorem cmpQ_pos {a b : Rat} : 0 < cmpQ a b ↔ ¬ a ≤ b := by rw [← cmpQ_le]; omega
theorem maxQ_le {a b v : Rat} : maxQ a b ≤ v ↔ a ≤ v ∧ b ≤ v := by
 unfold maxQ
 split
 ·
  rename_i h
  have h2 : a ≤ b := (Rat.le_total (a := a) (b := b)).resolve_right (cmpQ_pos.1 h)
  exact ⟨fun h3 => ⟨Rat.le_trans h2 h3, h3⟩, fun h3 => h3.2⟩
 ·
  rename_i h
  have h2 : b ≤ a := cmpQ_le.1 (by omega)
  exact ⟨fun h3 => ⟨h3, Rat.le_trans h2 h3⟩, fun h3 => h3.1⟩
theorem le_minQ {a b v : Rat} : v ≤ minQ a b ↔ v ≤ a ∧ v ≤ b := by
 unfold minQ
 split
 ·
  rename_i h
  have h2 : b ≤ a := cmpQ_le.1 (by omega)
  exact ⟨fun h3 => ⟨Rat.le_trans h3 h2, h3⟩, fun h3 => h3.2⟩
 ·
  rename_i h
  have h2 : a ≤ b := by
   have h4 : ¬ cmpQ b a < 0 := h
   rw [cmpQ_neg a b] at h4
   exact cmpQ_le.1 (by omega)
  exact ⟨fun h3 => ⟨h3, Rat.le_trans h3 h2⟩, fun h3 => h3.1⟩
def loK (x : Nat → Rat) : Nat → Rat
 | 0 => x 0
 | k + 1 => minQ (loK x k) (x k)
def hiK (x : Nat → Rat) : Nat → Rat
 | 0 => x 0
 | k + 1 => maxQ (hiK x k) (x k)
def prods (a b a' b' : Rat) : Nat → Rat
 | 0 => a * a'
 | 1 => a * b'
 | 2 => b * a'
 | _ => b * b'
theorem loK_le {x : Nat → Rat} : ∀ (k i : Nat), i < k → loK x k ≤ x i
 | k + 1, i, h => by
  have h1 : loK x (k + 1) ≤ loK x k ∧ loK x (k + 1) ≤ x k := le_minQ.1 Rat.le_refl
  by_cases e : i = k
  ·
   rw [e]; exact h1.2
  ·
   exact Rat.le_trans h1.1 (loK_le k i (by omega))
theorem le_hiK {x : Nat → Rat} : ∀ (k i : Nat), i < k → x i ≤ hiK x k
 | k + 1, i, h => by
  have h1 : hiK x k ≤ hiK x (k + 1) ∧ x k ≤ hiK x (k + 1) := maxQ_le.1 Rat.le_refl
  by_cases e : i = k
  ·
   rw [e]; exact h1.2
  ·
   exact Rat.le_trans (le_hiK k i (by omega)) h1.1
theorem le_loK {x : Nat → Rat} {c : Rat} (h : ∀ i, i < 4 → c ≤ x i) : ∀ k, k ≤ 4 → c ≤ loK x k
 | 0, _ => h 0 (by decide)
 | k + 1, hk => le_minQ.2 ⟨le_loK h k (by omega), h k (by omega)⟩
theorem hiK_le {x : Nat → Rat} {c : Rat} (h : ∀ i, i < 4 → x i ≤ c) : ∀ k, k ≤ 4 → hiK x k ≤ c
 | 0, _ => h 0 (by decide)
 | k + 1, hk => maxQ_le.2 ⟨hiK_le h k (by omega), h k (by omega)⟩
def exts (a b lo hi : Int) : Nat → Int := fun k => dig [a * lo, a * hi, b * lo, b * hi] k
def spanI : List Int → Int → Int → Int → Int × Int
 | [], _, _, _ => (0, 0)
 | c :: l, lo, hi, d => (loI (exts (spanI l lo hi d).1 (spanI l lo hi d).2 lo hi) 4 + c * d ^ l.length, hiI (exts (spanI l lo hi d).1 (spanI l lo hi d).2 lo hi) 4 + c * d ^ l.length)
theorem spanI_drop (p : List Int) (lo hi d : Int) (j : Nat) (h : j < p.length) : spanI (p.drop j) lo hi d = (loI (exts (spanI (p.drop (j + 1)) lo hi d).1 (spanI (p.drop (j + 1)) lo hi d).2 lo hi) 4 + dig p j * d ^ (p.length - (j + 1)), hiI (exts (spanI (p.drop (j + 1)) lo hi d).1 (spanI (p.drop (j + 1)) lo hi d).2 lo hi) 4 + dig p j * d ^ (p.length - (j + 1))) := by
 rw [List.drop_eq_getElem_cons h]
 show (_ + p[j] * d ^ (p.drop (j + 1)).length, _ + p[j] * d ^ (p.drop (j + 1)).length) = _
 rw [List.length_drop]
 have e : dig p j = p[j] := by unfold dig; rw [List.getD_eq_getElem?_getD, List.getElem?_eq_getElem h]; rfl
 rw [e]
theorem loI_le {x : Nat → Int} : ∀ (k i : Nat), i < k → loI x k ≤ x i
 | k + 1, i, h => by
  show (if x k < loI x k then x k else loI x k) ≤ x i
  by_cases e : i = k
  ·
   subst e; split <;> omega
  ·
   have := loI_le (x := x) k i (by omega)
   split <;> omega
theorem le_hiI {x : Nat → Int} : ∀ (k i : Nat), i < k → x i ≤ hiI x k
 | k + 1, i, h => by
  show x i ≤ (if hiI x k < x k then x k else hiI x k)
  by_cases e : i = k
  ·
   subst e; split <;> omega
  ·
   have := le_hiI (x := x) k i (by omega)
   split <;> omega
theorem loI_mem {x : Nat → Int} : ∀ k, k ≤ 4 → ∃ i, i < 4 ∧ loI x k = x i
 | 0, _ => ⟨0, by decide, rfl⟩
 | k + 1, h => by
  show ∃ i, i < 4 ∧ (if x k < loI x k then x k else loI x k) = x i
  split
  ·
   exact ⟨k, by omega, rfl⟩
  ·
   exact loI_mem k (by omega)
theorem hiI_mem {x : Nat → Int} : ∀ k, k ≤ 4 → ∃ i, i < 4 ∧ hiI x k = x i
 | 0, _ => ⟨0, by decide, rfl⟩
 | k + 1, h => by
  show ∃ i, i < 4 ∧ (if hiI x k < x k then x k else hiI x k) = x i
  split
  ·
   exact ⟨k, by omega, rfl⟩
  ·
   exact hiI_mem k (by omega)
theorem exts_lim {a b lo hi : Int} {K : Nat} (ha : lim a ≤ K) (hb : lim b ≤ K) (hlo : lim lo ≤ 4) (hhi : lim hi ≤ 4) : ∀ i, i < 4 → lim (exts a b lo hi i) ≤ K + 4 := fun i hi' => by
 have h1 := lim_mul a lo
 have h2 := lim_mul a hi
 have h3 := lim_mul b lo
 have h4 := lim_mul b hi
 match i, hi' with
 | 0, _ => show lim (a * lo) ≤ _; omega
 | 1, _ => show lim (a * hi) ≤ _; omega
 | 2, _ => show lim (b * lo) ≤ _; omega
 | 3, _ => show lim (b * hi) ≤ _; omega
theorem lim_pow4 (d : Int) (m : Nat) (h : lim d ≤ 4) : lim (d ^ m) ≤ 4 * m + 1 := by
 induction m with
 | zero => rw [Int.pow_zero]; decide
 | succ m ih => rw [Int.pow_succ]; have := lim_mul (d ^ m) d; omega
theorem spanI_lim (A N : Nat) (lo hi d : Int) (hlo : lim lo ≤ 4) (hhi : lim hi ≤ 4) (hd : lim d ≤ 4) : ∀ l : List Int, Lim A l → l.length ≤ N → lim (spanI l lo hi d).1 ≤ l.length * (A + 4 * N + 9) ∧ lim (spanI l lo hi d).2 ≤ l.length * (A + 4 * N + 9) := by
 intro l
 induction l with
 | nil => intro _ _; exact ⟨by show lim 0 ≤ _; rw [lim_zero]; omega, by show lim 0 ≤ _; rw [lim_zero]; omega⟩
 | cons c l ih =>
  intro hA hN
  have h1 := ih (fun t => by have := hA (t + 1); rw [dig_cons] at this; exact this) (by simp at hN; omega)
  have h2 : lim c ≤ A := by have := hA 0; simpa [dig] using this
  have h4 := lim_mul c (d ^ l.length)
  have h5 := lim_pow4 d l.length hd
  have he := exts_lim h1.1 h1.2 hlo hhi
  obtain ⟨i, hi1, e1⟩ := loI_mem (x := exts (spanI l lo hi d).1 (spanI l lo hi d).2 lo hi) 4 (by omega)
  obtain ⟨j, hj1, e2⟩ := hiI_mem (x := exts (spanI l lo hi d).1 (spanI l lo hi d).2 lo hi) 4 (by omega)
  have h6 := lim_add (loI (exts (spanI l lo hi d).1 (spanI l lo hi d).2 lo hi) 4) (c * d ^ l.length)
  have h7 := lim_add (hiI (exts (spanI l lo hi d).1 (spanI l lo hi d).2 lo hi) 4) (c * d ^ l.length)
  have h8 := he i hi1
  have h9 := he j hj1
  rw [← e1] at h8
  rw [← e2] at h9
  rw [List.length_cons] at hN ⊢
  rw [Nat.succ_mul]
  exact ⟨by show lim (loI _ 4 + c * d ^ l.length) ≤ _; omega, by show lim (hiI _ 4 + c * d ^ l.length) ≤ _; omega⟩
theorem cast_leQ {a b : Int} : (a : Rat) ≤ (b : Rat) ↔ a ≤ b := by exact_mod_cast Iff.rfl
theorem qden_any (na : Bool) (ao po : Option Addr) (la ca lp cp : Nat) (w : World) (hl : lp ≤ 1073741824) :
  Calls Tryz.prog 50 #[.agg #[.bool na, .slice ao la ca, .slice po lp cp]] w fun e w' => e = .returned (.agg #[.bool false, .slice po lp cp]) ∧ Below w.heap.size w w' := by
 obtain ⟨W, hW, hb, hsz, p0, p1, p2, g5, g3, g4⟩ : ∃ W, W = (w.alloc (.cells #[.bool na, .slice ao la ca, .slice po lp cp] 30)).alloc (.cells #[.bool false, .slice none 0 0] 28) ∧ Below w.heap.size w W ∧ W.heap.size = w.heap.size + 2 ∧ W.cell? ⟨w.heap.size, 0, none⟩ = some (.bool na) ∧ W.cell? ⟨w.heap.size, 1, none⟩ = some (.slice ao la ca) ∧ W.cell? ⟨w.heap.size, 2, none⟩ = some (.slice po lp cp) ∧ Fresh W (w.heap.size + 1) :=
  ⟨_, rfl, ((Below.refl _ _).alloc (Nat.le_refl _) _).alloc (by simp) _, by simp, by simp [go_sem], by simp [go_sem], by simp [go_sem], ⟨fun j => by simp [go_sem], by simp [go_sem], by simp [go_sem]⟩⟩
 have HF : Hid (Fresh W (w.heap.size + 1)) := ⟨g5, g3, g4⟩
 have hcon : Calls Tryz.prog 65 #[.bool false, .slice po lp cp] W fun e w' => e = .returned (.agg #[.bool false, .slice po lp cp]) ∧ Below W.heap.size W w' := made_any false po lp cp W (by omega)
 clear p0 p1 p2 g5 g3 g4
 go_enter Tryz.func50, Tryz.ntmps50
 go_wp2_with (go_at_call 65; rw [← hW]; refine hcon.mono ?_; rintro e w1 ⟨rfl, hb1⟩; obtain ⟨g5, g3, g4⟩ := HF.out.later hb1 (by omega))
 exact bodyPost_ret (v := .agg #[.bool false, .slice po lp cp]) (by simp [results, Tryz.results50, go_sem, g3, g4]) rfl
  ⟨rfl, below_store (bnext hb hb1) (by omega) _ _⟩
theorem made_sign {v : Int} {g l : Nat} {na : Bool} (hg : 0 < g) (hd : (g : Int) ∣ v) (hs : na = sgB v) (hl : l = (mag (v / (g : Int)).natAbs).length) : (na && decide (0 < l)) = sgB (v / (g : Int)) := by
 obtain ⟨k, rfl⟩ := hd
 have e : (g : Int) * k / (g : Int) = k := Int.mul_ediv_cancel_left _ (by omega)
 rw [e] at hl ⊢
 subst hs
 unfold sgB
 rcases Int.lt_trichotomy k 0 with h | h | h
 ·
  have h1 : (g : Int) * k < 0 := Int.mul_neg_of_pos_of_neg (by omega) h
  have h2 : 0 < l := by rw [hl]; exact mag_len_pos.2 (by omega)
  rw [decide_eq_true h1, decide_eq_true h2, decide_eq_true h]; rfl
 ·
  subst h; simp
 ·
  have h1 : ¬ (g : Int) * k < 0 := by have := Int.mul_pos (show (0 : Int) < g by omega) h; omega
  rw [decide_eq_false h1, decide_eq_false (show ¬ k < 0 by omega)]; rfl
theorem qmake_any (na : Bool) (ao do' : Option Addr) (la ca ld cd : Nat) (v : Int) (d : Nat) (w : World) (hx : IntAt w na ao la ca v) (hy : RowAt w .u64 do' ld cd (mag d)) (h0 : d ≠ 0) (hl : la ≤ 16777216) (hl' : ld ≤ 16777216) (r : Rat) (hr : r = Rat.normalize v d h0) :
  Calls Tryz.prog 61 #[.agg #[.bool na, .slice ao la ca], .slice do' ld cd] w fun e w' => SomeR w w' e r := by
 obtain ⟨W, hT⟩ := IR2.mk' w na ao la ca
 have hsz := hT.size
 obtain ⟨g, hg⟩ : ∃ g, Nat.gcd v.natAbs d = g := ⟨_, rfl⟩
 have hg0 : 0 < g := by rw [← hg]; exact Nat.gcd_pos_of_pos_right _ (by omega)
 have HD : Hid ((g : Int) ∣ v) := hg ▸ gcd_dvd_abs v d
 have HE : Hid (r.num = v / (g : Int) ∧ r.den = d / g ∧ (v / (g : Int)).natAbs = v.natAbs / g) := by
  have h1 := rmake_parts (n := v) h0
  rw [hg, ← hr] at h1
  exact ⟨h1.1, h1.2, idiv_abs HD.out⟩
 have HX : Hid (IntAt W na ao la ca v ∧ RowAt W .u64 do' ld cd (mag d)) := ⟨hx.later hT.below, hy.later hT.below⟩
 have hgcd : Calls Tryz.prog 25 #[.slice ao la ca, .slice do' ld cd] W fun e w' => ∃ go lg cg, e = .returned (.slice go lg cg) ∧ RowAt w' .u64 go lg cg (mag g) ∧ lg ≤ 16777216 ∧ Below W.heap.size W w' := hg ▸ ngcd_any ao do' la ca ld cd v.natAbs d W HX.out.1.row HX.out.2 hl hl'
 clear hx hy hr hg
 go_enter Tryz.func61, Tryz.ntmps61
 go_wp2_with (first
  | (go_at_call 25; rw [← hT.eq]; refine hgcd.mono ?_; rintro e w1 ⟨go, lg, cg, rfl, hg1, hlg, hb1⟩; obtain ⟨p0, p1⟩ := hT.a.later hb1 (by omega); have H1 : Hid (RowAt w1 .u64 go lg cg (mag g)) := hg1; clear hg1)
  | (go_at_call 47; have _t := H2; refine (ndivide_any do' go ld cd lg cg d g _ (HX.out.2.later hb2) (H2.out.1) hl' hlg hg0).mono ?_; rintro e w3 ⟨ko, lk, ck, ro, lr, cr, rfl, hk3, _, hb3'⟩; have hb3 := bnext hb2 hb3'; have H3 : Hid (RowAt w3 .u64 mo lm cm (mag (v / (g : Int)).natAbs) ∧ RowAt w3 .u64 ko lk ck (mag r.den)) := ⟨H2.out.2.later hb3', (by rw [HE.out.2.1]; exact hk3)⟩; clear hk3 hb3' p0 p1; obtain ⟨p0, p1⟩ := hT.a.later hb3 (by omega))
  | (go_at_call 47; refine (ndivide_any ao go la ca lg cg v.natAbs g _ (HX.out.1.row.later hb1) H1.out hl hlg hg0).mono ?_; rintro e w2 ⟨mo, lm, cm, ro2, lr2, cr2, rfl, hm2, _, hb2'⟩; have hb2 := bnext hb1 hb2'; have H2 : Hid (RowAt w2 .u64 go lg cg (mag g) ∧ RowAt w2 .u64 mo lm cm (mag (v / (g : Int)).natAbs)) := ⟨H1.out.later hb2', (by rw [HE.out.2.2]; exact hm2)⟩; have hlm : lm ≤ 16777216 := (by rw [hm2.hlen]; have q1 := div_len v.natAbs g; have q2 := HX.out.1.row.hlen; omega); clear hm2 hb2' p0 p1; obtain ⟨p0, p1⟩ := hT.a.later hb2 (by omega))
  | (go_at_call 65; refine (made_any na mo lm cm _ (by omega)).mono ?_; rintro e w4 ⟨rfl, hb4'⟩; have H4 : Hid (RowAt w4 .u64 mo lm cm (mag (v / (g : Int)).natAbs) ∧ RowAt w4 .u64 ko lk ck (mag r.den) ∧ Below W.heap.size W w4 ∧ (na && decide (0 < lm)) = sgB (v / (g : Int))) := ⟨H3.out.1.later hb4', H3.out.2.later hb4', bnext hb3 hb4', made_sign hg0 HD.out HX.out.1.sg H3.out.1.hlen⟩; clear hb4' p0 p1; obtain ⟨k5, k2, k3, k4⟩ := hT.r.later H4.out.2.2.1 (by omega); obtain ⟨sg, hsg⟩ : ∃ sg, (na && decide (0 < lm)) = sg := ⟨_, rfl⟩; have HSG : Hid (sg = sgB (v / (g : Int))) := hsg.symm.trans H4.out.2.2.2; rw [hsg]; clear hsg))
 exact bodyPost_ret (v := .agg #[.bool sg, .slice mo lm cm, .slice ko lk ck]) (by simp [results, Tryz.results61, go_sem, k2, k3, k4]) rfl
  ⟨_, _, _, _, _, _, _, rfl, rat_kept ⟨⟨by rw [HE.out.1]; exact HSG.out, by rw [HE.out.1]; exact H4.out.1⟩, H4.out.2.1⟩ ⟨k2, k3, k4⟩, below_store3 (bnext hT.below H4.out.2.2.1) (by omega) _ _ _⟩
theorem qtimes_any (na nb : Bool) (ao po bo qo : Option Addr) (la ca lp cp lb cb lq cq : Nat) (a b : Rat) (w : World) (hx : RatAt w na ao la ca po lp cp a) (hy : RatAt w nb bo lb cb qo lq cq b) (ha : Sz a 1000) (hb : Sz b 1000) :
  Calls Tryz.prog 36 #[.agg #[.bool na, .slice ao la ca, .slice po lp cp], .agg #[.bool nb, .slice bo lb cb, .slice qo lq cq]] w fun e w' => SomeR w w' e (a * b) := by
 obtain ⟨W, hT⟩ := RTwo3.mk' w na nb ao po bo qo la ca lp cp lb cb lq cq
 have hsz := hT.size
 have HX : Hid (RatAt W na ao la ca po lp cp a ∧ RatAt W nb bo lb cb qo lq cq b) := ⟨hx.later hT.below, hy.later hT.below⟩
 have hla : la ≤ 1000 := (hx.len ha).1
 have hlp : lp ≤ 1000 := (hx.len ha).2
 have hlb : lb ≤ 1000 := (hy.len hb).1
 have hlq : lq ≤ 1000 := (hy.len hb).2
 have HS : Hid (Sz a 1000 ∧ Sz b 1000) := ⟨ha, hb⟩
 have KW : Hid (∀ w' : World, Below W.heap.size W w' → w'.cell? ⟨w.heap.size, 0, none⟩ = some (.bool na) ∧ w'.cell? ⟨w.heap.size, 1, none⟩ = some (.slice ao la ca) ∧ w'.cell? ⟨w.heap.size, 2, none⟩ = some (.slice po lp cp) ∧ w'.cell? ⟨w.heap.size + 1, 0, none⟩ = some (.bool nb) ∧ w'.cell? ⟨w.heap.size + 1, 1, none⟩ = some (.slice bo lb cb) ∧ w'.cell? ⟨w.heap.size + 1, 2, none⟩ = some (.slice qo lq cq)) := fun w' h => ⟨(h.cell (p := ⟨w.heap.size, 0, none⟩) (by show w.heap.size < _; omega)).trans hT.a.1, (h.cell (p := ⟨w.heap.size, 1, none⟩) (by show w.heap.size < _; omega)).trans hT.a.2.1, (h.cell (p := ⟨w.heap.size, 2, none⟩) (by show w.heap.size < _; omega)).trans hT.a.2.2, (h.cell (p := ⟨w.heap.size + 1, 0, none⟩) (by show w.heap.size + 1 < _; omega)).trans hT.b.1, (h.cell (p := ⟨w.heap.size + 1, 1, none⟩) (by show w.heap.size + 1 < _; omega)).trans hT.b.2.1, (h.cell (p := ⟨w.heap.size + 1, 2, none⟩) (by show w.heap.size + 1 < _; omega)).trans hT.b.2.2⟩
 have KS : Hid (∀ X : World, Below W.heap.size W X → ∀ x y z, (fun w' : World => w'.cell? ⟨w.heap.size, 0, none⟩ = some (.bool na) ∧ w'.cell? ⟨w.heap.size, 1, none⟩ = some (.slice ao la ca) ∧ w'.cell? ⟨w.heap.size, 2, none⟩ = some (.slice po lp cp) ∧ w'.cell? ⟨w.heap.size + 1, 0, none⟩ = some (.bool nb) ∧ w'.cell? ⟨w.heap.size + 1, 1, none⟩ = some (.slice bo lb cb) ∧ w'.cell? ⟨w.heap.size + 1, 2, none⟩ = some (.slice qo lq cq)) (((X.setCell ⟨w.heap.size + 1 + 1, 0, none⟩ x).setCell ⟨w.heap.size + 1 + 1, 1, none⟩ y).setCell ⟨w.heap.size + 1 + 1, 2, none⟩ z)) := fun X h x y z => by
  obtain ⟨h0, h1, h2, h3, h4, h5⟩ := KW.out X h
  (try dsimp only)
  rw [cell_off (by omega), cell_off (by omega), cell_off (by omega), cell_off (by omega), cell_off (by omega), cell_off (by omega), cell_off (by omega), cell_off (by omega), cell_off (by omega), cell_off (by omega), cell_off (by omega), cell_off (by omega), cell_off (by omega), cell_off (by omega), cell_off (by omega), cell_off (by omega), cell_off (by omega), cell_off (by omega)]
  exact ⟨h0, h1, h2, h3, h4, h5⟩
 have HF : Hid (Fresh3 W (w.heap.size + 1 + 1) ∧ Below w.heap.size w W) := ⟨hT.r, hT.below⟩
 have HL : Hid ((mag (a.num * (b.den : Int)).natAbs).length ≤ 3000 ∧ (mag (b.num * (a.den : Int)).natAbs).length ≤ 3000 ∧ (mag (a.num * (b.den : Int) + b.num * (a.den : Int)).natAbs).length ≤ 7000 ∧ (mag (a.den * b.den)).length ≤ 3000 ∧ (mag (a.num * b.num).natAbs).length ≤ 3000) := by
  have h1 := add_len (a.num * (b.den : Int)) (b.num * (a.den : Int))
  have h2 := mul_len a.num (b.den : Int)
  have h3 := mul_len b.num (a.den : Int)
  have h4 := mag_len_mul a.den b.den
  have h5 := mul_len a.num b.num
  rw [Int.natAbs_natCast] at h2 h3
  have := ha.1; have := ha.2; have := hb.1; have := hb.2
  refine ⟨?_, ?_, ?_, ?_, ?_⟩ <;> omega
 have h0 : a.den * b.den ≠ 0 := Nat.mul_ne_zero a.den_nz b.den_nz
 clear hx hy ha hb
 go_enter Tryz.func36, Tryz.ntmps36
 go_upto_region 1 with fail
 rw [← hT.eq]
 clear hT
 have hzU : W.heap.size ≤ W.drew.heap.size := Nat.le_refl _
 have S0 : Step8 0 := ⟨trivial⟩
 go_region_held3 (fun w' => (w'.cell? ⟨w.heap.size, 0, none⟩ = some (.bool na) ∧ w'.cell? ⟨w.heap.size, 1, none⟩ = some (.slice ao la ca) ∧ w'.cell? ⟨w.heap.size, 2, none⟩ = some (.slice po lp cp) ∧ w'.cell? ⟨w.heap.size + 1, 0, none⟩ = some (.bool nb) ∧ w'.cell? ⟨w.heap.size + 1, 1, none⟩ = some (.slice bo lb cb) ∧ w'.cell? ⟨w.heap.size + 1, 2, none⟩ = some (.slice qo lq cq)))
  (with_reducible (first | exact KS.out _ hbF3 _ _ _ | exact KW.out _ (Below.refl _ _).drew | exact KW.out _ (by assumption) | (refine KW.out _ ?_; (repeat (first | refine below_alloc ?_ (Nat.le_refl _) | refine Below.drew ?_ | refine below_set ?_ (by omega))); (first | exact hbF3 | exact hbF2 | exact hbF1 | exact Below.refl _ _))))
  (first
   | (have _t := S0; go_at_call 49; refine with_held (S := fun w9 => Below W.heap.size W w9) (by show Below _ _ _; with_reducible ((repeat (first | refine below_alloc ?_ (Nat.le_refl _) | refine Below.drew ?_ | refine below_set ?_ (by omega))); (first | exact hbF3 | exact hbF2 | exact hbF1 | exact Below.refl _ _))) (fun hS => ?_); refine (rtimes_any na nb ao bo la ca lb cb a.num b.num _ (HX.out.1.num.later hS) (HX.out.2.num.later hS) (by omega) (by omega)).mono ?_; rintro e f1 ⟨n1, o1, l1, c1, rfl, hs, ho, hb⟩; have H1 : Hid (IntAt f1 n1 o1 l1 c1 (a.num * b.num)) := ho.int hs; have hl1 : l1 ≤ 3000 := (by rw [ho.row.hlen]; exact HL.out.2.2.2.2); clear hs ho; have hbF1 : Below W.heap.size W f1 := bnext hS hb; have hzF1 := hbF1.size; clear hS hb S0; have S1 : Step8 1 := ⟨trivial⟩)
   | (have _t := S1; go_at_call 63; refine with_held (S := fun w9 => Below W.heap.size W w9) (by show Below _ _ _; with_reducible ((repeat (first | refine below_alloc ?_ (Nat.le_refl _) | refine Below.drew ?_ | refine below_set ?_ (by omega))); (first | exact hbF3 | exact hbF2 | exact hbF1 | exact Below.refl _ _))) (fun hS => ?_); refine with_held (S := fun w9 => Below f1.heap.size f1 w9) (by show Below _ _ _; with_reducible ((repeat (refine below_alloc ?_ (Nat.le_refl _))); exact Below.refl _ _)) (fun hS2 => ?_); refine (ntimes_any po qo lp cp lq cq a.den b.den _ (HX.out.1.den.later hS) (HX.out.2.den.later hS) (by omega) (by omega)).mono ?_; rintro e f2 ⟨o2, l2, c2, rfl, ho, hb⟩; have H2 : Hid (IntAt f2 n1 o1 l1 c1 (a.num * b.num) ∧ RowAt f2 .u64 o2 l2 c2 (mag (a.den * b.den))) := ⟨H1.out.later (bnext hS2 hb), ho.row⟩; have hl2 : l2 ≤ 3000 := (by rw [ho.row.hlen]; exact HL.out.2.2.2.1); clear ho; have hbF2 : Below W.heap.size W f2 := bnext hS hb; have hzF2 := hbF2.size; clear hS hb S1; clear hS2; have S2 : Step8 2 := ⟨trivial⟩)
   | (have _t := S2; go_at_call 61; refine with_held (S := fun w9 => Below W.heap.size W w9) (by show Below _ _ _; with_reducible ((repeat (first | refine below_alloc ?_ (Nat.le_refl _) | refine Below.drew ?_ | refine below_set ?_ (by omega))); (first | exact hbF3 | exact hbF2 | exact hbF1 | exact Below.refl _ _))) (fun hS => ?_); refine with_held (S := fun w9 => Below f2.heap.size f2 w9) (by show Below _ _ _; with_reducible ((repeat (refine below_alloc ?_ (Nat.le_refl _))); exact Below.refl _ _)) (fun hS2 => ?_); refine (qmake_any n1 o1 o2 l1 c1 l2 c2 (a.num * b.num) (a.den * b.den) _ (H2.out.1.later hS2) (H2.out.2.later hS2) h0 (by omega) (by omega) (a * b) (Rat.mul_def a b)).mono ?_; rintro e f3 ⟨nz, oz, lz, cz, pz, mz, dz, rfl, hz, hb⟩; have HZ : Hid (RatAt f3 nz oz lz cz pz mz dz _ ∧ Below W.heap.size W f3) := ⟨hz, bnext hS hb⟩; clear hz; obtain ⟨k5, k2, k3, k4⟩ := HF.out.1.later (bnext hS hb) (by omega); have hbF3 : Below W.heap.size W f3 := bnext hS hb; have hzF3 := hbF3.size; clear hS hb S2; clear hS2; skip))
 all_goals go_wp2
 exact bodyPost_ret (v := .agg #[.bool nz, .slice oz lz cz, .slice pz mz dz]) (by simp [results, Tryz.results36, go_sem, k2, k3, k4]) rfl
  ⟨_, _, _, _, _, _, _, rfl, rat_kept HZ.out.1 ⟨k2, k3, k4⟩, below_store3 (bnext HF.out.2 HZ.out.2) (by omega) _ _ _⟩
theorem qplus_any (na nb : Bool) (ao po bo qo : Option Addr) (la ca lp cp lb cb lq cq : Nat) (a b : Rat) (w : World) (hx : RatAt w na ao la ca po lp cp a) (hy : RatAt w nb bo lb cb qo lq cq b) (ha : Sz a 1000) (hb : Sz b 1000) :
  Calls Tryz.prog 35 #[.agg #[.bool na, .slice ao la ca, .slice po lp cp], .agg #[.bool nb, .slice bo lb cb, .slice qo lq cq]] w fun e w' => SomeR w w' e (a + b) := by
 obtain ⟨W, hT⟩ := RTwo3.mk' w na nb ao po bo qo la ca lp cp lb cb lq cq
 have hsz := hT.size
 have HX : Hid (RatAt W na ao la ca po lp cp a ∧ RatAt W nb bo lb cb qo lq cq b) := ⟨hx.later hT.below, hy.later hT.below⟩
 have hla : la ≤ 1000 := (hx.len ha).1
 have hlp : lp ≤ 1000 := (hx.len ha).2
 have hlb : lb ≤ 1000 := (hy.len hb).1
 have hlq : lq ≤ 1000 := (hy.len hb).2
 have HS : Hid (Sz a 1000 ∧ Sz b 1000) := ⟨ha, hb⟩
 have KW : Hid (∀ w' : World, Below W.heap.size W w' → w'.cell? ⟨w.heap.size, 0, none⟩ = some (.bool na) ∧ w'.cell? ⟨w.heap.size, 1, none⟩ = some (.slice ao la ca) ∧ w'.cell? ⟨w.heap.size, 2, none⟩ = some (.slice po lp cp) ∧ w'.cell? ⟨w.heap.size + 1, 0, none⟩ = some (.bool nb) ∧ w'.cell? ⟨w.heap.size + 1, 1, none⟩ = some (.slice bo lb cb) ∧ w'.cell? ⟨w.heap.size + 1, 2, none⟩ = some (.slice qo lq cq)) := fun w' h => ⟨(h.cell (p := ⟨w.heap.size, 0, none⟩) (by show w.heap.size < _; omega)).trans hT.a.1, (h.cell (p := ⟨w.heap.size, 1, none⟩) (by show w.heap.size < _; omega)).trans hT.a.2.1, (h.cell (p := ⟨w.heap.size, 2, none⟩) (by show w.heap.size < _; omega)).trans hT.a.2.2, (h.cell (p := ⟨w.heap.size + 1, 0, none⟩) (by show w.heap.size + 1 < _; omega)).trans hT.b.1, (h.cell (p := ⟨w.heap.size + 1, 1, none⟩) (by show w.heap.size + 1 < _; omega)).trans hT.b.2.1, (h.cell (p := ⟨w.heap.size + 1, 2, none⟩) (by show w.heap.size + 1 < _; omega)).trans hT.b.2.2⟩
 have KS : Hid (∀ X : World, Below W.heap.size W X → ∀ x y z, (fun w' : World => w'.cell? ⟨w.heap.size, 0, none⟩ = some (.bool na) ∧ w'.cell? ⟨w.heap.size, 1, none⟩ = some (.slice ao la ca) ∧ w'.cell? ⟨w.heap.size, 2, none⟩ = some (.slice po lp cp) ∧ w'.cell? ⟨w.heap.size + 1, 0, none⟩ = some (.bool nb) ∧ w'.cell? ⟨w.heap.size + 1, 1, none⟩ = some (.slice bo lb cb) ∧ w'.cell? ⟨w.heap.size + 1, 2, none⟩ = some (.slice qo lq cq)) (((X.setCell ⟨w.heap.size + 1 + 1, 0, none⟩ x).setCell ⟨w.heap.size + 1 + 1, 1, none⟩ y).setCell ⟨w.heap.size + 1 + 1, 2, none⟩ z)) := fun X h x y z => by
  obtain ⟨h0, h1, h2, h3, h4, h5⟩ := KW.out X h
  (try dsimp only)
  rw [cell_off (by omega), cell_off (by omega), cell_off (by omega), cell_off (by omega), cell_off (by omega), cell_off (by omega), cell_off (by omega), cell_off (by omega), cell_off (by omega), cell_off (by omega), cell_off (by omega), cell_off (by omega), cell_off (by omega), cell_off (by omega), cell_off (by omega), cell_off (by omega), cell_off (by omega), cell_off (by omega)]
  exact ⟨h0, h1, h2, h3, h4, h5⟩
 have HF : Hid (Fresh3 W (w.heap.size + 1 + 1) ∧ Below w.heap.size w W) := ⟨hT.r, hT.below⟩
 have HL : Hid ((mag (a.num * (b.den : Int)).natAbs).length ≤ 3000 ∧ (mag (b.num * (a.den : Int)).natAbs).length ≤ 3000 ∧ (mag (a.num * (b.den : Int) + b.num * (a.den : Int)).natAbs).length ≤ 7000 ∧ (mag (a.den * b.den)).length ≤ 3000 ∧ (mag (a.num * b.num).natAbs).length ≤ 3000) := by
  have h1 := add_len (a.num * (b.den : Int)) (b.num * (a.den : Int))
  have h2 := mul_len a.num (b.den : Int)
  have h3 := mul_len b.num (a.den : Int)
  have h4 := mag_len_mul a.den b.den
  have h5 := mul_len a.num b.num
  rw [Int.natAbs_natCast] at h2 h3
  have := ha.1; have := ha.2; have := hb.1; have := hb.2
  refine ⟨?_, ?_, ?_, ?_, ?_⟩ <;> omega
 have h0 : a.den * b.den ≠ 0 := Nat.mul_ne_zero a.den_nz b.den_nz
 clear hx hy ha hb
 go_enter Tryz.func35, Tryz.ntmps35
 go_upto_region 1 with fail
 rw [← hT.eq]
 clear hT
 have hzU : W.heap.size ≤ W.drew.heap.size := Nat.le_refl _
 have S0 : Step8 0 := ⟨trivial⟩
 go_region_held3 (fun w' => (w'.cell? ⟨w.heap.size, 0, none⟩ = some (.bool na) ∧ w'.cell? ⟨w.heap.size, 1, none⟩ = some (.slice ao la ca) ∧ w'.cell? ⟨w.heap.size, 2, none⟩ = some (.slice po lp cp) ∧ w'.cell? ⟨w.heap.size + 1, 0, none⟩ = some (.bool nb) ∧ w'.cell? ⟨w.heap.size + 1, 1, none⟩ = some (.slice bo lb cb) ∧ w'.cell? ⟨w.heap.size + 1, 2, none⟩ = some (.slice qo lq cq)))
  (with_reducible (first | exact KS.out _ hbF7 _ _ _ | exact KW.out _ (Below.refl _ _).drew | exact KW.out _ (by assumption) | (refine KW.out _ ?_; (repeat (first | refine below_alloc ?_ (Nat.le_refl _) | refine Below.drew ?_ | refine below_set ?_ (by omega))); (first | exact hbF7 | exact hbF6 | exact hbF5 | exact hbF4 | exact hbF3 | exact hbF2 | exact hbF1 | exact Below.refl _ _))))
  (first
   | (have _t := S0; go_at_call 50; refine with_held (S := fun w9 => Below W.heap.size W w9) (by show Below _ _ _; with_reducible ((repeat (first | refine below_alloc ?_ (Nat.le_refl _) | refine Below.drew ?_ | refine below_set ?_ (by omega))); (first | exact hbF7 | exact hbF6 | exact hbF5 | exact hbF4 | exact hbF3 | exact hbF2 | exact hbF1 | exact Below.refl _ _))) (fun hS => ?_); refine (qden_any nb bo qo lb cb lq cq _ (by omega)).mono ?_; rintro e f1 ⟨rfl, hb⟩; skip; have hbF1 : Below W.heap.size W f1 := bnext hS hb; have hzF1 := hbF1.size; clear hS hb S0; have S1 : Step8 1 := ⟨trivial⟩)
   | (have _t := S1; go_at_call 49; refine with_held (S := fun w9 => Below W.heap.size W w9) (by show Below _ _ _; with_reducible ((repeat (first | refine below_alloc ?_ (Nat.le_refl _) | refine Below.drew ?_ | refine below_set ?_ (by omega))); (first | exact hbF7 | exact hbF6 | exact hbF5 | exact hbF4 | exact hbF3 | exact hbF2 | exact hbF1 | exact Below.refl _ _))) (fun hS => ?_); refine with_held (S := fun w9 => Below f1.heap.size f1 w9) (by show Below _ _ _; with_reducible ((repeat (refine below_alloc ?_ (Nat.le_refl _))); exact Below.refl _ _)) (fun hS2 => ?_); refine (rtimes_any na false ao qo la ca lq cq a.num (b.den : Int) _ (HX.out.1.num.later hS) (row_int (HX.out.2.den.later hS)) (by omega) (by omega)).mono ?_; rintro e f2 ⟨n1, o1, l1, c1, rfl, hs, ho, hb⟩; have H2 : Hid (IntAt f2 n1 o1 l1 c1 (a.num * (b.den : Int))) := ho.int hs; have hl1 : l1 ≤ 3000 := (by rw [ho.row.hlen]; exact HL.out.1); clear hs ho; have hbF2 : Below W.heap.size W f2 := bnext hS hb; have hzF2 := hbF2.size; clear hS hb S1; clear hS2; have S2 : Step8 2 := ⟨trivial⟩)
   | (have _t := S2; go_at_call 50; refine with_held (S := fun w9 => Below W.heap.size W w9) (by show Below _ _ _; with_reducible ((repeat (first | refine below_alloc ?_ (Nat.le_refl _) | refine Below.drew ?_ | refine below_set ?_ (by omega))); (first | exact hbF7 | exact hbF6 | exact hbF5 | exact hbF4 | exact hbF3 | exact hbF2 | exact hbF1 | exact Below.refl _ _))) (fun hS => ?_); refine with_held (S := fun w9 => Below f2.heap.size f2 w9) (by show Below _ _ _; with_reducible ((repeat (refine below_alloc ?_ (Nat.le_refl _))); exact Below.refl _ _)) (fun hS2 => ?_); refine (qden_any na ao po la ca lp cp _ (by omega)).mono ?_; rintro e f3 ⟨rfl, hb⟩; have H3 : Hid (IntAt f3 n1 o1 l1 c1 (a.num * (b.den : Int))) := H2.out.later (bnext hS2 hb); have hbF3 : Below W.heap.size W f3 := bnext hS hb; have hzF3 := hbF3.size; clear hS hb S2; clear hS2; have S3 : Step8 3 := ⟨trivial⟩)
   | (have _t := S3; go_at_call 49; refine with_held (S := fun w9 => Below W.heap.size W w9) (by show Below _ _ _; with_reducible ((repeat (first | refine below_alloc ?_ (Nat.le_refl _) | refine Below.drew ?_ | refine below_set ?_ (by omega))); (first | exact hbF7 | exact hbF6 | exact hbF5 | exact hbF4 | exact hbF3 | exact hbF2 | exact hbF1 | exact Below.refl _ _))) (fun hS => ?_); refine with_held (S := fun w9 => Below f3.heap.size f3 w9) (by show Below _ _ _; with_reducible ((repeat (refine below_alloc ?_ (Nat.le_refl _))); exact Below.refl _ _)) (fun hS2 => ?_); refine (rtimes_any nb false bo po lb cb lp cp b.num (a.den : Int) _ (HX.out.2.num.later hS) (row_int (HX.out.1.den.later hS)) (by omega) (by omega)).mono ?_; rintro e f4 ⟨n2, o2, l2, c2, rfl, hs, ho, hb⟩; have H4 : Hid (IntAt f4 n1 o1 l1 c1 (a.num * (b.den : Int)) ∧ IntAt f4 n2 o2 l2 c2 (b.num * (a.den : Int))) := ⟨H3.out.later (bnext hS2 hb), ho.int hs⟩; have hl2 : l2 ≤ 3000 := (by rw [ho.row.hlen]; exact HL.out.2.1); clear hs ho; have hbF4 : Below W.heap.size W f4 := bnext hS hb; have hzF4 := hbF4.size; clear hS hb S3; clear hS2; have S4 : Step8 4 := ⟨trivial⟩)
   | (have _t := S4; go_at_call 62; refine with_held (S := fun w9 => Below W.heap.size W w9) (by show Below _ _ _; with_reducible ((repeat (first | refine below_alloc ?_ (Nat.le_refl _) | refine Below.drew ?_ | refine below_set ?_ (by omega))); (first | exact hbF7 | exact hbF6 | exact hbF5 | exact hbF4 | exact hbF3 | exact hbF2 | exact hbF1 | exact Below.refl _ _))) (fun hS => ?_); refine with_held (S := fun w9 => Below f4.heap.size f4 w9) (by show Below _ _ _; with_reducible ((repeat (refine below_alloc ?_ (Nat.le_refl _))); exact Below.refl _ _)) (fun hS2 => ?_); refine (rplus_any n1 n2 o1 o2 l1 c1 l2 c2 _ _ _ (H4.out.1.later hS2) (H4.out.2.later hS2) (by omega) (by omega)).mono ?_; rintro e f5 ⟨n3, o3, l3, c3, rfl, hi, hb⟩; have H5 : Hid (IntAt f5 n3 o3 l3 c3 (a.num * (b.den : Int) + b.num * (a.den : Int))) := hi; have hl3 : l3 ≤ 7000 := (by rw [hi.row.hlen]; exact HL.out.2.2.1); clear hi; have hbF5 : Below W.heap.size W f5 := bnext hS hb; have hzF5 := hbF5.size; clear hS hb S4; clear hS2; have S5 : Step8 5 := ⟨trivial⟩)
   | (have _t := S5; go_at_call 63; refine with_held (S := fun w9 => Below W.heap.size W w9) (by show Below _ _ _; with_reducible ((repeat (first | refine below_alloc ?_ (Nat.le_refl _) | refine Below.drew ?_ | refine below_set ?_ (by omega))); (first | exact hbF7 | exact hbF6 | exact hbF5 | exact hbF4 | exact hbF3 | exact hbF2 | exact hbF1 | exact Below.refl _ _))) (fun hS => ?_); refine with_held (S := fun w9 => Below f5.heap.size f5 w9) (by show Below _ _ _; with_reducible ((repeat (refine below_alloc ?_ (Nat.le_refl _))); exact Below.refl _ _)) (fun hS2 => ?_); refine (ntimes_any po qo lp cp lq cq a.den b.den _ (HX.out.1.den.later hS) (HX.out.2.den.later hS) (by omega) (by omega)).mono ?_; rintro e f6 ⟨o4, l4, c4, rfl, ho, hb⟩; have H6 : Hid (IntAt f6 n3 o3 l3 c3 (a.num * (b.den : Int) + b.num * (a.den : Int)) ∧ RowAt f6 .u64 o4 l4 c4 (mag (a.den * b.den))) := ⟨H5.out.later (bnext hS2 hb), ho.row⟩; have hl4 : l4 ≤ 3000 := (by rw [ho.row.hlen]; exact HL.out.2.2.2.1); clear ho; have hbF6 : Below W.heap.size W f6 := bnext hS hb; have hzF6 := hbF6.size; clear hS hb S5; clear hS2; have S6 : Step8 6 := ⟨trivial⟩)
   | (have _t := S6; go_at_call 61; refine with_held (S := fun w9 => Below W.heap.size W w9) (by show Below _ _ _; with_reducible ((repeat (first | refine below_alloc ?_ (Nat.le_refl _) | refine Below.drew ?_ | refine below_set ?_ (by omega))); (first | exact hbF7 | exact hbF6 | exact hbF5 | exact hbF4 | exact hbF3 | exact hbF2 | exact hbF1 | exact Below.refl _ _))) (fun hS => ?_); refine with_held (S := fun w9 => Below f6.heap.size f6 w9) (by show Below _ _ _; with_reducible ((repeat (refine below_alloc ?_ (Nat.le_refl _))); exact Below.refl _ _)) (fun hS2 => ?_); refine (qmake_any n3 o3 o4 l3 c3 l4 c4 (a.num * (b.den : Int) + b.num * (a.den : Int)) (a.den * b.den) _ (H6.out.1.later hS2) (H6.out.2.later hS2) h0 (by omega) (by omega) (a + b) (Rat.add_def a b)).mono ?_; rintro e f7 ⟨nz, oz, lz, cz, pz, mz, dz, rfl, hz, hb⟩; have HZ : Hid (RatAt f7 nz oz lz cz pz mz dz _ ∧ Below W.heap.size W f7) := ⟨hz, bnext hS hb⟩; clear hz; obtain ⟨k5, k2, k3, k4⟩ := HF.out.1.later (bnext hS hb) (by omega); have hbF7 : Below W.heap.size W f7 := bnext hS hb; have hzF7 := hbF7.size; clear hS hb S6; clear hS2; skip))
 all_goals go_wp2
 exact bodyPost_ret (v := .agg #[.bool nz, .slice oz lz cz, .slice pz mz dz]) (by simp [results, Tryz.results35, go_sem, k2, k3, k4]) rfl
  ⟨_, _, _, _, _, _, _, rfl, rat_kept HZ.out.1 ⟨k2, k3, k4⟩, below_store3 (bnext HF.out.2 HZ.out.2) (by omega) _ _ _⟩
theorem rcheck_bad (na : Bool) (ao po : Option Addr) (la ca lp cp : Nat) (x d : List Int) (w : World) (hx : RowAt w .u64 ao la ca x) (wx : Wd 18446744073709551616 x) (hd : RowAt w .u64 po lp cp d) (wd : Wd 18446744073709551616 d) (hl : la ≤ 16777216) (hl' : lp ≤ 16777216) (hT0 : TabAt 0 Lib.deBruijn64tab w) (hm : mayR na x d = false) :
  Calls Tryz.prog 28 #[.agg #[.bool na, .slice ao la ca, .slice po lp cp]] w fun e w' => e = .returned (.int .i64 20) ∧ Below w.heap.size w w' := by
 obtain ⟨W, hW⟩ := ROne1.mk' w na ao po la ca lp cp
 have hsz := hW.size
 have HX : Hid (RowAt W .u64 ao la ca x ∧ RowAt W .u64 po lp cp d) := ⟨hx.later hW.below, hd.later hW.below⟩
 have HTb : Hid (TabAt 0 Lib.deBruijn64tab W) := tab_later hT0 hW.below
 have HLd : Hid (lp = d.length) := hd.hlen
 cases h1 : mayB na x
 ·
  have HC1 : Hid ((if mayB na x then 0 else 10 : Int) = 10) := by show _ = _; rw [h1]; rfl
  clear hx hd hT0 hm h1
  go_enter Tryz.func28, Tryz.ntmps28
  go_wp2_with (go_at_call 52; rw [← hW.eq]; refine (check_at na ao la ca x _ HX.out.1 (by omega) 10 HC1.out).mono ?_; rintro e w1 ⟨rfl, hb1⟩; obtain ⟨p0, p1, p2⟩ := hW.a.later hb1 (by omega))
  go_ret
  exact ⟨rfl, bnext hW.below hb1⟩
 ·
  have HC1 : Hid ((if mayB na x then 0 else 10 : Int) = 0) := by show _ = _; rw [h1]; rfl
  cases h2 : mayB false d
  ·
   have HC2 : Hid ((if mayB false d then 0 else 10 : Int) = 10) := by show _ = _; rw [h2]; rfl
   clear hx hd hT0 hm h1 h2
   go_enter Tryz.func28, Tryz.ntmps28
   go_wp2_with (first
    | (go_at_call 52; have _t := hb1; refine (check_at false po lp cp d _ (HX.out.2.later hb1) (by omega) 10 HC2.out).mono ?_; rintro e w2 ⟨rfl, hb2⟩; clear p0 p1 p2; obtain ⟨p0, p1, p2⟩ := hW.a.later (bnext hb1 hb2) (by omega))
    | (go_at_call 52; rw [← hW.eq]; refine (check_at na ao la ca x _ HX.out.1 (by omega) 0 HC1.out).mono ?_; rintro e w1 ⟨rfl, hb1⟩; obtain ⟨p0, p1, p2⟩ := hW.a.later hb1 (by omega)))
   go_ret
   exact ⟨rfl, bnext hW.below (bnext hb1 hb2)⟩
  ·
   have HC2 : Hid ((if mayB false d then 0 else 10 : Int) = 0) := by show _ = _; rw [h2]; rfl
   by_cases h3 : lp = 0
   ·
    have h3' : ((lp : Int) == 0) = true := by simp; omega
    clear hx hd hT0 hm h1 h2 h3
    go_enter Tryz.func28, Tryz.ntmps28
    go_wp2_with (first
     | (go_at_call 52; have _t := hb1; refine (check_at false po lp cp d _ (HX.out.2.later hb1) (by omega) 0 HC2.out).mono ?_; rintro e w2 ⟨rfl, hb2⟩; clear p0 p1 p2; obtain ⟨p0, p1, p2⟩ := hW.a.later (bnext hb1 hb2) (by omega))
     | (go_at_call 52; rw [← hW.eq]; refine (check_at na ao la ca x _ HX.out.1 (by omega) 0 HC1.out).mono ?_; rintro e w1 ⟨rfl, hb1⟩; obtain ⟨p0, p1, p2⟩ := hW.a.later hb1 (by omega)))
    go_ret
    exact ⟨rfl, bnext hW.below (bnext hb1 hb2)⟩
   ·
    have h3' : ((lp : Int) == 0) = false := by simp; omega
    obtain ⟨v, hv, ev⟩ := int_of_may HX.out.1 wx h1
    obtain ⟨u, hu, eu⟩ := int_of_may HX.out.2 wd h2
    have HG : Hid (decide (Nat.gcd v.natAbs u.natAbs = 1) = false) := by
     show _ = _
     rw [← hm]; unfold mayR
     rw [h1, h2, decide_eq_true (show 0 < d.length by have := HLd.out; omega), Bool.true_and, Bool.true_and, Bool.true_and, ev, eu, mag_val, mag_val, Int.natAbs_natCast, Int.natAbs_natCast]
    have HR : Hid (RowAt W .u64 ao la ca (mag v.natAbs) ∧ RowAt W .u64 po lp cp (mag u.natAbs) ∧ 0 < u.natAbs) := ⟨hv.row, hu.row, mag_len_pos.1 (by rw [← hu.row.hlen]; omega)⟩
    clear hx hd hT0 hm h1 h2 hv hu ev eu
    go_enter Tryz.func28, Tryz.ntmps28
    go_wp2_with (first
     | (go_at_call 52; have _t := hb1; refine (check_at false po lp cp d _ (HX.out.2.later hb1) (by omega) 0 HC2.out).mono ?_; rintro e w2 ⟨rfl, hb2⟩; clear p0 p1 p2; obtain ⟨p0, p1, p2⟩ := hW.a.later (bnext hb1 hb2) (by omega))
     | (go_at_call 52; rw [← hW.eq]; refine (check_at na ao la ca x _ HX.out.1 (by omega) 0 HC1.out).mono ?_; rintro e w1 ⟨rfl, hb1⟩; obtain ⟨p0, p1, p2⟩ := hW.a.later hb1 (by omega))
     | (go_at_call 53; refine (apart_any ao po la ca lp cp _ _ _ (HR.out.1.later (bnext hb1 hb2)) (HR.out.2.1.later (bnext hb1 hb2)) HR.out.2.2 (by omega) (by omega) (tab_later HTb.out (bnext hb1 hb2)) false HG.out).mono ?_; rintro e w3 ⟨rfl, hb3⟩))
    go_ret
    exact ⟨rfl, bnext hW.below (bnext (bnext hb1 hb2) hb3)⟩
end Go.Proofs.YthjkdnlbdhhmbaaGreatDoor
