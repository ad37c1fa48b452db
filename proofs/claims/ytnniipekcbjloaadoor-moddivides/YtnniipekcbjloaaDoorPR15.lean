/-
  PC: in plain: made monic; what is left, step by step, till nothing divides; walks: modp's monic, Gcd.
-/
import Derived.Test.YtnniipekcbjloaaDoorPR14
import Derived.Deep.AppendLies
import Derived.BigRegion
import Derived.Laws.OwnMore
namespace Go.Proofs.YtnniipekcbjloaaDoor
open Go.RowKit Go.Shelf
set_option linter.unusedVariables false
set_option linter.unusedSimpArgs false
/-- the reciprocal of the last coefficient -/
def leadInv (p : Int) (f : List Int) : Int := dig f (f.length - 1) ^ (p.toNat - 2) % p
/-- divided by the last coefficient -/
def monL (p : Int) (f : List Int) : List Int := f.map fun z => z * leadInv p f % p
theorem mapF_dig (F : Int → Int) (l : List Int) (k : Nat) (h : k < l.length) : dig (l.map F) k = F (dig l k) := by simp [dig, h]
theorem monL_len (p : Int) (f : List Int) : (monL p f).length = f.length := by simp [monL]
theorem monL_dig {p : Int} {f : List Int} {k : Nat} (h : k < f.length) : dig (monL p f) k = dig f k * leadInv p f % p := mapF_dig _ f k h
theorem leadInv_in {p : Int} (hp : 0 < p) (f : List Int) : 0 ≤ leadInv p f ∧ leadInv p f < p := ⟨Int.emod_nonneg _ (by omega), Int.emod_lt_of_pos _ hp⟩
theorem lead_one {p : Int} (hp : IsPr p) {f : List Int} (hf : Pm p f) (h : 0 < f.length) : dig f (f.length - 1) * leadInv p f % p = 1 := by
  have h2 := hp.two
  have hl := hf.lead (by omega) h
  obtain ⟨k, hk⟩ := hp.inv hl.1 hl.2
  unfold leadInv
  rw [Int.mul_emod, Int.emod_emod_of_dvd _ (Int.dvd_refl p), ← Int.mul_emod, hk, Int.add_mul_emod_self_left]
  exact Int.emod_eq_of_lt (by decide) (by omega)
theorem monL_pm {p : Int} (hp : IsPr p) {f : List Int} (hf : Pm p f) : Pm p (monL p f) := by
  have h2 := hp.two
  refine ⟨fun z hz => ?_, can_of_dig fun hl => ?_⟩
  · obtain ⟨y, _, rfl⟩ := List.mem_map.1 hz
    exact ⟨Int.emod_nonneg _ (by omega), Int.emod_lt_of_pos _ (by omega)⟩
  · rw [monL_len] at hl ⊢
    rw [monL_dig (by omega), lead_one hp hf hl]
    decide
/-- what is left of f by g -/
def Rm (p : Int) (f g r : List Int) : Prop := Pm p r ∧ r.length < g.length ∧ ∃ q, EqM p (fun x => ev f x) (fun x => ev q x * ev g x + ev r x)
theorem Rm.uniq {p : Int} {f g r s : List Int} (hp : IsPr p) (hg : Pm p g) (h : Rm p f g r) (k : Rm p f g s) : r = s := by
  obtain ⟨h1, h2, q, h3⟩ := h
  obtain ⟨k1, k2, q', k3⟩ := k
  exact Md.inj hp hg h1 k1 h2 k2 ((Md.ofDiv h3).trans (Md.ofDiv k3).symm)
/-- divided on till nothing is left -/
def GcdTo (p : Int) : Nat → List Int → List Int → List Int → Prop
  | 0, f, g, d => g = [] ∧ f = d
  | n + 1, f, g, d => g ≠ [] ∧ ∃ r, Rm p f g r ∧ GcdTo p n g r d
theorem GcdTo.uniq {p : Int} (hp : IsPr p) : ∀ {n m : Nat} {f g d e : List Int}, Pm p g → GcdTo p n f g d → GcdTo p m f g e → d = e
  | 0, 0, f, g, d, e, _, h, k => h.2.symm.trans k.2
  | 0, m + 1, f, g, d, e, _, h, k => absurd h.1 k.1
  | n + 1, 0, f, g, d, e, _, h, k => absurd k.1 h.1
  | n + 1, m + 1, f, g, d, e, hg, h, k => by
    obtain ⟨_, r, h1, h2⟩ := h
    obtain ⟨_, s, k1, k2⟩ := k
    obtain rfl := h1.uniq hp hg k1
    exact GcdTo.uniq hp h1.1 h2 k2
set_option maxRecDepth 100000 in
set_option maxHeartbeats 2000000 in
theorem mmonic_any (p : Int) (ao : Option Addr) (la ca : Nat) (f : List Int) (w : World) (hpr : IsPr p) (hp : p ≤ 2147483648) (hf : FRow p w ao la ca f) (hc : Can f) :
    Calls Tryd.prog 55 #[.int .u64 p, .slice ao la ca] w fun e w' => NewF w w' e fun zs => zs = monL p f := by
  have hp2 := hpr.two
  by_cases h0 : la = 0
  · subst h0
    have hn : f = [] := List.eq_nil_of_length_eq_zero hf.row.hlen.symm
    have HN : Hid (NewF w w (.returned (.slice none 0 0)) fun zs => zs = monL p f) := ⟨_, _, _, [], rfl, Own.none_, by rw [hn]; rfl, by decide, Below.refl _ _⟩
    clear hn hf hp hpr hp2 hc
    go_enter Tryd.func55, Tryd.ntmps55
    go_wp2
    go_ret
    exact HN.out
  · have hla4 := hf.short
    have hcp := hf.row.hcap
    obtain ⟨b, off, rfl, hb, hcl, hc0, hc1⟩ := hf.cell (p := p) (by omega) (k := la - 1) (by omega)
    obtain ⟨a, ha⟩ : ∃ a, dig f (la - 1) = a := ⟨_, rfl⟩
    rw [ha] at hcl hc0 hc1
    obtain ⟨c, hcc⟩ : ∃ c, a ^ (p.toNat - 2) % p = c := ⟨_, rfl⟩
    have HI : Hid (∀ W, Calls Tryd.prog 73 #[.int .u64 p, .int .u64 a] W fun e w' => e = .returned (.int .u64 c) ∧ Below W.heap.size W w') :=
      fun W => minverse_any p a c W ⟨hp2, hp⟩ ⟨hc0, by omega⟩ hcc
    have HF : Hid (FRow p w (some ⟨b, off, none⟩) la ca f ∧ la = f.length ∧ leadInv p f = c ∧ (0 < p ∧ p < 18446744073709551616) ∧ p ≤ 2147483648) := ⟨hf, hf.row.hlen, by rw [leadInv, ← hf.row.hlen, ha, hcc], ⟨by omega, by omega⟩, hp⟩
    have HC : Hid (0 ≤ c ∧ c < p) := by rw [← HF.out.2.2.1]; exact leadInv_in (by omega) f
    obtain ⟨i0, hi, hz0, hz1, hz2⟩ := info_parts info64
    have b1 : Hid (i0.bytes * la ≤ 281474976710656) := by show _ ≤ _; rw [hz2]; omega
    have b2 : Hid (la ≤ maxLen) := by show _ ≤ _; unfold maxLen; omega
    have e0 : ((la : Int) == 0) = false := by simp; omega
    have e1 : (la : Int) - 1 = ((la - 1 : Nat) : Int) := by omega
    have e2 : la - 1 < la := by omega
    have hla4' : la ≤ 4194304 := by omega
    have HCE : Hid (∀ wr, Below w.heap.size w wr → wr.cell? ⟨b, off + (la - 1), none⟩ = some (.int .u64 a)) := fun wr hb => (hb.cell (p := ⟨b, off + (la - 1), none⟩) (cell_lt hcl)).trans hcl
    clear hf hc hpr hp hp2 ha hcc hcl hc0 hc1 h0
    go_enter Tryd.func55, Tryd.ntmps55
    go_wp2_with (first
      | (at_make; refine wpList_make_full _ rfl (.tmp 13) (.tmp 13) 24 rfl w.heap.size 25 i0 (.int .u64 0) 1 Tryd.underlying24 hi hz0 hz1 .i64 .i64 _ _ la rfl rfl rfl rfl b1.out b2.out (Nat.le_refl _) ?_; intro w1 hown1 hgrow1; have HM : Hid (Blk w1 w.heap.size .u64 25 (List.replicate la 0) ∧ Below w.heap.size w w1) := ⟨made_blk hown1, grown_below hgrow1⟩; clear hown1 hgrow1; have hgx1 := HCE.out _ HM.out.2)
      | (go_at_call 73; refine (HI.out _).mono ?_; rintro e w2 ⟨rfl, hb2⟩; have HM2 : Hid (Blk w2 w.heap.size .u64 25 (List.replicate la 0) ∧ Below w.heap.size w w2) := ⟨HM.out.1.all hb2, bnextM (B := 0) HM.out.2 hb2⟩; clear hb2))
    clear HM hgx1
    obtain ⟨G, hG⟩ : ∃ G, G = w.heap.size := ⟨_, rfl⟩
    rw [← hG] at HM2 ⊢
    have HG : Hid (G = w.heap.size) := hG
    clear hG
    go_loopw [25] (fun i wr => ∃ (j : Nat) (L : List Int), i = .int .i64 (j : Int) ∧ j ≤ la ∧ Hid (Blk wr G .u64 25 L ∧ L.length = la ∧ (∀ t, t < j → dig L t = dig (monL p f) t) ∧ Below w.heap.size w wr)) (fun i _ => la - (intOf i).toNat)
    case atStart => exact ⟨0, _, rfl, Nat.zero_le _, HM2.out.1, by simp, fun t h => absurd h (by omega), by have := HM2.out.2; rwa [HG.out] at this⟩
    case round =>
      obtain ⟨j, L, rfl, hj, HS⟩ := hrel
      by_cases hlt : j < la
      · obtain ⟨b', off', ee, _, hx, hx0, hx1⟩ := (HF.out.1.later HS.out.2.2.2).cell HF.out.2.2.2.1.1 hlt
        simp only [Option.some.injEq, Addr.mk.injEq, and_true] at ee
        obtain ⟨rfl, rfl⟩ := ee
        obtain ⟨x, hxd⟩ : ∃ x, dig f j = x := ⟨_, rfl⟩
        rw [hxd] at hx hx0 hx1
        obtain ⟨r, hr⟩ : ∃ r, x * c % p = r := ⟨_, rfl⟩
        have HT : Hid (∀ W, Calls Tryd.prog 47 #[.int .u64 p, .int .u64 x, .int .u64 c] W fun e w' => e = .returned (.int .u64 r) ∧ Below W.heap.size W w') := fun W =>
          mtimes_any p x c r W HF.out.2.2.2.1 ⟨hx0, by have := HF.out.2.2.2; omega⟩ ⟨HC.out.1, by have := HC.out.2; have := HF.out.2.2.2; omega⟩ hr
        have HR : Hid (dig (monL p f) j = r ∧ j < la ∧ j < L.length) := ⟨by rw [monL_dig (by rw [← HF.out.2.1]; exact hlt), hxd, HF.out.2.2.1, hr], hlt, by rw [HS.out.2.1]; exact hlt⟩
        have z1 : (j : Int) < (la : Int) := by omega
        have z2 : (0 : Int) ≤ (j : Int) := by omega
        clear hr hxd hx0 hx1
        go_wp2_with (go_at_call 47; refine (HT.out _).mono ?_; rintro e w4 ⟨rfl, hb4⟩; have HB : Hid (Blk w4 G .u64 25 L ∧ Below w.heap.size w w4) := ⟨HS.out.1.all hb4, bnextM (B := 0) HS.out.2.2.2 hb4⟩; have r0 := HB.out.1.cell HR.out.2.2; have r1 := HB.out.1.frozen; clear hb4)
        go_roundw
        case rel => exact ⟨j + 1, L.set j r, by go_num, by omega, HB.out.1.set j r, by rw [List.length_set]; exact HS.out.2.1, fun t ht => by
          rw [dig_set _ HR.out.2.2]
          by_cases e : t = j
          · subst e; rw [if_pos rfl]; exact HR.out.1.symm
          · rw [if_neg e]; exact HS.out.2.2.1 t (by omega), HB.out.2.setCell (p := ⟨G, j, none⟩) (by rw [HG.out]; exact Nat.le_refl _) _⟩
        case measure => simp [intOf]; omega
      · have HL : Hid (L = monL p f) := dig_ext (by rw [monL_len, HS.out.2.1]; exact HF.out.2.1) fun t ht => HS.out.2.2.1 t (by rw [HS.out.2.1] at ht; omega)
        go_wp2
        go_ret
        exact ⟨_, _, _, L, rfl, Own.whole HS.out.1 (by rw [HG.out]; exact Nat.le_refl _) HS.out.2.1.symm, HL.out, hla4', HS.out.2.2.2⟩
theorem divideR (p : Int) (ao bo : Option Addr) (la ca lb cb : Nat) (f g : List Int) (w : World) (hpr : IsPr p) (hp : p ≤ 2147483648) (hf : FRow p w ao la ca f) (hg : FRow p w bo lb cb g) (hlb : 0 < lb) (hgc : Can g) :
    Calls Tryd.prog 60 #[.int .u64 p, .slice ao la ca, .slice bo lb cb] w fun e w' => (∃ qo ql qc ro rl rc r, e = .returned (.tuple #[.slice qo ql qc, .slice ro rl rc]) ∧ FRow p w' ro rl rc r ∧ Rm p f g r) ∧ Below w.heap.size w w' :=
  (divide_any p ao bo la ca lb cb f g w hpr hp hf hg hlb hgc).mono fun e w' h => by
    obtain ⟨qo, ql, qc, ro, rl, rc, q, r, he, _, hr, _, _, _, hpm, hlt, heq, _, hrc, hbw⟩ := h
    exact ⟨⟨qo, ql, qc, ro, rl, rc, r, he, ⟨hr.row, hpm.wd, Nat.le_trans hr.row.hcap hrc⟩, hpm, hlt, q, heq⟩, hbw⟩
set_option maxRecDepth 100000 in
set_option maxHeartbeats 2000000 in
theorem mGcd_any (p : Int) (ao bo : Option Addr) (la ca lb cb : Nat) (f g : List Int) (w : World) (h : Good2 p w ao bo la ca lb cb f g) :
    Calls Tryd.prog 32 #[.slice ao la ca, .slice bo lb cb, .int .u64 p] w fun e w' => FaceF w w' e fun zs => ∃ d m, GcdTo p m f g d ∧ Pm p d ∧ zs = monL p d := by
  have H1 := mcheckBoth_any p ao bo la ca lb cb f g w h
  have HP : Hid (IsPr p ∧ p ≤ 2147483648) := ⟨h.1.1, by have := h.1.2.1; omega⟩
  have HG : Hid (FRow p w ao la ca f ∧ FRow p w bo lb cb g ∧ Pm p f ∧ Pm p g) := ⟨h.2.1.1, h.2.2.1, h.2.1.2.1, h.2.2.2.1⟩
  have hl : Hid (lb ≤ 1025) := h.2.2.2.2
  clear h
  go_enter Tryd.func32, Tryd.ntmps32
  go_wp2_with (go_at_call 49; refine H1.mono ?_; rintro e w1 ⟨rfl, hb1⟩)
  go_loopw [0, 1] (fun z v wr => ∃ (xo : Option Addr) (xl xc : Nat) (yo : Option Addr) (yl yc : Nat) (x y : List Int), z = .slice xo xl xc ∧ v = .slice yo yl yc ∧ Hid (FRow p wr xo xl xc x ∧ FRow p wr yo yl yc y ∧ Pm p x ∧ Pm p y ∧ (∀ n d, GcdTo p n x y d → ∃ m, GcdTo p m f g d) ∧ Below w.heap.size w wr)) (fun _ v _ => slLen v)
  case atStart => exact ⟨ao, la, ca, bo, lb, cb, f, g, rfl, rfl, HG.out.1.later hb1, HG.out.2.1.later hb1, HG.out.2.2.1, HG.out.2.2.2, fun n d k => ⟨n, k⟩, hb1⟩
  case round =>
    obtain ⟨xo, xl, xc, yo, yl, yc, x, y, rfl, rfl, HS⟩ := hrel
    clear hb1
    have hyl := HS.out.2.1.row.hlen
    have hyc := HS.out.2.1.row.hcap
    by_cases h0 : yl = 0
    · subst h0
      have hn : y = [] := List.eq_nil_of_length_eq_zero hyl.symm
      have HM : Hid (∀ W, Below wr.heap.size wr W → Calls Tryd.prog 55 #[.int .u64 p, .slice xo xl xc] W fun e w' => NewF W w' e fun zs => zs = monL p x) := fun W hb =>
        mmonic_any p xo xl xc x W HP.out.1 HP.out.2 (HS.out.1.later hb) HS.out.2.2.1.can
      have HE : Hid (∃ m, GcdTo p m f g x) := HS.out.2.2.2.2.1 0 x ⟨hn, rfl⟩
      clear hn hyl hyc
      go_wp2_with (go_at_call 55; refine (HM.out _ (Below.refl _ _)).mono ?_; rintro e w2 hn; obtain ⟨zo, zl, zc, zs, rfl, hown, hz, hzc, hbb⟩ := hn.back HS.out.2.2.2.2.2)
      go_ret2
      exact ⟨zo, zl, zc, zs, rfl, hown, (by obtain ⟨m, hm⟩ := HE.out; exact ⟨x, m, hm, HS.out.2.2.1, hz⟩), hzc, hbb⟩
    · have q1 : (0 : Int) < (yl : Int) := by omega
      have HY : Hid (y ≠ [] ∧ 0 < yl) := ⟨fun e => by rw [e] at hyl; simp at hyl; omega, by omega⟩
      have HD : Hid (Calls Tryd.prog 60 #[.int .u64 p, .slice xo xl xc, .slice yo yl yc] wr fun e w' => (∃ qo ql qc ro rl rc r, e = .returned (.tuple #[.slice qo ql qc, .slice ro rl rc]) ∧ FRow p w' ro rl rc r ∧ Rm p x y r) ∧ Below wr.heap.size wr w') :=
        divideR p xo yo xl xc yl yc x y wr HP.out.1 HP.out.2 HS.out.1 HS.out.2.1 HY.out.2 HS.out.2.2.2.1.can
      have HYL : Hid (yl = y.length) := hyl
      clear hyl hyc h0
      go_wp2_with (go_at_call 60; refine HD.out.mono ?_; rintro e w2 ⟨⟨qo, ql, qc, ro, rl, rc, r, rfl, hr, hrm⟩, hb2⟩; have HR : Hid (FRow p w2 ro rl rc r ∧ Rm p x y r ∧ rl = r.length ∧ Below wr.heap.size wr w2) := ⟨hr, hrm, hr.row.hlen, hb2⟩; clear hr hrm hb2)
      go_roundw
      case rel => exact ⟨yo, yl, yc, ro, rl, rc, y, r, rfl, rfl, HS.out.2.1.later HR.out.2.2.2, HR.out.1, HS.out.2.2.2.1, HR.out.2.1.1, fun n d k => HS.out.2.2.2.2.1 (n + 1) d ⟨HY.out.1, r, HR.out.2.1, k⟩, bnextM (B := 0) HS.out.2.2.2.2.2 HR.out.2.2.2⟩
      case measure => (have h1 := HR.out.2.1.2.1; have h2 := HR.out.2.2.1; have h3 := HYL.out; simp [slLen]; omega)
end Go.Proofs.YtnniipekcbjloaaDoor
/-
  PD: walks: the page's Power, Over, Scale, Monic modulo p.
-/
namespace Go.Proofs.YtnniipekcbjloaaDoor
open Go.RowKit Go.Shelf
set_option linter.unusedVariables false
set_option linter.unusedSimpArgs false
theorem emod_pow (a p : Int) : ∀ n : Nat, (a % p) ^ n % p = a ^ n % p
  | 0 => by simp
  | n + 1 => by rw [Int.pow_succ, Int.pow_succ, Int.mul_emod, emod_pow a p n, Int.emod_emod_of_dvd _ (Int.dvd_refl p), ← Int.mul_emod]
theorem emod_mul_r (a b p : Int) : a * (b % p) % p = a * b % p := by rw [Int.mul_comm, emod_mul, Int.mul_comm]
theorem pow_even (x a p : Int) {n : Nat} (h : n % 2 = 0) : x * (a * a % p) ^ (n / 2) % p = x * a ^ n % p := by
  rw [← emod_mul_r, emod_pow, emod_mul_r]
  have e : a ^ n = (a * a) ^ (n / 2) := by
    have : n = n / 2 + n / 2 := by omega
    rw [Int.mul_pow, ← Int.pow_add, ← this]
  rw [e]
theorem pow_odd (x a p : Int) {n : Nat} (h : n % 2 = 1) : (x * a % p) * (a * a % p) ^ (n / 2) % p = x * a ^ n % p := by
  rw [emod_mul, ← emod_mul_r, emod_pow, emod_mul_r]
  have e : a ^ n = a * (a * a) ^ (n / 2) := by
    have : n = n / 2 + n / 2 + 1 := by omega
    rw [Int.mul_pow, ← Int.pow_add]
    conv => lhs; rw [this, Int.pow_succ]
    exact Int.mul_comm _ _
  rw [e, Int.mul_assoc]
theorem mod_in {p : Int} (hp : 0 < p) (a : Int) : 0 ≤ a % p ∧ a % p < p := ⟨Int.emod_nonneg _ (by omega), Int.emod_lt_of_pos _ hp⟩
theorem mul_in {p a b : Int} (hp : p ≤ 2147483648) (ha : 0 ≤ a ∧ a < p) (hb : 0 ≤ b ∧ b < p) : 0 ≤ a * b ∧ a * b ≤ 4611686018427387904 := by
  refine ⟨Int.mul_nonneg ha.1 hb.1, ?_⟩
  have : a * b ≤ 2147483648 * 2147483648 := Int.mul_le_mul (by omega) (by omega) hb.1 (by decide)
  omega
set_option maxRecDepth 100000 in
set_option maxHeartbeats 1000000 in
theorem rpower_any (p a r : Int) (n : Nat) (w : World) (hp : 2 ≤ p ∧ p ≤ 2147483648) (ha : 0 ≤ a ∧ a < p) (hn : n < 18446744073709551616) (hr : a ^ n % p = r) :
    Calls Tryd.prog 64 #[.int .u64 a, .int .u64 (n : Int), .int .u64 p] w fun e w' => e = .returned (.int .u64 r) ∧ w' = w := by
  have HP : Hid ((0 < p ∧ p ≤ 2147483648) ∧ 2 ≤ p) := ⟨⟨by omega, hp.2⟩, hp.1⟩
  have h1p : (1 : Int).tmod p = 1 := by rw [Int.tmod_eq_emod_of_nonneg (by decide)]; exact Int.emod_eq_of_lt (by decide) (by omega)
  have hz : (p == 0) = false := by simp; omega
  have hz1 : ¬ p = 0 := by omega
  have HR : Hid (1 * a ^ n % p = r) := by show _ = _; rw [Int.one_mul]; exact hr
  have HA : Hid (0 ≤ a ∧ a < p) := ha
  obtain ⟨hp0, hp1⟩ := hp
  clear hr ha
  go_enter Tryd.func64, Tryd.ntmps64
  go_wp2
  go_loop [0, 1, 7] (fun s t u => ∃ (av xv : Int) (nv : Nat), s = .int .u64 av ∧ t = .int .u64 (nv : Int) ∧ u = .int .u64 xv ∧ Hid ((0 ≤ av ∧ av < p) ∧ (0 ≤ xv ∧ xv < p) ∧ nv < 18446744073709551616 ∧ xv * av ^ nv % p = r)) (fun _ t _ => (intOf t).toNat)
  case atStart => exact ⟨a, 1, n, rfl, rfl, rfl, HA.out, ⟨by decide, by have := HP.out.2; omega⟩, hn, HR.out⟩
  case round =>
    obtain ⟨av, xv, nv, rfl, rfl, rfl, HS⟩ := hrel
    clear h1p
    by_cases h0 : nv = 0
    · subst h0
      have HE : Hid (xv = r) := by
        show _ = _
        have h := HS.out.2.2.2
        rw [Int.pow_zero, Int.mul_one] at h
        rw [← h]; exact (Int.emod_eq_of_lt HS.out.2.1.1 HS.out.2.1.2).symm
      go_wp2
      go_ret
      exact ⟨ret_int HE.out, rfl⟩
    · have q0 : (0 : Int) < (nv : Int) := by omega
      obtain ⟨m, hm⟩ : ∃ m, nv / 2 = m := ⟨_, rfl⟩
      have hd : (nv : Int).tdiv 2 = (m : Int) := by rw [Int.tdiv_eq_ediv_of_nonneg (by omega)]; omega
      have hd2 : (nv : Int) / 2 = (m : Int) := by omega
      obtain ⟨s1, hs1⟩ : ∃ s, av * av = s := ⟨_, rfl⟩
      have hs1b : 0 ≤ s1 ∧ s1 ≤ 4611686018427387904 := by rw [← hs1]; exact mul_in hp1 HS.out.1 HS.out.1
      obtain ⟨hs10, hs11⟩ := hs1b
      obtain ⟨t1, ht1⟩ : ∃ t, s1 % p = t := ⟨_, rfl⟩
      have htm1 : s1.tmod p = t1 := by rw [Int.tmod_eq_emod_of_nonneg hs10]; exact ht1
      have HT1 : Hid (0 ≤ t1 ∧ t1 < p) := by rw [← ht1]; exact mod_in HP.out.1.1 _
      have hnv : nv < 18446744073709551616 := HS.out.2.2.1
      have hmv : Hid (m < 18446744073709551616 ∧ m < nv) := ⟨by omega, by omega⟩
      by_cases hb : nv % 2 = 1
      · obtain ⟨s2, hs2⟩ : ∃ s, xv * av = s := ⟨_, rfl⟩
        have hs2b : 0 ≤ s2 ∧ s2 ≤ 4611686018427387904 := by rw [← hs2]; exact mul_in hp1 HS.out.2.1 HS.out.1
        obtain ⟨hs20, hs21⟩ := hs2b
        obtain ⟨t2, ht2⟩ : ∃ t, s2 % p = t := ⟨_, rfl⟩
        have htm2 : s2.tmod p = t2 := by rw [Int.tmod_eq_emod_of_nonneg hs20]; exact ht2
        have HT2 : Hid (0 ≤ t2 ∧ t2 < p) := by rw [← ht2]; exact mod_in HP.out.1.1 _
        have HE : Hid (t2 * t1 ^ m % p = r) := by
          show _ = _
          rw [← ht1, ← ht2, ← hs1, ← hs2, ← hm, pow_odd xv av p hb]; exact HS.out.2.2.2
        have hmod : (nv : Int).tmod 2 = 1 := by rw [Int.tmod_eq_emod_of_nonneg (by omega)]; omega
        have hmod2 : (nv : Int) % 2 = 1 := by omega
        clear hm hb h0
        go_wp2
        go_round
        case rel => exact ⟨t1, t2, m, rfl, rfl, rfl, HT1.out, HT2.out, hmv.out.1, HE.out⟩
        case measure => (have := hmv.out.2; simp [intOf]; omega)
      · have HE : Hid (xv * t1 ^ m % p = r) := by
          show _ = _
          rw [← ht1, ← hs1, ← hm, pow_even xv av p (by omega)]; exact HS.out.2.2.2
        have hmod : (nv : Int).tmod 2 = 0 := by rw [Int.tmod_eq_emod_of_nonneg (by omega)]; omega
        have hmod2 : (nv : Int) % 2 = 0 := by omega
        clear hm hb h0
        go_wp2
        go_round
        case rel => exact ⟨t1, xv, m, rfl, rfl, rfl, HT1.out, HS.out.2.1, hmv.out.1, HE.out⟩
        case measure => (have := hmv.out.2; simp [intOf]; omega)
set_option maxHeartbeats 400000 in
theorem rover_any (p a r : Int) (w : World) (hp : 2 ≤ p ∧ p ≤ 2147483648) (ha : 0 ≤ a ∧ a < p) (hr : a ^ (p.toNat - 2) % p = r) :
    Calls Tryd.prog 42 #[.int .u64 a, .int .u64 p] w fun e w' => e = .returned (.int .u64 r) ∧ w' = w := by
  obtain ⟨n, rfl⟩ : ∃ n : Nat, p = (n : Int) + 2 := ⟨p.toNat - 2, by omega⟩
  rw [show ((n : Int) + 2).toNat - 2 = n by omega] at hr
  have hcon := rpower_any ((n : Int) + 2) a r n w hp ha (by omega) hr
  have hn : (n : Int) ≤ 2147483646 := by omega
  have e : (n : Int) + 2 - 2 = (n : Int) := by omega
  clear hr hp ha
  go_enter Tryd.func42, Tryd.ntmps42
  go_wp2_with (go_at_call 64; refine hcon.mono ?_; rintro e w3 ⟨rfl, hw3⟩; replace hw3 := hw3.symm; subst hw3)
  go_ret
  exact ⟨rfl, rfl⟩
/-- each coefficient times c -/
def scL (p c : Int) (f : List Int) : List Int := f.map fun z => z * c % p
/-- a row that has been trimmed -/
def TrimOf (zs L : List Int) : Prop := ∃ n, n ≤ L.length ∧ zs = L.take n ∧ Can zs ∧ ∀ t, n ≤ t → dig L t = 0
theorem TrimOf.can {zs L : List Int} (h : TrimOf zs L) (hc : Can L) : zs = L := by
  obtain ⟨n, h1, rfl, h2, h3⟩ := h
  by_cases hn : n = L.length
  · rw [hn, List.take_length]
  · exfalso
    exact can_dig hc (by omega) (h3 (L.length - 1) (by omega))
theorem TrimOf.dig {zs L : List Int} (h : TrimOf zs L) (t : Nat) : dig zs t = dig L t := by
  obtain ⟨n, h1, rfl, h2, h3⟩ := h
  by_cases hn : t < n
  · exact dig_take hn
  · rw [dig_past (by simp; omega), h3 t (by omega)]
theorem TrimOf.wd {p : Int} {zs L : List Int} (h : TrimOf zs L) (hw : Wd p L) : Wd p zs := by
  obtain ⟨n, h1, rfl, h2, h3⟩ := h
  exact hw.take n
/-- a row of the page's -/
def PageF (p : Int) (w w' : World) (e : Ending) (P : List Int → Prop) : Prop :=
  ∃ ao len cap zs, e = .returned (.slice ao len cap) ∧ FRow p w' ao len cap zs ∧ P zs ∧ Below w.heap.size w w'
set_option maxRecDepth 100000 in
set_option maxHeartbeats 2000000 in
theorem rscale_any (p c : Int) (ao : Option Addr) (la ca : Nat) (f : List Int) (w : World) (hp : 2 ≤ p ∧ p ≤ 2147483648) (hc : 0 ≤ c ∧ c < p) (hf : FRow p w ao la ca f) :
    Calls Tryd.prog 41 #[.slice ao la ca, .int .u64 c, .int .u64 p] w fun e w' => PageF p w w' e fun zs => TrimOf zs (scL p c f) := by
  have HF : Hid (FRow p w ao la ca f ∧ la = f.length ∧ (0 ≤ c ∧ c < p) ∧ (0 < p ∧ p ≤ 2147483648)) := ⟨hf, hf.row.hlen, hc, by omega, hp.2⟩
  have hl4 := hf.short
  have hz : (p == 0) = false := by simp; omega
  have hz1 : ¬ p = 0 := by omega
  obtain ⟨hp0, hp1⟩ := hp
  obtain ⟨i0, hi, hz0, hz1', hz2⟩ := info_parts info64
  clear hf hc
  go_enter Tryd.func41, Tryd.ntmps41
  go_wp2
  go_loopw [7, 8] (fun v i wr => ∃ k : Nat, k ≤ la ∧ i = .int .i64 k ∧ wr.ownsRow w.heap.size 25 1 v k (((scL p c f).take k).map (Value.int .u64)) ∧ Below w.heap.size w wr) (fun _ i _ => la - (intOf i).toNat)
  case atStart => exact ⟨0, Nat.zero_le _, rfl, World.ownsRow_nil _ _ _ _, Below.refl _ _⟩
  case round =>
    obtain ⟨k, hk, rfl, hown, hbel⟩ := hrel
    by_cases hlt : k < la
    · obtain ⟨b, off, rfl, _, hx, hx0, hx1⟩ := (HF.out.1.later hbel).cell HF.out.2.2.2.1 hlt
      obtain ⟨x, hxd⟩ : ∃ x, dig f k = x := ⟨_, rfl⟩
      rw [hxd] at hx hx0 hx1
      obtain ⟨s, hs⟩ : ∃ s, x * c = s := ⟨_, rfl⟩
      have hsb : 0 ≤ s ∧ s ≤ 4611686018427387904 := by rw [← hs]; exact mul_in hp1 ⟨hx0, hx1⟩ HF.out.2.2.1
      obtain ⟨hs0, hs1⟩ := hsb
      obtain ⟨y, hy⟩ : ∃ y, s % p = y := ⟨_, rfl⟩
      have hym : s.tmod p = y := by rw [Int.tmod_eq_emod_of_nonneg hs0]; exact hy
      have h63 : Hid (k + 1 ≤ maxLen) := by show _ ≤ _; unfold maxLen; omega
      have hby : Hid ((k + 1) * 8 ≤ 140737488355328) := by show _ ≤ _; omega
      have hbz : Hid (w.heap.size ≤ wr.heap.size + 1) := by show _ ≤ _; have := hbel.size; omega
      have HX : Hid (((scL p c f).take (k + 1)).map (Value.int .u64) = ((scL p c f).take k).map (Value.int .u64) ++ [.int .u64 y]) := by
        show _ = _
        have hkl : k < (scL p c f).length := by simp [scL]; rw [← HF.out.2.1]; exact hlt
        have a1 : (scL p c f).getD k 0 = y := by
          have : dig (scL p c f) k = y := by rw [scL, mapF_dig _ _ _ (by rw [← HF.out.2.1]; exact hlt), hxd, hs, hy]
          exact this
        rw [take_getD hkl, List.map_append, a1]; rfl
      clear hxd hx0 hx1 hy
      go_wp2_with (at_builtin; refine wpList_append_lies _ rfl _ _ 24 rfl w.heap.size 25 i0 (.int .u64 0) 1 8 Tryd.underlying24 hi hz0 hz1' hz2 rfl (by decide) _ k _ rfl (hown.alloc _) ⟨wr.heap.size, 0, none⟩ 1 1 [.int .u64 y] rfl rfl (World.news_of_block (cs := #[.int .u64 y]) (t := 25) (fr := (0, 0)) (heap_alloc_new wr _)) (by simp [Value.oneCell']) (by decide) h63.out hby.out (by simpa using hbz.out) (wr.heap.size + 1) (by simp) ?_; intro g cp w1 hown1 hgrow hat hltg)
      have hB1 : Below w.heap.size w w1 := (hbel.alloc hbel.size _).grown hgrow (by simpa using hbz.out) (own_from hown)
      go_roundw
      case rel => exact ⟨k + 1, by omega, by go_num, by rw [HX.out]; exact hown1, hB1⟩
      case measure => simp [intOf]; omega
    · obtain rfl : k = la := by omega
      have hlen : (scL p c f).length = k := by simp [scL]; exact HF.out.2.1.symm
      have hkl : Hid ((scL p c f).take k = scL p c f) := List.take_of_length_le (by omega)
      rw [hkl.out] at hown
      obtain ⟨ao1, c1, hv, hrow⟩ := row_of_owns hlen hown
      subst hv
      have hcap := cap_of_owns hown
      have HE : Hid (RowAt wr .u64 ao1 k c1 (scL p c f) ∧ (scL p c f).length = k ∧ Wd p (scL p c f) ∧ Below w.heap.size w wr ∧ c1 ≤ 9223372036854775807) := ⟨hrow, hlen, fun z hz => by
        obtain ⟨y, _, rfl⟩ := List.mem_map.1 hz
        exact mod_in HF.out.2.2.2.1 _, hbel, hcap⟩
      have HT := rtrim_any ao1 k c1 (scL p c f) wr hrow hcap
      clear hrow hown hlen hbel
      go_wp2_with (go_at_call 40; refine HT.mono ?_; rintro e w4 ⟨⟨n, hn, rfl, hcan, hz⟩, hw4⟩; replace hw4 := hw4.symm; subst hw4; have HZ : Hid (n ≤ k ∧ Can ((scL p c f).take n) ∧ ∀ t, n ≤ t → dig (scL p c f) t = 0) := ⟨hn, hcan, hz⟩; clear hn hcan hz)
      go_ret
      exact ⟨_, _, _, (scL p c f).take n, rfl, ⟨HE.out.1.take HZ.out.1, HE.out.2.2.1.take n, by have := HZ.out.1; omega⟩, ⟨n, by rw [HE.out.2.1]; exact HZ.out.1, rfl, HZ.out.2⟩, HE.out.2.2.2.1⟩
set_option maxRecDepth 100000 in
set_option maxHeartbeats 2000000 in
theorem rmonic_any (p : Int) (ao : Option Addr) (la ca : Nat) (f : List Int) (w : World) (hpr : IsPr p) (hp : p ≤ 2147483648) (hf : FRow p w ao la ca f) (hc : Can f) :
    Calls Tryd.prog 10 #[.slice ao la ca, .int .u64 p] w fun e w' => PageF p w w' e fun zs => zs = monL p f := by
  have hp2 := hpr.two
  by_cases h0 : la = 0
  · subst h0
    have hn : f = [] := List.eq_nil_of_length_eq_zero hf.row.hlen.symm
    have HN : Hid (PageF p w w (.returned (.slice none 0 0)) fun zs => zs = monL p f) := ⟨_, _, _, [], rfl, ⟨RowAt.nilRow w .u64, Wd.nil _, by decide⟩, by rw [hn]; rfl, Below.refl _ _⟩
    clear hn hf hp hpr hp2 hc
    go_enter Tryd.func10, Tryd.ntmps10
    go_wp2
    go_ret
    exact HN.out
  · have hla4 := hf.short
    obtain ⟨b, off, rfl, hb, hcl, hc0, hc1⟩ := hf.cell (p := p) (by omega) (k := la - 1) (by omega)
    have hll : Hid (la = f.length) := hf.row.hlen
    obtain ⟨a, ha⟩ : ∃ a, dig f (la - 1) = a := ⟨_, rfl⟩
    rw [ha] at hcl hc0 hc1
    obtain ⟨c, hcc⟩ : ∃ c, a ^ (p.toNat - 2) % p = c := ⟨_, rfl⟩
    have HO : Hid (∀ W, Calls Tryd.prog 42 #[.int .u64 a, .int .u64 p] W fun e w' => e = .returned (.int .u64 c) ∧ w' = W) := fun W => rover_any p a c W ⟨hp2, hp⟩ ⟨hc0, hc1⟩ hcc
    have HC : Hid (leadInv p f = c) := by show _ = _; rw [leadInv, ← hll.out, ha, hcc]
    have HS : Hid (Calls Tryd.prog 41 #[.slice (some ⟨b, off, none⟩) la ca, .int .u64 c, .int .u64 p] w fun e w' => PageF p w w' e fun zs => zs = monL p f) := by
      refine (rscale_any p c _ la ca f w ⟨hp2, hp⟩ (by rw [← HC.out]; exact leadInv_in (by omega) f) hf).mono fun e w' h => ?_
      obtain ⟨o, l, k, zs, he, h1, h3, h4⟩ := h
      have e2 : scL p c f = monL p f := by rw [← HC.out]; rfl
      rw [e2] at h3
      exact ⟨o, l, k, zs, he, h1, h3.can (monL_pm hpr ⟨hf.wd, hc⟩).can, h4⟩
    have e0 : ((la : Int) == 0) = false := by simp; omega
    have e1 : (la : Int) - 1 = ((la - 1 : Nat) : Int) := by omega
    have e2 : la - 1 < la := by omega
    clear hf hc hpr hp2 ha hcc h0
    go_enter Tryd.func10, Tryd.ntmps10
    go_wp2_with (first
      | (go_at_call 42; refine (HO.out _).mono ?_; rintro e w1 ⟨rfl, hw1⟩; replace hw1 := hw1.symm; subst hw1)
      | (go_at_call 41; refine HS.out.mono ?_; rintro e w2 ⟨o, l, k, zs, rfl, hrest⟩))
    go_ret
    exact ⟨o, l, k, zs, rfl, hrest⟩
end Go.Proofs.YtnniipekcbjloaaDoor
/-
  PE: in plain: division by steps from the top; walks: the page's Times and DivMod modulo p.
-/
namespace Go.Proofs.YtnniipekcbjloaaDoor
open Go.RowKit Go.Shelf
set_option linter.unusedVariables false
set_option linter.unusedSimpArgs false
theorem rmL_set (p : Int) (L : List Int) (j : Nat) (v : Int) : rmL p (L.set j v) = (rmL p L).set j (v % p) := by simp [rmL, List.map_set]
theorem add_mod_mul (y s p : Int) : (y % p + s % p) % p = (y + s) % p := (Int.add_emod y s p).symm
set_option maxRecDepth 100000 in
set_option maxHeartbeats 4000000 in
theorem rtimesF_any (p : Int) (ao bo : Option Addr) (la ca lb cb : Nat) (f g : List Int) (w : World) (hpr : IsPr p) (hp : p ≤ 2147483648) (hf : FRow p w ao la ca f) (hg : FRow p w bo lb cb g) (hfp : Pm p f) (hgp : Pm p g) (hl : la + lb ≤ 4194304) :
    Calls Tryd.prog 13 #[.slice ao la ca, .slice bo lb cb, .int .u64 p] w fun e w' => PageF p w w' e fun zs => zs = prodL p f g := by
  have hp2 := hpr.two
  by_cases h0 : la = 0 ∨ lb = 0
  · have hn : f = [] ∨ g = [] := by
      have h1 := hf.row.hlen; have h2 := hg.row.hlen
      rcases h0 with h | h
      · exact Or.inl (List.eq_nil_of_length_eq_zero (by omega))
      · exact Or.inr (List.eq_nil_of_length_eq_zero (by omega))
    have HN : Hid (PageF p w w (.returned (.slice none 0 0)) fun zs => zs = prodL p f g) := ⟨_, _, _, [], rfl, ⟨RowAt.nilRow w .u64, Wd.nil _, by decide⟩, by rw [prodL, if_pos hn], Below.refl _ _⟩
    clear hn hf hg hp hpr hfp hgp hp2
    by_cases ha : la = 0
    · subst ha
      go_enter Tryd.func13, Tryd.ntmps13
      go_wp2
      go_ret
      exact HN.out
    · have q1 : ((la : Int) == 0) = false := by simp; omega
      have hb : lb = 0 := by omega
      subst hb
      clear h0 ha
      go_enter Tryd.func13, Tryd.ntmps13
      go_wp2
      go_ret
      exact HN.out
  · have hla : 0 < la := by omega
    have hlb : 0 < lb := by omega
    have hn : ¬ (f = [] ∨ g = []) := by
      have h1 := hf.row.hlen; have h2 := hg.row.hlen
      intro h
      rcases h with h | h <;> subst h <;> simp at h1 h2 <;> omega
    have HF : Hid (FRow p w ao la ca f ∧ FRow p w bo lb cb g ∧ la = f.length ∧ lb = g.length ∧ (0 < p ∧ p ≤ 2147483648)) := ⟨hf, hg, hf.row.hlen, hg.row.hlen, by omega, hp⟩
    have HPM : Hid (prodL p f g = rmL p (mulL f g) ∧ Pm p (rmL p (mulL f g))) := ⟨by rw [prodL, if_neg hn], mulM_pm hpr hfp hgp (by rw [← HF.out.2.2.1]; exact hla) (by rw [← HF.out.2.2.2.1]; exact hlb)⟩
    obtain ⟨N, hN⟩ : ∃ N : Nat, N + 1 = la + lb := ⟨la + lb - 1, by omega⟩
    have hNI : (la : Int) + (lb : Int) - 1 = (N : Int) := by omega
    have HN : Hid (N = f.length + g.length - 1 ∧ N + 1 = la + lb) := ⟨by have := HF.out.2.2; omega, hN⟩
    have hN4 : N ≤ 4194304 := by omega
    have q1 : ((la : Int) == 0) = false := by simp; omega
    have q2 : ((lb : Int) == 0) = false := by simp; omega
    have hz : (p == 0) = false := by simp; omega
    have hz1 : ¬ p = 0 := by omega
    have hp0 : 0 < p := by omega
    obtain ⟨i0, hi, hz0, hz1', hz2⟩ := info_parts info64
    have b1 : Hid (i0.bytes * N ≤ 281474976710656) := by show _ ≤ _; rw [hz2]; omega
    have b2 : Hid (N ≤ maxLen) := by show _ ≤ _; unfold maxLen; omega
    clear hf hg hpr hfp hgp hp2 hn h0 hN
    go_enter Tryd.func13, Tryd.ntmps13
    go_wp2_with (at_make; refine wpList_make_full _ rfl (.tmp 23) (.tmp 23) 24 rfl w.heap.size 25 i0 (.int .u64 0) 1 Tryd.underlying24 hi hz0 hz1' .i64 .i64 _ _ N rfl rfl rfl rfl b1.out b2.out (Nat.le_refl _) ?_; intro w1 hown1 hgrow1)
    have HM : Hid (Blk w1 w.heap.size .u64 25 (List.replicate N 0) ∧ Below w.heap.size w w1) := ⟨made_blk hown1, grown_below hgrow1⟩
    clear hown1 hgrow1 hNI
    obtain ⟨G, hG⟩ : ∃ G, G = w.heap.size := ⟨_, rfl⟩
    rw [← hG] at HM ⊢
    have HG : Hid (G = w.heap.size) := hG
    clear hG
    go_loopw [8] (fun ii wr => ∃ (i : Nat) (L : List Int), i ≤ la ∧ ii = .int .i64 (i : Int) ∧ Hid (Blk wr G .u64 25 (rmL p L) ∧ PMulSt f g i 0 L ∧ Below w.heap.size w wr)) (fun ii _ => la - (intOf ii).toNat)
    case atStart => exact ⟨0, List.replicate N 0, Nat.zero_le _, rfl, by have := HM.out.1; simpa [rmL] using this, by rw [HN.out.1]; exact PMulSt.start f g, by have := HM.out.2; rwa [HG.out] at this⟩
    case round =>
      obtain ⟨i, L, hi', rfl, HS⟩ := hrel
      clear HM
      by_cases hlt : i < la
      · have y1 : (i : Int) < (la : Int) := by omega
        have y2 : (0 : Int) ≤ (i : Int) := by omega
        go_wp2
        go_loopw [9] (fun kk w3 => ∃ (k : Nat) (M : List Int), k ≤ lb ∧ kk = .int .i64 (k : Int) ∧ Hid (Blk w3 G .u64 25 (rmL p M) ∧ PMulSt f g i k M ∧ Below w.heap.size w w3)) (fun kk _ => lb - (intOf kk).toNat)
        case atStart => exact ⟨0, L, Nat.zero_le _, rfl, HS.out⟩
        case round =>
          obtain ⟨k, M, hk, rfl, HT⟩ := hrel
          by_cases hkl : k < lb
          · have hMl : M.length = N := by rw [HT.out.2.1.1]; exact HN.out.1.symm
            have hik : i + k < (rmL p M).length := by rw [rmL_len, hMl]; have := HN.out.2; omega
            obtain ⟨b', o1, rfl, _, hx, hx0, hx1⟩ := (HF.out.1.later HT.out.2.2).cell hp0 hlt
            obtain ⟨b'', o2, rfl, _, hzc, hy0, hy1⟩ := (HF.out.2.1.later HT.out.2.2).cell hp0 hkl
            have hl0 := HT.out.1.cell hik
            have hfz := HT.out.1.frozen
            rw [rmL_dig] at hl0
            obtain ⟨x, hxd⟩ : ∃ x, dig f i = x := ⟨_, rfl⟩
            obtain ⟨z, hzd⟩ : ∃ z, dig g k = z := ⟨_, rfl⟩
            obtain ⟨y, hyd⟩ : ∃ y, dig M (i + k) % p = y := ⟨_, rfl⟩
            rw [hxd] at hx hx0 hx1
            rw [hzd] at hzc hy0 hy1
            rw [hyd] at hl0
            have hyb : 0 ≤ y ∧ y < p := by rw [← hyd]; exact mod_in hp0 _
            obtain ⟨hyb0, hyb1⟩ := hyb
            obtain ⟨s, hs⟩ : ∃ s, x * z = s := ⟨_, rfl⟩
            have hsb : 0 ≤ s ∧ s ≤ 4611686018427387904 := by rw [← hs]; exact mul_in hp ⟨hx0, hx1⟩ ⟨hy0, hy1⟩
            obtain ⟨hs0, hs1⟩ := hsb
            obtain ⟨t, ht⟩ : ∃ t, s % p = t := ⟨_, rfl⟩
            have htb : 0 ≤ t ∧ t < p := by rw [← ht]; exact mod_in hp0 _
            obtain ⟨ht0, ht1⟩ := htb
            have htm : s.tmod p = t := by rw [Int.tmod_eq_emod_of_nonneg hs0]; exact ht
            obtain ⟨v, hv⟩ : ∃ v, (y + t) % p = v := ⟨_, rfl⟩
            have hvm : (y + t).tmod p = v := by rw [Int.tmod_eq_emod_of_nonneg (by omega)]; exact hv
            have HV : Hid ((rmL p (M.set (i + k) (dig M (i + k) + dig f i * dig g k))) = (rmL p M).set (i + k) v) := by
              show _ = _
              rw [rmL_set, hxd, hzd, hs, ← hv, ← hyd, ← ht, add_mod_mul]
            have HST : Hid (PMulSt f g i (k + 1) (M.set (i + k) (dig M (i + k) + dig f i * dig g k))) := HT.out.2.1.step (by rw [← HF.out.2.2.1]; exact hlt) (by rw [← HF.out.2.2.2.1]; exact hkl)
            have z3 : (0 : Int) ≤ (k : Int) := by omega
            have z4 : (k : Int) < (lb : Int) := by omega
            have z5 : IntKind.i64.wrap ((i : Int) + (k : Int)) = (i : Int) + (k : Int) := by rw [IntKind.wrap_i64]; omega
            have z6 : ((i : Int) + (k : Int)).toNat = i + k := by omega
            have z7 : (0 : Int) ≤ (i : Int) + (k : Int) := by omega
            have z8 : (i : Int) + (k : Int) < (N : Int) := by have := HN.out.2; omega
            clear hMl hxd hzd hyd ht hv hik
            go_wp2
            go_region
            go_wp2
            go_roundw
            case rel => exact ⟨k + 1, _, by omega, by go_num, by rw [HV.out]; exact (HT.out.1.set (i + k) v).drew, HST.out, (HT.out.2.2.setCell (p := ⟨G, i + k, none⟩) (by rw [HG.out]; exact Nat.le_refl _) _).drew⟩
            case measure => simp [intOf]; omega
          · obtain rfl : k = lb := by omega
            have HO : Hid (PMulSt f g (i + 1) 0 M) := PMulSt.row (by have := HT.out.2.1; rw [← HF.out.2.2.2.1]; exact this) (by rw [← HF.out.2.2.1]; exact hlt)
            go_wp2
            go_roundw
            case rel => exact ⟨i + 1, M, by omega, by go_num, HT.out.1, HO.out, HT.out.2.2⟩
            case measure => simp [intOf]; omega
      · obtain rfl : i = la := by omega
        have HD : Hid (L = mulL f g ∧ N = (rmL p (mulL f g)).length) := by
          have e1 : L = mulL f g := PMulSt.done (by have := HS.out.2.1; rw [← HF.out.2.2.1]; exact this) (by rw [← HF.out.2.2.2.1]; exact hlb)
          exact ⟨e1, by rw [rmL_len, mulL_len _ _ (by rw [← HF.out.2.2.2.1]; exact hlb)]; exact HN.out.1⟩
        have HR : Hid (RowAt wr .u64 (some ⟨G, 0, none⟩) N N (rmL p (mulL f g))) := by
          have := HS.out.1; rw [HD.out.1] at this
          exact (Own.whole (B := 0) this (Nat.zero_le _) HD.out.2).row
        have HT := rtrim_any (some ⟨G, 0, none⟩) N N (rmL p (mulL f g)) wr HR.out (by omega)
        have y1 : ¬ (i : Int) < (i : Int) := by omega
        go_wp2_with (go_at_call 40; refine HT.mono ?_; rintro e w4 ⟨⟨n, hn, rfl, hcan, hz⟩, hw4⟩; replace hw4 := hw4.symm; subst hw4; have HZ : Hid (n ≤ N ∧ Can ((rmL p (mulL f g)).take n) ∧ ∀ t, n ≤ t → dig (rmL p (mulL f g)) t = 0) := ⟨hn, hcan, hz⟩; clear hn hcan hz)
        go_ret
        have e2 : (rmL p (mulL f g)).take n = rmL p (mulL f g) := TrimOf.can ⟨n, by rw [← HD.out.2]; exact HZ.out.1, rfl, HZ.out.2⟩ HPM.out.2.can
        exact ⟨_, _, _, (rmL p (mulL f g)).take n, rfl, ⟨HR.out.take HZ.out.1, HPM.out.2.wd.take n, by have := HZ.out.1; omega⟩, by rw [HPM.out.1]; exact e2, HS.out.2.2⟩
end Go.Proofs.YtnniipekcbjloaaDoor
