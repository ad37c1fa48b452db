/-
  A pack of walks and facts: YF, YG, YK.
-/
import Derived.Test.YtgcahkhpbcklfaaGreatDoorPJ20
import Derived.Test.YtgcahkhpbcklfaaGreatDoorPJ24
import Derived.Test.YtgcahkhpbcklfaaGreatDoorPJ25
set_option maxRecDepth 100000
set_option maxHeartbeats 40000000
set_option linter.unusedVariables false
set_option linter.unusedSimpArgs false
namespace Go.Proofs.YtgcahkhpbcklfaaGreatDoor
open Go.RowKit
theorem lim_at_set {M : Nat} {l : List Int} {j : Nat} {v : Int} (h : Lim M l) (hv : lim v ≤ M) : Lim M (l.set j v) := by
 have := lim_set (D := 0) (j := j) h (by omega : lim v ≤ M + 0)
 exact this
theorem two_pos4 (s : Nat) : 0 < 2 ^ s := Nat.pow_pos (by decide)
theorem pltakeOut_any (B g gq gd gp bb off cb k m : Nat) (a b P : List Int) (L : Int) (w : World) (h : PS B w g gq gd gp (some ⟨bb, off, none⟩) (m + 1) cb k b P a (List.replicate k 0))
  (hk : a.length = m + k) (hPt : ∀ t, t < k → dig P t = L ^ t) (hbl : b.length = m + 1) (hL : dig b m = L) (hla : Lim 3 a) (hlb : Lim 3 b) (hPL : Lim 100000 P) (hm : m ≤ 11) (hkk : k ≤ 11) :
  Calls Tryz.prog 71 #[.slice (some ⟨g, 0, none⟩) (m + k) (m + k), .int .i64 ((m : Int) + 1), .func (.func 72) #[.pointer (some ⟨gd, 0, none⟩)] #[]] w fun e w' => e = .returned (.bool true) ∧ Below B w w' ∧ ∃ l q, PDv a b k 0 l q ∧ PS B w' g gq gd gp (some ⟨bb, off, none⟩) (m + 1) cb k b P l q ∧ Lim 90000 l ∧ Lim 90000 q := by
 have HP : Hid (PS B w g gq gd gp (some ⟨bb, off, none⟩) (m + 1) cb k b P a (List.replicate k 0)) := h
 have HR : Hid (a.length = m + k ∧ (∀ t, t < k → dig P t = L ^ t) ∧ b.length = m + 1 ∧ dig b m = L ∧ Lim 3 a ∧ Lim 3 b ∧ Lim 100000 P ∧ lim L ≤ 3) := ⟨hk, hPt, hbl, hL, hla, hlb, hPL, by rw [← hL]; exact hlb m⟩
 have z0 : ((m + k : Nat) : Int) - ((m + 1 : Nat) : Int) = (k : Int) - 1 := by omega
 have z1 : (m : Int) + (k : Int) - ((m : Int) + 1) = (k : Int) - 1 := by omega
 clear h hk hPt hbl hL hla hlb hPL
 go_enter Tryz.func71, Tryz.ntmps71
 go_wp2
 go_loopw [7] (fun ii wr => ∃ (J : Nat) (l q : List Int), J ≤ k ∧ ii = .int .i64 ((J : Int) - 1) ∧ PS B wr g gq gd gp (some ⟨bb, off, none⟩) (m + 1) cb k b P l q ∧ PDv a b k J l q ∧ Below B w wr ∧ Lim (43 * 2 ^ (k - J) - 7) l ∧ Lim (43 * 2 ^ (k - J) + 24) q) (fun ii _ => (intOf ii + 1).toNat)
 case atStart =>
  refine ⟨k, a, List.replicate k 0, Nat.le_refl _, rfl, HP.out, PDv.start (by have := HR.out.2.2.1; omega) (by have := HR.out; omega), Below.refl _ _, ?_, ?_⟩
  ·
   rw [Nat.sub_self]; exact HR.out.2.2.2.2.1.mono (by decide)
  ·
   intro t; rw [rep_dig, lim_zero]; omega
 case round =>
  obtain ⟨J, l, q, hJ, rfl, hps, hpd, hbel, hM, hMq⟩ := hrel
  have HT : Hid (PS B wr g gq gd gp (some ⟨bb, off, none⟩) (m + 1) cb k b P l q ∧ PDv a b k J l q ∧ Below B w wr ∧ Lim (43 * 2 ^ (k - J) - 7) l ∧ Lim (43 * 2 ^ (k - J) + 24) q) := ⟨hps, hpd, hbel, hM, hMq⟩
  clear hps hpd hbel hM hMq
  by_cases hJ0 : J = 0
  ·
   subst hJ0
   have HE : Hid (43 * 2 ^ (k - 0) + 24 ≤ 90000) := by
    have h1 : 2 ^ (k - 0) ≤ 2 ^ 11 := Nat.pow_le_pow_right (by decide) (by omega)
    show _ ≤ _; omega
   go_wp2
   go_ret
   exact ⟨rfl, HT.out.2.2.1, l, q, HT.out.2.1, HT.out.1, HT.out.2.2.2.1.mono (by have := HE.out; omega), HT.out.2.2.2.2.mono HE.out⟩
  ·
   obtain ⟨i, rfl⟩ : ∃ i, J = i + 1 := ⟨J - 1, by omega⟩
   have hki : ((i + 1 : Nat) : Int) - 1 = (i : Int) := by omega
   rw [hki]
   have hik : i < k := by omega
   obtain ⟨s, hs⟩ : ∃ s, s = k - (i + 1) := ⟨_, rfl⟩
   obtain ⟨M, hM⟩ : ∃ M, M = 43 * 2 ^ s - 7 := ⟨_, rfl⟩
   have HS : Hid (36 ≤ M ∧ M ≤ 1000000 ∧ 2 * M + 7 = 43 * 2 ^ (k - i) - 7 ∧ M + 31 ≤ 43 * 2 ^ (k - i) + 24 ∧ 43 * 2 ^ s + 24 ≤ 43 * 2 ^ (k - i) + 24) := by
    have h1 : 2 ^ s ≤ 2 ^ 11 := Nat.pow_le_pow_right (by decide) (by omega)
    have h2 := two_pos4 s
    have h3 : 2 ^ (k - i) = 2 * 2 ^ s := by rw [show k - i = s + 1 by omega, Nat.pow_succ]; omega
    rw [h3]
    exact ⟨by omega, by omega, by omega, by omega, by omega⟩
   obtain ⟨r1, hr1⟩ : ∃ r1, r1 = l.set i (dig l i * L ^ (k - 1 - i)) := ⟨_, rfl⟩
   obtain ⟨top, htop⟩ : ∃ top, top = dig r1 (i + m) := ⟨_, rfl⟩
   have hMl : Lim M l := by have h1 := HT.out.2.2.2.1; rw [← hs, ← hM] at h1; exact h1
   have hMr : Lim M r1 := by
    rw [hr1]
    refine lim_at_set hMl ?_
    have h1 := lim_mul (dig l i) (L ^ (k - 1 - i))
    have h2 := lim_powK L 3 (k - 1 - i) HR.out.2.2.2.2.2.2.2
    have h3 : lim (dig l i) ≤ 3 := by rw [HT.out.2.1.low i (by omega)]; exact HR.out.2.2.2.2.1 i
    have := HS.out
    omega
   have hcon : Calls Tryz.prog 72 #[.pointer (some ⟨gd, 0, none⟩), .slice (some ⟨g, i * 2, none⟩) (m + 1) (m + 1), .int .i64 (i : Int)] wr fun e w' => e = .returned (.bool true) ∧ Below B wr w' ∧ ∃ l', PdSt r1 b top L i m l' ∧ PS B w' g gq gd gp (some ⟨bb, off, none⟩) (m + 1) cb k b P l' (q.set i (top * L ^ i)) := step_any B g gq gd gp bb off cb k m i M b P l q r1 L top wr HT.out.1 hik (by rw [HT.out.2.1.lr]; exact HR.out.1) HT.out.2.1.lq HR.out.2.1 HR.out.2.2.1 HR.out.2.2.2.1 hr1 htop hMr hMl HS.out.2.1 (HR.out.2.2.2.2.2.1.mono (by decide)) HR.out.2.2.2.2.2.2.1 (by omega) (by omega)
   have HX : Hid (r1 = l.set i (dig l i * L ^ (k - 1 - i)) ∧ top = dig r1 (i + m) ∧ Lim M r1 ∧ s = k - (i + 1)) := ⟨hr1, htop, hMr, hs⟩
   clear hr1 htop hMl hMr hM hs hJ0 hki
   have y1 : (0 : Int) ≤ (i : Int) := by omega
   have y2 : (i : Int) ≤ (i : Int) + ((m : Int) + 1) := by omega
   have y3 : (i : Int) + ((m : Int) + 1) ≤ (m : Int) + (k : Int) := by omega
   have y4 : (i : Int) + ((m : Int) + 1) - (i : Int) = ((m + 1 : Nat) : Int) := by omega
   have y5 : IntKind.i64.wrap ((i : Int) + ((m : Int) + 1)) = (i : Int) + ((m : Int) + 1) := by rw [IntKind.wrap_i64]; omega
   go_wp2_with (go_at_call 72; refine hcon.mono ?_; rintro e w1 ⟨rfl, hb1, l', hl', hps'⟩)
   go_roundw
   case rel =>
    have h1 : PdSt (l.set i (dig l i * L ^ (k - 1 - i))) b top L i (b.length - 1) l' := by rw [← HX.out.1, show b.length - 1 = m by have := HR.out.2.2.1; omega]; exact hl'
    have hLb : L = dig b (b.length - 1) := by rw [show b.length - 1 = m by have := HR.out.2.2.1; omega]; exact HR.out.2.2.2.1.symm
    have hLm : lim (dig b m) ≤ 3 := HR.out.2.2.2.2.2.1 m
    have htp : lim top ≤ M := by rw [HX.out.2.1]; exact HX.out.2.2.1 _
    refine ⟨i, l', q.set i (top * L ^ i), by omega, by go_num, hps', HT.out.2.1.step hLb (by have := HR.out.2.2.1; omega) (by have := HR.out; omega) hik (by rw [← HX.out.1, show b.length - 1 = m by have := HR.out.2.2.1; omega]; exact HX.out.2.1) h1, HT.out.2.2.1.trans hb1, ?_, ?_⟩
    ·
     have h2 := hl'.lim HX.out.2.2.1 HR.out.2.2.2.2.2.1 htp HR.out.2.2.2.2.2.2.2
     rw [← HS.out.2.2.1]; exact h2.mono (by omega)
    ·
     refine lim_at_set (HT.out.2.2.2.2.mono (by have := HS.out.2.2.2.2; rw [← HX.out.2.2.2]; exact this)) ?_
     have h2 := lim_mul top (L ^ i)
     have h3 := lim_powK L 3 i HR.out.2.2.2.2.2.2.2
     have := HS.out.2.2.2.1
     omega
   case measure => simp [intOf]
end Go.Proofs.YtgcahkhpbcklfaaGreatDoor
namespace Go.Proofs.YtgcahkhpbcklfaaGreatDoor
open Go.RowKit
theorem PolyAt.trim {w : World} {ao ao' : Option Addr} {len cap m : Nat} {p : List Int} (h : PolyAt w ao len cap p) (hm : m = trimN p p.length) (h0 : m = 0 → ao' = none) (h1 : 0 < m → ao' = ao) : PolyAt w ao' m m (trimL p) := by
 rcases Nat.eq_zero_or_pos m with e | e
 ·
  have h2 : trimL p = [] := List.eq_nil_of_length_eq_zero (by rw [trimL_len, ← hm]; exact e)
  rw [h2, h0 e, e]; exact PolyAt.nilPoly _
 ·
  have hl : m ≤ len := by rw [hm, h.hlen]; exact trimN_le _ _
  have h2 := h.take hl
  rw [h1 e]
  refine ⟨by rw [trimL_len]; exact hm, Nat.le_refl _, fun e2 => ?_, ?_⟩
  ·
   have := h.hnil e2; have := h.hcap; omega
  ·
   have h3 := h2.hat
   rw [hm] at h3
   rw [hm]; exact h3
theorem take_lim {K n : Nat} {p : List Int} (h : Lim K p) : Lim K (p.take n) := fun t => by
 by_cases e : t < n
 ·
  rw [dig_take e]; exact h t
 ·
  rw [dig_past (by rw [List.length_take]; omega), lim_zero]; omega
theorem ev_trim (l : List Int) (x : Int) : ev (trimL l) x = ev l x := by
 rw [evS_ev (trimL l) x, trimL_len, evS_ev l x]
 have h := trimN_le l l.length
 have h1 : evS (dig (trimL l)) x (trimN l l.length) = evS (dig l) x (trimN l l.length) := evS_congr fun t _ => trimL_dig l t
 rw [h1]
 have h2 : ∀ n, trimN l l.length + n ≤ l.length → evS (dig l) x (trimN l l.length + n) = evS (dig l) x (trimN l l.length) := by
  intro n
  induction n with
  | zero => intro _; rfl
  | succ n ih =>
   intro hn
   rw [← Nat.add_assoc, evS, ih (by omega), trimN_past l l.length _ (by omega) (by omega)]
   simp
 have h3 := h2 (l.length - trimN l l.length) (by omega)
 rw [show trimN l l.length + (l.length - trimN l l.length) = l.length by omega] at h3
 exact h3.symm
theorem pseudoDivided_any (ao bo : Option Addr) (ca cb k m : Nat) (a b : List Int) (w : World) (ha : PolyAt w ao (m + k) ca a) (hb : PolyAt w bo (m + 1) cb b) (hk0 : 0 < k) (hla : Lim 3 a) (hlb : Lim 3 b) (hm : m ≤ 11) (hkk : k ≤ 11)
  (hcop : ∀ W, Below w.heap.size w W → Calls Tryz.prog 45 #[.slice ao (m + k) ca] W fun e w' => NewPB W w' e a) :
  Calls Tryz.prog 46 #[.slice ao (m + k) ca, .slice bo (m + 1) cb] w fun e w' => ∃ qo lq ro lr q r, e = .returned (.tuple #[.slice qo lq lq, .slice ro lr lr]) ∧ PolyAt w' qo lq lq q ∧ PolyAt w' ro lr lr r ∧ Lead q ∧ Lead r ∧ Lim 90000 q ∧ Lim 90000 r ∧ lr ≤ m ∧ lq ≤ k ∧ (∀ x, dig b m ^ k * ev a x = ev q x * ev b x + ev r x) ∧ Below w.heap.size w w' := by
 obtain ⟨bb, off, _, _, _, _, rfl, hbc, _, _⟩ := hb.at (show 0 < m + 1 by omega)
 have HR : Hid (PolyAt w ao (m + k) ca a ∧ PolyAt w (some ⟨bb, off, none⟩) (m + 1) cb b ∧ Lim 3 a ∧ Lim 3 b ∧ bb < w.heap.size ∧ a.length = m + k ∧ b.length = m + 1) := ⟨ha, hb, hla, hlb, cell_lt hbc, ha.hlen.symm, hb.hlen.symm⟩
 clear ha hb hla hlb hbc
 obtain ⟨L, hL⟩ : ∃ L, L = dig b m := ⟨_, rfl⟩
 have HL : Hid (L = dig b m ∧ lim L ≤ 3) := ⟨hL, by rw [hL]; exact HR.out.2.2.2.1 m⟩
 rw [← hL]
 clear hL
 have z1 : (m : Int) + (k : Int) - ((m : Int) + 1) + 1 = (k : Int) := by omega
 have z2 : IntKind.i64.wrap ((m : Int) + (k : Int) - ((m : Int) + 1)) = (m : Int) + (k : Int) - ((m : Int) + 1) := by rw [IntKind.wrap_i64]; omega
 have z3 : IntKind.i64.wrap (k : Int) = (k : Int) := by rw [IntKind.wrap_i64]; omega
 have HPL : Hid (Lim 100000 (tab k fun t => L ^ t)) := tab_lim fun t ht => by have := lim_powK L 3 t HL.out.2; omega
 go_enter Tryz.func46, Tryz.ntmps46
 go_wp2_with (first
  | (go_at_call 70; refine (pllead0_any (some ⟨bb, off, none⟩) m cb b _ HR.out.2.1 (by omega)).mono ?_; rw [← HL.out.1]; rintro e w1 ⟨n1, o1, l1, c1, rfl, hi1, hb1⟩; have hl1 : l1 ≤ 3 := (by rw [hi1.lim]; exact HL.out.2); have H1 : Hid (IntAt w1 n1 o1 l1 c1 L) := hi1; clear hi1)
  | (go_at_call 69; refine (powersOf_any n1 o1 l1 c1 k L _ H1.out (by omega) hk0 (by omega)).mono ?_; rintro e w2 ⟨gp, rfl, hP, hgp0, hgp, hb2⟩; have H2 : Hid (PolyAt w2 (some ⟨gp, 0, none⟩) k k (tab k fun t => L ^ t) ∧ gp < w2.heap.size ∧ Below w.heap.size w w2) := ⟨hP, hgp, bnext hb1 hb2⟩; clear hP hgp0 hgp hb2 hb1)
  | (go_at_call 67; refine (room_any k _ (by omega)).mono ?_; rintro e w3 ⟨rfl, hB3, hg3, hb3⟩; have H3 : Hid (PBlk w3 w2.heap.size (List.replicate k 0) ∧ w2.heap.size < w3.heap.size ∧ Below w2.heap.size w2 w3) := ⟨(hB3 0).blk, hg3, hb3⟩; clear hB3 hg3 hb3)
  | (go_at_call 45; have hA : Below w3.heap.size w3 (w3.alloc (.cells #[.slice (some ⟨bb, off, none⟩) (m + 1) cb, .slice (some ⟨gp, 0, none⟩) k k, .slice (some ⟨w2.heap.size, 0, none⟩) k k] 97)) := (Below.refl _ _).alloc (Nat.le_refl _) _; have hbD := bnext H2.out.2.2 (bnext H3.out.2.2 hA); refine (hcop _ hbD).mono ?_; rintro e w4 hnew; obtain ⟨g, rfl, H4⟩ : ∃ g, e = .returned (.slice (some ⟨g, 0, none⟩) (m + k) (m + k)) ∧ Hid (PS w2.heap.size w4 g w2.heap.size w3.heap.size gp (some ⟨bb, off, none⟩) (m + 1) cb k b (tab k fun t => L ^ t) a (List.replicate k 0) ∧ Below w.heap.size w w4) := (by
    rcases hnew with ⟨h0, _⟩ | ⟨_, g, he, hpb, hg1, hg2, hbw⟩
    ·
     exact absurd h0 (by have := HR.out.2.2.2.2.2.1; omega)
    ·
     have hgD : w3.heap.size < g := by have h := hg1; simp at h; omega
     have hb34 := bnext hA hbw
     have hd : ∀ j v, #[Value.slice (some ⟨bb, off, none⟩) (m + 1) cb, .slice (some ⟨gp, 0, none⟩) k k, .slice (some ⟨w2.heap.size, 0, none⟩) k k][j]? = some v → w4.cell? ⟨w3.heap.size, j, none⟩ = some v := fun j v hv => by
      refine (hbw.cell (p := ⟨w3.heap.size, j, none⟩) (by simp)).trans ?_
      have := Cells.new w3 #[Value.slice (some ⟨bb, off, none⟩) (m + 1) cb, .slice (some ⟨gp, 0, none⟩) k k, .slice (some ⟨w2.heap.size, 0, none⟩) k k] 97 j v (by simpa using hv)
      exact this
     rw [HR.out.2.2.2.2.2.1] at he
     have hwg := H2.out.2.2.size
     exact ⟨g, he, ⟨⟨Nat.le_refl _, H3.out.2.1, hgD, hg2, H2.out.2.1⟩, hd 0 _ rfl, hd 1 _ rfl, hd 2 _ rfl, HR.out.2.1.later (bnext hbD hbw), fun x hx => by cases hx; have := HR.out.2.2.2.2.1; show bb < _; omega, H2.out.1.later (bnext H3.out.2.2 hb34), hpb, H3.out.1.later hb34 H3.out.2.1⟩, bnext hbD hbw⟩); clear hnew hA hbD)
  | (go_at_call 71; refine (pltakeOut_any w2.heap.size g w2.heap.size w3.heap.size gp bb off cb k m a b (tab k fun t => L ^ t) L _ H4.out.1 HR.out.2.2.2.2.2.1 (fun t ht => tab_dig _ ht) HR.out.2.2.2.2.2.2 HL.out.1.symm HR.out.2.2.1 HR.out.2.2.2.1 HPL.out hm hkk).mono ?_; rintro e w5 ⟨rfl, hb5, l, q, hpd, hps, hl5, hq5⟩; have H5 : Hid (PDv a b k 0 l q ∧ PS w2.heap.size w5 g w2.heap.size w3.heap.size gp (some ⟨bb, off, none⟩) (m + 1) cb k b (tab k fun t => L ^ t) l q ∧ Lim 90000 l ∧ Lim 90000 q ∧ Below w.heap.size w w5) := ⟨hpd, hps, hl5, hq5, (H4.out.2.trans (hb5.mono H2.out.2.2.size))⟩; clear hpd hps hl5 hq5 hb5; have g0 := H5.out.2.1.d2))
 have HQ : Hid (PolyAt w5 (some ⟨w2.heap.size, 0, none⟩) k k q ∧ PolyAt w5 (some ⟨g, 0, none⟩) m m (l.take m)) := by
  refine ⟨H5.out.2.1.hq.poly H5.out.1.lq.symm, ?_⟩
  have h1 := (H5.out.2.1.hr.poly (len := m + k) (by rw [H5.out.1.lr]; exact HR.out.2.2.2.2.2.1.symm)).take (n := m) (by omega)
  exact ⟨h1.hlen, Nat.le_refl _, fun e => (by cases e), h1.hat⟩
 have KS : Hid (∀ w', Below w5.heap.size w5 w' → w'.cell? ⟨w3.heap.size, 2, none⟩ = some (.slice (some ⟨w2.heap.size, 0, none⟩) k k)) := fun w' hb => (H5.out.2.1.later hb).d2
 have z4 : ((m : Int) + 1) - 1 = (m : Int) := by omega
 have z5 : IntKind.i64.wrap (m : Int) = (m : Int) := by rw [IntKind.wrap_i64]; omega
 have z6 : (0 : Int) ≤ (m : Int) := by omega
 have z7 : (m : Int) ≤ (m : Int) + (k : Int) := by omega
 clear g0
 refine wp_region_noPanic ?_
 refine wp_region_held_drew (S := fun w' => (w'.cell? ⟨w3.heap.size, 2, none⟩ = some (.slice (some ⟨w2.heap.size, 0, none⟩) k k))) (by kernel_rfl) (by (try dsimp only); exact KS.out _ (Below.refl _ _).drew) (fun hHeld => ?_)
 refine wpAnyH_take (i := 0) (oi := Oper.mk (some 32) _ _ _ _ _) (v := ?_) rfl (by decide +kernel) (by decide +kernel) (by decide +kernel) (fun _ _ _ h => h) (Or.inl ⟨by rfl, ?_⟩) (by assumption) ?_
 rotate_left
 ·
  (intro w hSw; (try dsimp only at hSw); go_simp <;> (try with_reducible rfl))
 (try simp only [Act.put, List.setIfInBounds_toArray, List.set_cons_zero, List.set_cons_succ])
 refine wpAnyH_take (i := 1) (oi := Oper.mk (some 33) _ _ _ _ _) (v := ?_) rfl (by decide +kernel) (by decide +kernel) (by decide +kernel) (fun _ _ _ h => h) (Or.inl ⟨by rfl, ?_⟩) (by assumption) ?_
 rotate_left
 ·
  (intro w hSw; (try dsimp only at hSw); go_simp <;> (try with_reducible rfl))
 (try simp only [Act.put, List.setIfInBounds_toArray, List.set_cons_zero, List.set_cons_succ])
 refine wpAnyH_take (i := 2) (oi := Oper.mk (some 34) _ _ _ _ _) (v := ?_) rfl (by decide +kernel) (by decide +kernel) (by decide +kernel) (fun _ _ _ h => h) (Or.inl ⟨by rfl, ?_⟩) (by assumption) ?_
 rotate_left
 ·
  (intro w hSw; (try dsimp only at hSw); go_simp <;> (try with_reducible rfl))
 (try simp only [Act.put, List.setIfInBounds_toArray, List.set_cons_zero, List.set_cons_succ])
 refine wpAnyH_take (i := 3) (oi := Oper.mk (some 35) _ _ _ _ _) (v := ?_) rfl (by decide +kernel) (by decide +kernel) (by decide +kernel) (fun _ _ _ h => h) (Or.inl ⟨by rfl, ?_⟩) (by assumption) ?_
 rotate_left
 ·
  (intro w hSw; (try dsimp only at hSw); go_simp <;> (try with_reducible rfl))
 (try simp only [Act.put, List.setIfInBounds_toArray, List.set_cons_zero, List.set_cons_succ])
 refine wpAnyH_take (i := 5) (oi := Oper.mk (some 37) _ _ _ _ _) (v := ?_) rfl (by decide +kernel) (by decide +kernel) (by decide +kernel) (fun _ _ _ h => h) (Or.inl ⟨by rfl, ?_⟩) (by assumption) ?_
 rotate_left
 ·
  (intro w hSw; (try dsimp only at hSw); go_simp <;> (try with_reducible rfl))
 (try simp only [Act.put, List.setIfInBounds_toArray, List.set_cons_zero, List.set_cons_succ])
 refine wpAnyH_take (i := 6) (oi := Oper.mk (some 38) _ _ _ _ _) (v := ?_) rfl (by decide +kernel) (by decide +kernel) (by decide +kernel) (fun _ _ _ h => h) (Or.inl ⟨by rfl, ?_⟩) (by assumption) ?_
 rotate_left
 ·
  (intro w hSw; (try dsimp only at hSw); go_simp <;> (try with_reducible rfl))
 (try simp only [Act.put, List.setIfInBounds_toArray, List.set_cons_zero, List.set_cons_succ])
 refine wpAnyH_take (i := 7) (oi := Oper.mk (some 39) _ _ _ _ _) (v := ?_) rfl (by decide +kernel) (by decide +kernel) (by decide +kernel) (fun _ _ _ h => h) (Or.inl ⟨by rfl, ?_⟩) (by assumption) ?_
 rotate_left
 ·
  (intro w hSw; (try dsimp only at hSw); go_simp <;> (try with_reducible rfl))
 (try simp only [Act.put, List.setIfInBounds_toArray, List.set_cons_zero, List.set_cons_succ])
 refine wpAnyH_take (i := 8) (oi := Oper.mk (some 40) _ _ _ _ _) (v := ?_) rfl (by decide +kernel) (by decide +kernel) (by decide +kernel) (fun _ _ _ h => h) (Or.inl ⟨by rfl, ?_⟩) (by assumption) ?_
 rotate_left
 ·
  (intro w hSw; (try dsimp only at hSw); go_simp <;> (try with_reducible rfl))
 (try simp only [Act.put, List.setIfInBounds_toArray, List.set_cons_zero, List.set_cons_succ])
 refine wpAnyH_take (i := 9) (oi := Oper.mk (some 41) _ _ _ _ _) (v := ?_) rfl (by decide +kernel) (by decide +kernel) (by decide +kernel) (fun _ _ _ h => h) (Or.inl ⟨by rfl, ?_⟩) (by assumption) ?_
 rotate_left
 ·
  (intro w hSw; (try dsimp only at hSw); go_simp <;> (try with_reducible rfl))
 (try simp only [Act.put, List.setIfInBounds_toArray, List.set_cons_zero, List.set_cons_succ])
 refine wpAnyH_take (i := 10) (oi := Oper.mk (some 42) _ _ _ _ _) (v := ?_) rfl (by decide +kernel) (by decide +kernel) (by decide +kernel) (fun _ _ _ h => h) (Or.inl ⟨by rfl, ?_⟩) (by assumption) ?_
 rotate_left
 ·
  (intro w hSw; (try dsimp only at hSw); go_simp <;> (try with_reducible rfl))
 (try simp only [Act.put, List.setIfInBounds_toArray, List.set_cons_zero, List.set_cons_succ])
 refine wpAnyH_take (i := 11) (oi := Oper.mk (some 43) _ _ _ _ _) (v := ?_) rfl (by decide +kernel) (by decide +kernel) (by decide +kernel) (fun _ _ _ h => h) (Or.inl ⟨by rfl, ?_⟩) (by assumption) ?_
 rotate_left
 ·
  (intro w hSw; (try dsimp only at hSw); go_simp <;> (try with_reducible rfl))
 (try simp only [Act.put, List.setIfInBounds_toArray, List.set_cons_zero, List.set_cons_succ])
 refine wpAnyH_take (i := 12) (oi := Oper.mk (some 44) _ _ _ _ _) (v := ?_) rfl (by decide +kernel) (by decide +kernel) (by decide +kernel) (fun _ _ _ h => h) (Or.inl ⟨by rfl, ?_⟩) (by assumption) ?_
 rotate_left
 ·
  (intro w hSw; (try dsimp only at hSw); go_simp <;> (try with_reducible rfl))
 (try simp only [Act.put, List.setIfInBounds_toArray, List.set_cons_zero, List.set_cons_succ])
 refine wpAnyH_ready (rs := [4]) (by decide +kernel) (by simp) ?_
 refine AllReadyH.cons (o := Oper.mk (some 36) _ _ _ _ _) rfl (fun K hK => ?_) AllReadyH.nil
 go_simp
 (go_at_call 68; (fail_if_success (have _g := hb6)); refine (trimmed_any (some ⟨w2.heap.size, 0, none⟩) k k q _ (HQ.out.1.later (Below.refl _ _).drew) (by omega)).mono ?_; rintro e w6 ⟨qo, lq, hlq, rfl, hq0, hq1, hb'⟩; have hb6 : Below w5.heap.size w5 w6 := bnext (Below.refl _ _).drew hb'; have H6 : Hid (PolyAt w6 qo lq lq (trimL q) ∧ lq ≤ k) := ⟨(HQ.out.1.later hb6).trim hlq hq0 hq1, by rw [hlq, ← HQ.out.1.hlen]; exact trimN_le _ _⟩; clear hlq hq0 hq1 hb')
 (try go_wp2_with fail)
 clear hHeld
 refine hK.out _ _ (by (try dsimp only); exact KS.out _ hb6) (fun hHeld => ?_)
 clear hK K
 (try simp only [Act.put, List.setIfInBounds_toArray, List.set_cons_zero, List.set_cons_succ])
 refine wpAnyH_ready (rs := [13]) (by decide +kernel) (by simp) ?_
 refine AllReadyH.cons (o := Oper.mk (some 45) _ _ _ _ _) rfl (fun K hK => ?_) AllReadyH.nil
 go_simp
 (go_at_call 68; have _g := hb6; refine (trimmed_any (some ⟨g, 0, none⟩) m m (l.take m) _ (HQ.out.2.later hb6) (by omega)).mono ?_; rintro e w7 ⟨ro, lr, hlr, rfl, hr0, hr1, hb'⟩; have hb7 : Below w5.heap.size w5 w7 := bnext hb6 hb'; have H7 : Hid (PolyAt w7 ro lr lr (trimL (l.take m)) ∧ lr ≤ m ∧ PolyAt w7 qo lq lq (trimL q)) := ⟨(HQ.out.2.later hb7).trim hlr hr0 hr1, by rw [hlr, ← HQ.out.2.hlen]; exact trimN_le _ _, H6.out.1.later hb'⟩; clear hlr hr0 hr1 hb')
 (try go_wp2_with fail)
 clear hHeld
 refine hK.out _ _ (by (try dsimp only); exact KS.out _ hb7) (fun hHeld => ?_)
 clear hK K
 (try simp only [Act.put, List.setIfInBounds_toArray, List.set_cons_zero, List.set_cons_succ])
 refine wpAnyH_take (i := 14) (oi := Oper.mk (some 4) _ _ _ _ _) (v := ?_) rfl (by decide +kernel) (by decide +kernel) (by decide +kernel) (fun _ _ _ h => h) (Or.inl ⟨by rfl, ?_⟩) (by assumption) ?_
 rotate_left
 ·
  (intro w hSw; (try dsimp only at hSw); go_simp <;> (try with_reducible rfl))
 (try simp only [Act.put, List.setIfInBounds_toArray, List.set_cons_zero, List.set_cons_succ])
 refine wpAnyH_take (i := 15) (oi := Oper.mk (some 5) _ _ _ _ _) (v := ?_) rfl (by decide +kernel) (by decide +kernel) (by decide +kernel) (fun _ _ _ h => h) (Or.inl ⟨by rfl, ?_⟩) (by assumption) ?_
 rotate_left
 ·
  (intro w hSw; (try dsimp only at hSw); go_simp <;> (try with_reducible rfl))
 (try simp only [Act.put, List.setIfInBounds_toArray, List.set_cons_zero, List.set_cons_succ])
 refine wpAnyH_done (by decide +kernel) ?_ _
 refine NoPanic.normal ?_
 go_wp2
 go_ret2
 exact ⟨qo, lq, ro, lr, trimL q, trimL (l.take m), rfl, H7.out.2.2, H7.out.1, trimL_lead _, trimL_lead _, trimL_lim H5.out.2.2.2.1, trimL_lim (take_lim H5.out.2.2.1), H7.out.2.1, H6.out.2, fun x => by
  have h := H5.out.1.done (by rw [H5.out.1.lr]; have := HR.out; omega) x
  rw [show b.length - 1 = m by have := HR.out.2.2.2.2.2.2; omega, ← HL.out.1] at h
  rw [h, ev_trim, ev_trim], bnext H5.out.2.2.2.2 hb7⟩
end Go.Proofs.YtgcahkhpbcklfaaGreatDoor
namespace Go.Proofs.YtgcahkhpbcklfaaGreatDoor
open Go.RowKit
theorem gcheckDiv_any (ao bo : Option Addr) (la ca lb cb A : Nat) (p s : List Int) (w : World) (hp : GP w ao la ca A p) (hs : GP w bo lb cb A s) (h0 : 0 < lb) :
  Calls Tryz.prog 44 #[.slice ao la ca, .slice bo lb cb] w fun e w' => e = .returned (.int .i64 0) ∧ Below w.heap.size w w' := by
 have h1 := gchecks_any ao bo la ca lb cb A p s w hp hs
 have hb' : ((lb : Int) == 0) = false := by simp; omega
 clear hp hs
 go_enter Tryz.func44, Tryz.ntmps44
 go_wp2_with (go_at_call 50; refine h1.mono ?_; rintro e w1 ⟨rfl, hb1⟩)
 go_ret
 exact ⟨rfl, hb1⟩
def PDAns (w w' : World) (e : Ending) (a b : List Int) : Prop := ∃ qo lq ro lr q r, ∃ k : Nat, e = .returned (.tuple #[.slice qo lq lq, .slice ro lr lr, .int .i64 (k : Int), .int .i64 0]) ∧ PolyAt w' qo lq lq q ∧ PolyAt w' ro lr lr r ∧ Lead q ∧ Lead r ∧ Lim 90000 q ∧ Lim 90000 r ∧ lr < b.length ∧ lq ≤ 11 ∧ k ≤ 11 ∧ (∀ x, dig b (b.length - 1) ^ k * ev a x = ev q x * ev b x + ev r x) ∧ Below w.heap.size w w'
theorem gpdiv_any (ao bo : Option Addr) (la ca lb cb : Nat) (a b : List Int) (w : World) (ha : GP w ao la ca 3 a) (hb : GP w bo lb cb 3 b) (h0 : 0 < lb) (hla : la ≤ 11) (hlb : lb ≤ 11)
  (hcop : ∀ W, Below w.heap.size w W → Calls Tryz.prog 45 #[.slice ao la ca] W fun e w' => NewPB W w' e a) :
  Calls Tryz.prog 17 #[.slice ao la ca, .slice bo lb cb] w fun e w' => PDAns w w' e a b := by
 have h1 := gcheckDiv_any ao bo la ca lb cb 3 a b w ha hb h0
 have ea := ha.at'.hlen
 have eb := hb.at'.hlen
 by_cases hlt : la < lb
 ·
  have hlI : (la : Int) < (lb : Int) := by omega
  have HA : Hid (Lead a ∧ Lim 3 a ∧ la = a.length ∧ lb = b.length) := ⟨ha.lead, ha.lims, ea, eb⟩
  clear ha hb ea eb
  go_enter Tryz.func17, Tryz.ntmps17
  go_wp2_with (first
   | (go_at_call 44; refine h1.mono ?_; rintro e w1 ⟨rfl, hb1⟩)
   | (go_at_call 45; refine (hcop _ hb1).mono ?_; rintro e w2 hnew; obtain ⟨ro, lr, rfl, H2⟩ : ∃ ro lr, e = .returned (.slice ro lr lr) ∧ Hid (PolyAt w2 ro lr lr a ∧ lr = a.length ∧ Below w1.heap.size w1 w2) := (by
     rcases hnew with ⟨h0, he, hbw⟩ | ⟨_, g, he, hpb, _, _, hbw⟩
     ·
      exact ⟨none, 0, he, by rw [List.eq_nil_of_length_eq_zero h0]; exact PolyAt.nilPoly _, h0.symm, hbw⟩
     ·
      exact ⟨_, _, he, hpb.poly rfl, rfl, hbw⟩); clear hnew))
  exact bodyPost_ret (v := .tuple #[.slice none 0 0, .slice ro lr lr, .int .i64 0, .int .i64 0]) (by simp [results, Tryz.results17, go_sem]) rfl ⟨none, 0, ro, lr, [], a, 0, rfl, PolyAt.nilPoly _, H2.out.1, fun h => absurd h (by simp), HA.out.1, fun t => by simp [dig, lim_zero], HA.out.2.1.mono (by decide), by rw [H2.out.2.1]; have := HA.out; omega, by omega, by omega, fun x => by simp [ev], bnext hb1 H2.out.2.2⟩
 ·
  obtain ⟨m, rfl⟩ : ∃ m, lb = m + 1 := ⟨lb - 1, by omega⟩
  obtain ⟨k, rfl⟩ : ∃ k, la = m + k := ⟨la - m, by omega⟩
  have hlI : ¬ ((m : Int) + (k : Int) < (m : Int) + 1) := by omega
  have h2 : ∀ W, Below w.heap.size w W → Calls Tryz.prog 46 #[.slice ao (m + k) ca, .slice bo (m + 1) cb] W fun e w' => ∃ qo lq ro lr q r, e = .returned (.tuple #[.slice qo lq lq, .slice ro lr lr]) ∧ PolyAt w' qo lq lq q ∧ PolyAt w' ro lr lr r ∧ Lead q ∧ Lead r ∧ Lim 90000 q ∧ Lim 90000 r ∧ lr ≤ m ∧ lq ≤ k ∧ (∀ x, dig b m ^ k * ev a x = ev q x * ev b x + ev r x) ∧ Below W.heap.size W w' := fun W hbW => pseudoDivided_any ao bo ca cb k m a b W (ha.later hbW).at' (hb.later hbW).at' (by omega) ha.lims hb.lims (by omega) (by omega) (fun V hV => hcop V (bnext hbW hV))
  have HB : Hid (b.length = m + 1) := eb.symm
  have z1 : (m : Int) + (k : Int) - ((m : Int) + 1) + 1 = (k : Int) := by omega
  have z2 : IntKind.i64.wrap ((m : Int) + (k : Int) - ((m : Int) + 1)) = (m : Int) + (k : Int) - ((m : Int) + 1) := by rw [IntKind.wrap_i64]; omega
  have z3 : IntKind.i64.wrap (k : Int) = (k : Int) := by rw [IntKind.wrap_i64]; omega
  clear ha hb ea eb hcop
  go_enter Tryz.func17, Tryz.ntmps17
  go_wp2_with (first
   | (go_at_call 44; refine h1.mono ?_; rintro e w1 ⟨rfl, hb1⟩)
   | (go_at_call 46; refine (h2 _ hb1).mono ?_; rintro e w2 ⟨qo, lq, ro, lr, q, r, rfl, hq, hr, h5⟩; have H2 : Hid (PolyAt w2 qo lq lq q ∧ PolyAt w2 ro lr lr r ∧ Lead q ∧ Lead r ∧ Lim 90000 q ∧ Lim 90000 r ∧ lr ≤ m ∧ lq ≤ k ∧ (∀ x, dig b m ^ k * ev a x = ev q x * ev b x + ev r x) ∧ Below w1.heap.size w1 w2) := ⟨hq, hr, h5⟩; clear hq hr h5))
  obtain ⟨a1, a2, a3, a4, a5, a6, a7, a8, a9, a10⟩ := H2.out
  exact bodyPost_ret (v := .tuple #[.slice qo lq lq, .slice ro lr lr, .int .i64 (k : Int), .int .i64 0]) (by simp [results, Tryz.results17, go_sem]) rfl ⟨qo, lq, ro, lr, q, r, k, rfl, a1, a2, a3, a4, a5, a6, by rw [HB.out]; omega, by omega, by omega, fun x => by rw [HB.out]; exact a9 x, bnext hb1 a10⟩
end Go.Proofs.YtgcahkhpbcklfaaGreatDoor
