/-
  PF: in plain: division by steps from the top; walks: the page's DivMod modulo p.
-/
import Derived.Test.YtnniipekcbjloaaDoorPR01
import Derived.Test.YtnniipekcbjloaaDoorPR02
import Derived.Test.YtnniipekcbjloaaDoorPR15
namespace Go.Proofs.YtnniipekcbjloaaDoor
open Go.RowKit Go.Shelf
set_option linter.unusedVariables false
set_option linter.unusedSimpArgs false
theorem rep_app_ev (n : Nat) (g : List Int) (x : Int) : ev (List.replicate n 0 ++ g) x = x ^ n * ev g x := by
  induction n with
  | zero => simp
  | succ n ih => rw [List.replicate_succ, List.cons_append]; simp only [ev]; rw [ih, Int.pow_succ]; grind
theorem rep_app_dig (n : Nat) (g : List Int) (t : Nat) : dig (List.replicate n 0 ++ g) t = if t < n then 0 else dig g (t - n) := by
  simp only [dig, List.getD_eq_getElem?_getD]
  by_cases h : t < n
  · rw [List.getElem?_append_left (by simpa using h), if_pos h]
    simp [h]
  · rw [List.getElem?_append_right (by simpa using Nat.le_of_not_lt h), if_neg h]
    simp
/-- division from the top: the quotient's coefficients from n on stand in Q, what is left in R -/
structure DvS (p : Int) (f g Q R : List Int) (n : Nat) : Prop where
  lq : Q.length = f.length + 1 - g.length
  lr : R.length = f.length
  wq : Wd p Q
  wr : Wd p R
  low : ∀ t, t < n → dig Q t = 0
  high : ∀ t, n + g.length ≤ t + 1 → dig R t = 0
  eq : EqM p (fun x => ev f x) (fun x => ev Q x * ev g x + ev R x)
theorem rep_wd {p : Int} (hp : 0 < p) (n : Nat) : Wd p (List.replicate n 0) := fun z hz => by
  obtain rfl := List.eq_of_mem_replicate hz
  omega
theorem DvS.start {p : Int} (hp : 0 < p) {f g : List Int} (hf : Wd p f) (hg : 0 < g.length) (hl : g.length ≤ f.length) : DvS p f g (List.replicate (f.length + 1 - g.length) 0) f (f.length + 1 - g.length) :=
  ⟨by simp, rfl, rep_wd hp _, hf, fun t _ => rep_dig _ _, fun t ht => dig_past (by omega), EqM.of_eq fun x => by rw [rep_ev]; simp⟩
/-- one step -/
def stepD (p x : Int) (g R : List Int) (n k t : Nat) : Int := if n ≤ t ∧ t < n + k then (dig R t + (p - x) * dig g (t - n)) % p else dig R t
theorem DvS.step {p : Int} {f g Q R R' : List Int} {n : Nat} {c x : Int} (h : DvS p f g Q R (n + 1)) (hp : 0 < p) (hn : n < Q.length) (hg : 0 < g.length) (hc : dig g (g.length - 1) * c % p = 1 % p) (hx : x = dig R (n + g.length - 1) * c % p)
    (hl : R'.length = R.length) (hd : ∀ t, dig R' t = stepD p x g R n g.length t) : DvS p f g (Q.set n x) R' n := by
  have hxb : 0 ≤ x ∧ x < p := by rw [hx]; exact mod_in hp _
  refine ⟨by rw [List.length_set]; exact h.lq, by rw [hl]; exact h.lr, fun z hz => ?_, fun z hz => ?_, fun t ht => ?_, fun t ht => ?_, ?_⟩
  · rcases List.mem_or_eq_of_mem_set hz with e | e
    · exact h.wq z e
    · rw [e]; exact hxb
  · obtain ⟨i, hi, rfl⟩ := List.getElem_of_mem hz
    have e : R'[i] = dig R' i := by simp [dig, hi]
    rw [e, hd i, stepD]
    split
    · exact mod_in hp _
    · exact h.wr.dig hp i
  · rw [dig_set _ hn, if_neg (by omega)]; exact h.low t (by omega)
  · rw [hd t, stepD]
    by_cases e : t = n + g.length - 1
    · rw [if_pos (by omega), show t - n = g.length - 1 by omega]
      rw [← e] at hx
      generalize dig g (g.length - 1) = b at hc ⊢
      generalize dig R t = y at hx ⊢
      obtain ⟨u, hu⟩ : ∃ u, b * c = 1 + p * u := by
        have h1 := Int.mul_ediv_add_emod (b * c) p
        have h2 := Int.mul_ediv_add_emod 1 p
        rw [hc] at h1
        refine ⟨b * c / p - 1 / p, ?_⟩
        rw [Int.mul_sub]; omega
      obtain ⟨v, hv⟩ : ∃ v, x = y * c + p * v := ⟨_, by rw [hx]; exact emod_eq _ _⟩
      have e3 : y + (p - x) * b = p * (b - v * b - y * u) := by
        rw [hv]
        have : y * (b * c) = y * (1 + p * u) := by rw [hu]
        grind
      rw [e3]; exact Int.mul_emod_right _ _
    · rw [if_neg (by omega)]; exact h.high t (by omega)
  · have h1 : EqM p (fun X => ev R' X) (fun X => ev (addTo R ((List.replicate n 0 ++ g).map ((p - x) * ·))) X) := EqM.of_digs fun t => by
      rw [hd t, addTo_dig, map_dig, rep_app_dig, stepD]
      by_cases e1 : t < n
      · rw [if_neg (by omega), if_pos e1]; exact ⟨0, by simp⟩
      · rw [if_neg e1]
        by_cases e2 : t < n + g.length
        · rw [if_pos (by omega)]; exact ⟨_, emod_eq _ _⟩
        · rw [if_neg (by omega), dig_past (s := g) (by omega)]; exact ⟨0, by simp⟩
    obtain ⟨E, hE, h1⟩ := h1
    obtain ⟨F, hF, h2⟩ := h.eq
    refine ⟨_, hF.add (((IsP.id.pow n).mul (IsP.ev g)).add hE).neg, fun X => ?_⟩
    have e1 : ev (Q.set n x) X = ev Q X + x * X ^ n := by
      have := ev_set Q n x X hn
      rw [h.low n (by omega), Int.zero_add] at this
      exact this
    have e2 : ev R' X = ev R X + (p - x) * (X ^ n * ev g X) + p * E X := by
      have := h1 X
      simp only at this
      rw [this, addTo_ev, map_ev, rep_app_ev]
    have e3 : ev f X = ev Q X * ev g X + ev R X + p * F X := h2 X
    show ev f X = ev (Q.set n x) X * ev g X + ev R' X + p * (F X + -(X ^ n * ev g X + E X))
    rw [e1, e2, e3]; grind
theorem DvS.done {p : Int} {f g Q R q r : List Int} (h : DvS p f g Q R 0) (hp : 0 < p) (hg : 0 < g.length) (hq : TrimOf q Q) (hr : TrimOf r R) : Pm p q ∧ Pm p r ∧ r.length < g.length ∧ EqM p (fun x => ev f x) (fun x => ev q x * ev g x + ev r x) := by
  have hrc : Can r := by obtain ⟨_, _, _, hc, _⟩ := hr; exact hc
  have hqc : Can q := by obtain ⟨_, _, _, hc, _⟩ := hq; exact hc
  refine ⟨⟨hq.wd h.wq, hqc⟩, ⟨hr.wd h.wr, hrc⟩, ?_, ?_⟩
  · by_cases hl : r.length < g.length
    · exact hl
    · exfalso
      refine can_dig hrc (by omega) ?_
      rw [hr.dig]; exact h.high _ (by omega)
  · refine h.eq.trans (EqM.of_eq fun x => ?_)
    show ev Q x * ev g x + ev R x = _
    rw [ev_of_digs (fun k => (hq.dig k).symm) x, ev_of_digs (fun k => (hr.dig k).symm) x]
/-- a row of the call's own with room behind it -/
def RowC (w : World) (g cap : Nat) (L : List Int) : Prop := ∃ cur, w.heap[g]? = some (.cells cur 25 (0, 0)) ∧ cap ≤ cur.size ∧ L.length ≤ cap ∧ ∀ j, j < L.length → cur[j]? = some (.int .u64 (dig L j))
theorem RowC.of {w : World} {base g n cap : Nat} {L : List Int} (hl : L.length = n) (h : w.ownsRow base 25 1 (.slice (some ⟨g, 0, none⟩) n cap) n (L.map (Value.int .u64))) : RowC w g cap L ∧ base ≤ g := by
  obtain ⟨_, h2⟩ := h
  rcases h2 with ⟨h2, _⟩ | ⟨g', cap', cur, hv, hg, hh, hc1, _, hs, ht⟩
  · cases h2
  · simp only [Value.slice.injEq, Option.some.injEq, Addr.mk.injEq] at hv
    obtain ⟨⟨rfl, _⟩, _, rfl⟩ := hv
    refine ⟨⟨cur, hh, by omega, by omega, fun j hj => ?_⟩, hg⟩
    have e1 : cur.toList[j]? = some (.int .u64 (dig L j)) := by
      have : (cur.toList.take (n * 1))[j]? = (L.map (Value.int .u64))[j]? := by rw [ht]
      rw [List.getElem?_take, if_pos (by omega)] at this
      rw [this]; simp [dig, hj]
    simpa using e1
theorem RowC.lt {w : World} {g cap : Nat} {L : List Int} (h : RowC w g cap L) : g < w.heap.size := by
  obtain ⟨cur, h, _⟩ := h; exact heap_lt h
theorem RowC.cell {w : World} {g cap : Nat} {L : List Int} (h : RowC w g cap L) {j : Nat} (hj : j < L.length) : w.cell? ⟨g, j, none⟩ = some (.int .u64 (dig L j)) := by
  obtain ⟨cur, h1, _, _, h2⟩ := h
  simp [World.cell?, h1, h2 j hj]
theorem RowC.frozen {w : World} {g cap : Nat} {L : List Int} (h : RowC w g cap L) (j : Nat) : w.frozen? ⟨g, j, none⟩ = false := by
  obtain ⟨cur, h1, _⟩ := h
  simp [World.frozen?, h1]
theorem RowC.all {w w' : World} {g cap : Nat} {L : List Int} (h : RowC w g cap L) (hb : Below w.heap.size w w') : RowC w' g cap L := by
  obtain ⟨cur, h1, h2⟩ := h
  exact ⟨cur, by rw [hb.block g (heap_lt h1)]; exact h1, h2⟩
theorem RowC.drew {w : World} {g cap : Nat} {L : List Int} (h : RowC w g cap L) : RowC w.drew g cap L := h
theorem RowC.set {w : World} {g cap : Nat} {L : List Int} (h : RowC w g cap L) (j : Nat) (z : Int) : RowC (w.setCell ⟨g, j, none⟩ (.int .u64 z)) g cap (L.set j z) := by
  obtain ⟨cur, h1, h2, h3, h4⟩ := h
  refine ⟨cur.setIfInBounds j (.int .u64 z), ?_, by simpa using h2, by simpa using h3, fun i hi => ?_⟩
  · simp only [World.setCell, Array.getElem?_modify, if_true]
    rw [h1]
    simp
  · have hi' : i < L.length := by simpa using hi
    rw [Array.getElem?_setIfInBounds]
    by_cases e : j = i
    · subst e
      have hjs : j < cur.size := by omega
      simp [hjs, dig, hi']
    · rw [if_neg e, h4 i hi']
      simp [dig, e]
theorem RowC.other {w : World} {g cap : Nat} {L : List Int} (h : RowC w g cap L) {a : Addr} (ha : g ≠ a.block) (v : Value) : RowC (w.setCell a v) g cap L := by
  obtain ⟨cur, h1, h2⟩ := h
  exact ⟨cur, by rw [Below.heap_setCell _ _ _ _ ha]; exact h1, h2⟩
theorem RowC.row {w : World} {g cap : Nat} {L : List Int} (h : RowC w g cap L) : RowAt w .u64 (some ⟨g, 0, none⟩) L.length cap L :=
  ⟨rfl, by obtain ⟨_, _, _, h3, _⟩ := h; exact h3, fun e => (by cases e), Or.inr ⟨g, 0, rfl, h.lt, fun t ht => by rw [Nat.zero_add]; exact h.cell ht⟩⟩
/-- what the page's division tells -/
def PageD (p : Int) (w w' : World) (e : Ending) (f g : List Int) : Prop :=
  ∃ qo ql qc ro rl rc q r, e = .returned (.tuple #[.slice qo ql qc, .slice ro rl rc]) ∧ FRow p w' qo ql qc q ∧ FRow p w' ro rl rc r ∧ Pm p q ∧ Pm p r ∧ r.length < g.length ∧ EqM p (fun x => ev f x) (fun x => ev q x * ev g x + ev r x) ∧ Below w.heap.size w w'
set_option maxRecDepth 100000 in
set_option maxHeartbeats 4000000 in
theorem rdivmod_any (p : Int) (ao bo : Option Addr) (la ca lb cb : Nat) (f g : List Int) (w : World) (hpr : IsPr p) (hp : p ≤ 2147483648) (hf : FRow p w ao la ca f) (hg : FRow p w bo lb cb g) (hfp : Pm p f) (hgp : Pm p g) (hlb : 0 < lb) :
    Calls Tryd.prog 29 #[.slice ao la ca, .slice bo lb cb, .int .u64 p] w fun e w' => PageD p w w' e f g := by
  have hp2 := hpr.two
  have hla4 := hf.short
  have hlb4 := hg.short
  by_cases hlt : la < lb
  · have HN : Hid (PageD p w w (.returned (.tuple #[.slice none 0 0, .slice ao la ca])) f g) := ⟨_, _, _, _, _, _, [], f, rfl, ⟨RowAt.nilRow w .u64, Wd.nil _, by decide⟩, hf, Pm.nil p, hfp, by rw [← hf.row.hlen, ← hg.row.hlen]; exact hlt, EqM.of_eq fun x => by simp [ev], Below.refl _ _⟩
    have z1 : (la : Int) < (lb : Int) := by omega
    clear hf hg hfp hgp hpr hp2
    go_enter Tryd.func29, Tryd.ntmps29
    go_wp2
    exact bodyPost_ret (v := .tuple #[.slice none 0 0, .slice ao la ca]) (by simp [results, Tryd.results29, go_sem]) rfl HN.out
  · have HF : Hid (FRow p w ao la ca f ∧ FRow p w bo lb cb g ∧ la = f.length ∧ lb = g.length ∧ (0 < p ∧ p ≤ 2147483648)) := ⟨hf, hg, hf.row.hlen, hg.row.hlen, by omega, hp⟩
    have z1 : ¬ (la : Int) < (lb : Int) := by omega
    have hp0 : 0 < p := by omega
    obtain ⟨nq, hnq⟩ : ∃ nq : Nat, nq = la + 1 - lb := ⟨_, rfl⟩
    have hnI : (la : Int) - (lb : Int) + 1 = (nq : Int) := by omega
    have hnJ : (la : Int) - (lb : Int) = (nq : Int) - 1 := by omega
    have HN : Hid (nq = f.length + 1 - g.length ∧ nq + lb = la + 1 ∧ 0 < nq) := ⟨by have := HF.out.2.2; omega, by omega, by omega⟩
    have hn4 : nq ≤ 4194304 := by omega
    obtain ⟨ab, aoff, rfl, hab, hax, _, _⟩ := hf.cell (p := p) hp0 (k := 0) (by omega)
    have hsrc := hf.row.src (by omega)
    obtain ⟨gb, goff, rfl, hgb, hgx, hg0, hg1⟩ := hg.cell (p := p) hp0 (k := lb - 1) (by omega)
    obtain ⟨a, ha⟩ : ∃ a, dig g (lb - 1) = a := ⟨_, rfl⟩
    rw [ha] at hgx hg0 hg1
    obtain ⟨c, hc⟩ : ∃ c, a ^ (p.toNat - 2) % p = c := ⟨_, rfl⟩
    have HO : Hid (∀ W, Calls Tryd.prog 42 #[.int .u64 a, .int .u64 p] W fun e w' => e = .returned (.int .u64 c) ∧ w' = W) := fun W => rover_any p a c W ⟨hp2, hp⟩ ⟨hg0, hg1⟩ hc
    have HC : Hid ((0 ≤ c ∧ c < p) ∧ dig g (g.length - 1) * c % p = 1 % p) := by
      refine ⟨by rw [← hc]; exact mod_in hp0 _, ?_⟩
      have := lead_one hpr hgp (by rw [← hg.row.hlen]; exact hlb)
      rw [leadInv, ← hg.row.hlen, ha, hc] at this
      rw [← hg.row.hlen, ha, this]; exact (Int.emod_eq_of_lt (by decide) (by omega)).symm
    obtain ⟨i0, hi, hz0, hz1', hz2⟩ := info_parts info64
    have b1 : Hid (i0.bytes * nq ≤ 281474976710656) := by show _ ≤ _; rw [hz2]; omega
    have b2 : Hid (nq ≤ maxLen) := by show _ ≤ _; unfold maxLen; omega
    have h63 : Hid (0 + la ≤ maxLen) := by show _ ≤ _; unfold maxLen; omega
    have hby : Hid ((0 + la) * 8 ≤ 140737488355328) := by show _ ≤ _; omega
    have e1 : (lb : Int) - 1 = ((lb - 1 : Nat) : Int) := by omega
    have e2 : lb - 1 < lb := by omega
    have hz : (p == 0) = false := by simp; omega
    have hz1 : ¬ p = 0 := by omega
    have HCE : Hid (∀ wr, Below w.heap.size w wr → wr.cell? ⟨gb, goff + (lb - 1), none⟩ = some (.int .u64 a)) := fun wr hb => (hb.cell (p := ⟨gb, goff + (lb - 1), none⟩) (cell_lt hgx)).trans hgx
    have HSRC : Hid (∀ wr, Below w.heap.size w wr → ∀ j u, (f.map (Value.int .u64))[j]? = some u → wr.cell? ((⟨ab, aoff, none⟩ : Addr).add j) = some u) := fun wr hb j u hj => by
      obtain ⟨ad, e, h⟩ := (hf.row.later hb).src (by omega)
      obtain rfl := Option.some.inj e
      exact h j u hj
    have HLEN : Hid ((f.map (Value.int .u64)).length = la * 1 ∧ (∀ u ∈ f.map (Value.int .u64), u.oneCell' = true)) := ⟨by rw [List.length_map, ← HF.out.2.2.1]; omega, ints_oneCell _ _⟩
    have HST : Hid (DvS p f g (List.replicate nq 0) f nq) := by
      have := DvS.start (p := p) hp0 hf.wd (by rw [← hg.row.hlen]; exact hlb) (by rw [← hg.row.hlen, ← hf.row.hlen]; omega)
      rw [HN.out.1]; exact this
    have hla0 : 0 < la := by omega
    clear hf hg hfp hgp hpr hp2 hlt ha hc hax hgx hg0 hg1 hsrc hnq
    go_enter Tryd.func29, Tryd.ntmps29
    go_wp2_with (first
      | (at_make; refine wpList_make_full _ rfl (.tmp 25) (.tmp 25) 24 rfl w.heap.size 25 i0 (.int .u64 0) 1 Tryd.underlying24 hi hz0 hz1' .i64 .i64 _ _ nq rfl rfl rfl rfl b1.out b2.out (Nat.le_refl _) ?_; intro w1 hown1 hgrow1; have HM : Hid (Blk w1 w.heap.size .u64 25 (List.replicate nq 0) ∧ Below w.heap.size w w1) := ⟨made_blk hown1, grown_below hgrow1⟩; clear hown1 hgrow1)
      | (at_builtin; have hown0 := World.ownsRow_lit (base := w1.heap.size) (e := 25) (size := 1) w1 #[] 0 (Nat.le_refl _) (by decide) rfl; refine wpList_append_lies _ rfl (.tmp 27) (.tmp 28) 24 rfl w1.heap.size 25 i0 (.int .u64 0) 1 8 Tryd.underlying24 hi hz0 hz1' hz2 rfl (by decide) _ 0 _ rfl hown0 ⟨ab, aoff, none⟩ la ca (f.map (Value.int .u64)) rfl HLEN.out.1 (HSRC.out _ (HM.out.2.alloc HM.out.2.size _)) HLEN.out.2 hla0 h63.out hby.out (by simp) (w1.heap.size + 1) (by simp) ?_; intro g2 cp w2 hown2 hgrow2 hat2 hlt2; rw [Nat.zero_add] at hown2 ⊢; have HB2 : Hid (Below w1.heap.size w1 w2) := ((Below.refl _ w1).alloc (Nat.le_refl _) _).grown hgrow2 (by simp) (own_from hown0); have HR2 : Hid (RowC w2 g2 cp f ∧ w1.heap.size ≤ g2 ∧ cp ≤ 9223372036854775807) := ⟨(RowC.of HF.out.2.2.1.symm hown2).1, (RowC.of HF.out.2.2.1.symm hown2).2, cap_of_owns hown2⟩; clear hown0 hown2 hgrow2 hat2 hlt2; have hgx2 := HCE.out w2 (bnextM (B := 0) HM.out.2 HB2.out))
      | (go_at_call 42; refine (HO.out _).mono ?_; rintro e w3 ⟨rfl, hw3⟩; replace hw3 := hw3.symm; subst hw3))
    obtain ⟨G, hG⟩ : ∃ G, G = w.heap.size := ⟨_, rfl⟩
    have HM2 : Hid (Blk w2 G .u64 25 (List.replicate nq 0) ∧ Below w.heap.size w w2 ∧ G ≠ g2 ∧ G = w.heap.size ∧ w.heap.size ≤ g2) := by
      have h1 := HM.out.1.lt
      have h2 := HR2.out.2.1
      exact ⟨by rw [hG]; exact HM.out.1.all HB2.out, bnextM (B := 0) HM.out.2 HB2.out, by omega, hG, by omega⟩
    rw [← hG]
    clear hG hgx2 HM HB2
    go_loopw [11] (fun i wr => ∃ (nn : Nat) (Q R : List Int), i = .int .i64 ((nn : Int) - 1) ∧ nn ≤ nq ∧ Hid (Blk wr G .u64 25 Q ∧ RowC wr g2 cp R ∧ DvS p f g Q R nn ∧ Below w.heap.size w wr)) (fun i _ => (intOf i + 1).toNat)
    case atStart => exact ⟨nq, _, f, by go_num, Nat.le_refl _, HM2.out.1, HR2.out.1, HST.out, HM2.out.2.1⟩
    case round =>
      obtain ⟨nn, Q, R, rfl, hnn, HS⟩ := hrel
      rcases nn with _ | k
      · have HQ : Hid (RowAt wr .u64 (some ⟨G, 0, none⟩) nq nq Q ∧ RowAt wr .u64 (some ⟨g2, 0, none⟩) la cp R ∧ Q.length = nq ∧ R.length = la) := by
          have h1 : Q.length = nq := by rw [HS.out.2.2.1.lq]; exact HN.out.1.symm
          have h2 : R.length = la := by rw [HS.out.2.2.1.lr]; exact HF.out.2.2.1.symm
          refine ⟨(Own.whole (B := 0) HS.out.1 (Nat.zero_le _) h1.symm).row, ?_, h1, h2⟩
          have := HS.out.2.1.row
          rw [h2] at this; exact this
        have HT1 := rtrim_any (some ⟨G, 0, none⟩) nq nq Q wr HQ.out.1 (by omega)
        have HT2 : Hid (Calls Tryd.prog 40 #[.slice (some ⟨g2, 0, none⟩) la cp] wr fun e w' => MTrim (some ⟨g2, 0, none⟩) la cp R e ∧ w' = wr) := rtrim_any (some ⟨g2, 0, none⟩) la cp R wr HQ.out.2.1 HR2.out.2.2
        go_wp2_with (first
          | (go_at_call 40; have _t := HZ1; refine HT2.out.mono ?_; rintro e w5 ⟨⟨m, hm, rfl, hcan, hz⟩, hw5⟩; replace hw5 := hw5.symm; subst hw5; have HZ2 : Hid (m ≤ la ∧ Can (R.take m) ∧ ∀ t, m ≤ t → dig R t = 0) := ⟨hm, hcan, hz⟩; clear hm hcan hz)
          | (go_at_call 40; refine HT1.mono ?_; rintro e w4 ⟨⟨n, hn, rfl, hcan, hz⟩, hw4⟩; replace hw4 := hw4.symm; subst hw4; have HZ1 : Hid (n ≤ nq ∧ Can (Q.take n) ∧ ∀ t, n ≤ t → dig Q t = 0) := ⟨hn, hcan, hz⟩; clear hn hcan hz))
        have hd := HS.out.2.2.1.done (q := Q.take n) (r := R.take m) hp0 (by rw [← HF.out.2.2.2.1]; exact hlb) ⟨n, by rw [HQ.out.2.2.1]; exact HZ1.out.1, rfl, HZ1.out.2⟩ ⟨m, by rw [HQ.out.2.2.2]; exact HZ2.out.1, rfl, HZ2.out.2⟩
        exact bodyPost_ret (v := .tuple #[.slice (some ⟨G, 0, none⟩) n nq, .slice (some ⟨g2, 0, none⟩) m cp]) (by simp [results, Tryd.results29, go_sem]) rfl
          ⟨_, _, _, _, _, _, Q.take n, R.take m, rfl, ⟨HQ.out.1.take HZ1.out.1, hd.1.wd, by have := HZ1.out.1; omega⟩, ⟨HQ.out.2.1.take HZ2.out.1, hd.2.1.wd, by have := HZ2.out.1; omega⟩, hd.1, hd.2.1, hd.2.2.1, hd.2.2.2, HS.out.2.2.2⟩
      · have hRl : R.length = la := by rw [HS.out.2.2.1.lr]; exact HF.out.2.2.1.symm
        have hQl : Q.length = nq := by rw [HS.out.2.2.1.lq]; exact HN.out.1.symm
        obtain ⟨j, hj⟩ : ∃ j, j = k + lb - 1 := ⟨_, rfl⟩
        have hjI : (k : Int) + (lb : Int) - 1 = (j : Int) := by omega
        have hjl : j < R.length := by rw [hRl]; have := HN.out.2.1; omega
        have hkl : k < Q.length := by rw [hQl]; omega
        have hyc := HS.out.2.1.cell hjl
        have hyb := HS.out.2.2.1.wr.dig hp0 j
        obtain ⟨y, hy⟩ : ∃ y, dig R j = y := ⟨_, rfl⟩
        rw [hy] at hyc hyb
        obtain ⟨s, hs⟩ : ∃ s, y * c = s := ⟨_, rfl⟩
        have hsb : 0 ≤ s ∧ s ≤ 4611686018427387904 := by rw [← hs]; exact mul_in hp hyb HC.out.1
        obtain ⟨hs0, hs1⟩ := hsb
        obtain ⟨x, hx⟩ : ∃ x, s % p = x := ⟨_, rfl⟩
        have hxm : s.tmod p = x := by rw [Int.tmod_eq_emod_of_nonneg hs0]; exact hx
        have hxb : 0 ≤ x ∧ x < p := by rw [← hx]; exact mod_in hp0 _
        obtain ⟨hx0, hx1⟩ := hxb
        obtain ⟨hyb0, hyb1⟩ := hyb
        have HX : Hid (x = dig R (k + g.length - 1) * c % p ∧ R.length = la ∧ Q.length = nq ∧ k < Q.length ∧ k + lb ≤ la) := ⟨by rw [← HF.out.2.2.2.1, ← hj, hy, hs, hx], hRl, hQl, hkl, by have := HN.out.2.1; omega⟩
        have r0 := HS.out.1.cell hkl
        have r1 := HS.out.1.frozen
        have k1 : (0 : Int) ≤ (k : Int) := by omega
        have k2 : (k : Int) < (nq : Int) := by omega
        have k3 : (j : Int) < (la : Int) := by omega
        have HW1 : Hid (Blk (wr.setCell ⟨G, k, none⟩ (.int .u64 x)) G .u64 25 (Q.set k x) ∧ RowC (wr.setCell ⟨G, k, none⟩ (.int .u64 x)) g2 cp R ∧ Below w.heap.size w (wr.setCell ⟨G, k, none⟩ (.int .u64 x))) :=
          ⟨HS.out.1.set k x, HS.out.2.1.other (a := ⟨G, k, none⟩) (fun e => HM2.out.2.2.1 e.symm) _, HS.out.2.2.2.setCell (p := ⟨G, k, none⟩) (by rw [HM2.out.2.2.2.1]; exact Nat.le_refl _) _⟩
        have HJ : Hid (j = k + lb - 1) := hj
        clear hRl hQl hjl hkl hy hx hj
        go_wp2
        go_loopw [13] (fun kk w3 => ∃ (t : Nat) (M : List Int), t ≤ lb ∧ kk = .int .i64 (t : Int) ∧ Hid (Blk w3 G .u64 25 (Q.set k x) ∧ RowC w3 g2 cp M ∧ M.length = R.length ∧ (∀ u, dig M u = stepD p x g R k t u) ∧ Below w.heap.size w w3)) (fun kk _ => lb - (intOf kk).toNat)
        case atStart => exact ⟨0, R, Nat.zero_le _, rfl, HW1.out.1, HW1.out.2.1, rfl, fun u => by rw [stepD, if_neg (by omega)], HW1.out.2.2⟩
        case round =>
          obtain ⟨t, M, ht, rfl, HT⟩ := hrel
          clear r0 r1 hyc
          by_cases htl : t < lb
          · have hkM : k + t < M.length := by rw [HT.out.2.2.1, HX.out.2.1]; have := HX.out.2.2.2.2; omega
            have hmc := HT.out.2.1.cell hkM
            have hfz := HT.out.2.1.frozen
            have hme : dig M (k + t) = dig R (k + t) := by rw [HT.out.2.2.2.1 (k + t), stepD, if_neg (by omega)]
            rw [hme] at hmc
            obtain ⟨b'', o2, eg, _, hzc, hy0, hy1⟩ := (HF.out.2.1.later HT.out.2.2.2.2).cell hp0 htl
            simp only [Option.some.injEq, Addr.mk.injEq, and_true] at eg
            obtain ⟨rfl, rfl⟩ := eg
            have hmb := HS.out.2.2.1.wr.dig hp0 (k + t)
            obtain ⟨y2, hy2⟩ : ∃ y, dig R (k + t) = y := ⟨_, rfl⟩
            rw [hy2] at hmc hmb
            obtain ⟨hmb0, hmb1⟩ := hmb
            obtain ⟨z, hzd⟩ : ∃ z, dig g t = z := ⟨_, rfl⟩
            rw [hzd] at hzc hy0 hy1
            obtain ⟨d, hd⟩ : ∃ d, p - x = d := ⟨_, rfl⟩
            have hdb : 0 ≤ d ∧ d ≤ 2147483648 := by omega
            obtain ⟨hd0, hd1⟩ := hdb
            obtain ⟨s2, hs2⟩ : ∃ s, d * z = s := ⟨_, rfl⟩
            have hs2b : 0 ≤ s2 ∧ s2 ≤ 4611686018427387904 := by
              rw [← hs2]
              refine ⟨Int.mul_nonneg hd0 hy0, ?_⟩
              have : d * z ≤ 2147483648 * 2147483648 := Int.mul_le_mul hd1 (by omega) hy0 (by decide)
              omega
            obtain ⟨hs20, hs21⟩ := hs2b
            obtain ⟨v, hv⟩ : ∃ v, (y2 + s2) % p = v := ⟨_, rfl⟩
            have hvm : (y2 + s2).tmod p = v := by rw [Int.tmod_eq_emod_of_nonneg (by omega)]; exact hv
            have HV : Hid ((∀ u, dig (M.set (k + t) v) u = stepD p x g R k (t + 1) u) ∧ (M.set (k + t) v).length = R.length) := by
              refine ⟨fun u => ?_, by rw [List.length_set]; exact HT.out.2.2.1⟩
              rw [dig_set _ hkM, HT.out.2.2.2.1 u, stepD, stepD]
              by_cases e : u = k + t
              · rw [if_pos e, if_pos (by omega), e, show k + t - k = t by omega, hy2, hzd, hd, hs2, hv]
              · rw [if_neg e]
                by_cases e2 : k ≤ u ∧ u < k + t
                · rw [if_pos e2, if_pos (by omega)]
                · rw [if_neg e2, if_neg (by omega)]
            have z3 : (0 : Int) ≤ (t : Int) := by omega
            have z4 : (t : Int) < (lb : Int) := by omega
            have z5 : IntKind.i64.wrap ((k : Int) + (t : Int)) = (k : Int) + (t : Int) := by rw [IntKind.wrap_i64]; omega
            have z6 : ((k : Int) + (t : Int)).toNat = k + t := by omega
            have z7 : (0 : Int) ≤ (k : Int) + (t : Int) := by omega
            have z8 : (k : Int) + (t : Int) < (la : Int) := by have := HX.out.2.2.2.2; omega
            clear hme hy2 hzd hv hkM
            go_wp2
            go_region
            go_wp2
            go_roundw
            case rel => exact ⟨t + 1, M.set (k + t) v, by omega, by go_num, (HT.out.1.other (a := ⟨g2, k + t, none⟩) HM2.out.2.2.1 _).drew, (HT.out.2.1.set (k + t) v).drew, HV.out.2, HV.out.1, (HT.out.2.2.2.2.setCell (p := ⟨g2, k + t, none⟩) HM2.out.2.2.2.2 _).drew⟩
            case measure => simp [intOf]; omega
          · obtain rfl : t = lb := by omega
            have HO2 : Hid (DvS p f g (Q.set k x) M k) := HS.out.2.2.1.step hp0 HX.out.2.2.2.1 (by rw [← HF.out.2.2.2.1]; exact hlb) HC.out.2 HX.out.1 HT.out.2.2.1 (by rw [← HF.out.2.2.2.1]; exact HT.out.2.2.2.1)
            have y1 : ¬ (t : Int) < (t : Int) := by omega
            go_wp2
            go_roundw
            case rel => exact ⟨k, Q.set k x, M, by go_num, by omega, HT.out.1, HT.out.2.1, HO2.out, HT.out.2.2.2.2⟩
            case measure => simp [intOf]
end Go.Proofs.YtnniipekcbjloaaDoor
/-
  PG: walks: the page's Gcd and Pow modulo p; in plain: a quotient is told by its product.
-/
namespace Go.Proofs.YtnniipekcbjloaaDoor
open Go.RowKit Go.Shelf
set_option linter.unusedVariables false
set_option linter.unusedSimpArgs false
/-- what makes nothing with g is nothing -/
theorem mul_zero_of {p : Int} {g : List Int} (hp : IsPr p) (hg : Pm p g) (hl : 0 < g.length) : ∀ (n : Nat) (h : List Int), h.length = n → EqM p (fun x => ev h x * ev g x) (fun _ => 0) → EqM p (fun x => ev h x) (fun _ => 0)
  | 0, h, hn, _ => by
    obtain rfl := List.eq_nil_of_length_eq_zero hn
    exact EqM.of_eq fun x => rfl
  | n + 1, h, hn, e => by
    obtain ⟨h0, z, rfl⟩ := snoc_of (zs := h) (by intro e; subst e; simp at hn)
    have hn0 : h0.length = n := by simpa using hn
    have hlen : (h0 ++ [z]).length = n + 1 := hn
    have e0 : EqM p (fun x => ev (mulL (h0 ++ [z]) g) x) (fun x => ev [] x) := (EqM.of_eq fun x => mulL_ev _ _ x).trans (e.trans (EqM.of_eq fun x => rfl))
    obtain ⟨c, hc⟩ := e0.digs ((h0 ++ [z]).length + g.length - 2)
    rw [mulL_lead _ _ (by omega) hl] at hc
    have hz : dig (h0 ++ [z]) ((h0 ++ [z]).length - 1) = z := by simp [dig]
    rw [hz] at hc
    have hld := hg.lead (by have := hp.two; omega) hl
    have hdv : p ∣ z * dig g (g.length - 1) := ⟨c, by rw [hc]; simp [dig]⟩
    rcases hp.dvd_mul hdv with ⟨y, hy⟩ | h3
    · subst hy
      have e1 : EqM p (fun x => ev h0 x) (fun x => ev (h0 ++ [p * y]) x) := by
        refine ⟨_, ((IsP.const (-y)).mul (IsP.id.pow n)), fun x => ?_⟩
        show ev h0 x = ev (h0 ++ [p * y]) x + p * (-y * x ^ n)
        rw [ev_snoc, hn0]; grind
      refine e1.symm.trans ?_
      have e2 : EqM p (fun x => ev h0 x * ev g x) (fun _ => 0) := (e1.mul (EqM.of_eq fun x => rfl) (IsP.ev h0) (IsP.ev g)).trans e
      exact mul_zero_of hp hg hl n h0 hn0 e2
    · exact absurd h3 (hp.small hld.1 hld.2)
theorem quo_uniq {p : Int} {f g q q' r : List Int} (hp : IsPr p) (hg : Pm p g) (hl : 0 < g.length) (hq : Pm p q) (hq' : Pm p q') (h : EqM p (fun x => ev f x) (fun x => ev q x * ev g x + ev r x)) (h' : EqM p (fun x => ev f x) (fun x => ev q' x * ev g x + ev r x)) : q = q' := by
  have hp2 := hp.two
  have e : EqM p (fun x => ev (addTo q (q'.map (-1 * ·))) x * ev g x) (fun _ => 0) := by
    obtain ⟨E, hE, h⟩ := h
    obtain ⟨F, hF, h'⟩ := h'
    refine ⟨_, hF.sub hE, fun x => ?_⟩
    show ev (addTo q (q'.map (-1 * ·))) x * ev g x = 0 + p * (F x - E x)
    have e1 : ev f x = ev q x * ev g x + ev r x + p * E x := h x
    have e2 : ev f x = ev q' x * ev g x + ev r x + p * F x := h' x
    rw [addTo_ev, map_ev]
    have e3 : ev q x * ev g x - ev q' x * ev g x = p * F x - p * E x := by omega
    grind
  have e2 := mul_zero_of hp hg hl _ _ rfl e
  refine Pm.inj (by omega) hq hq' ?_
  obtain ⟨E, hE, h3⟩ := e2
  refine ⟨E, hE, fun x => ?_⟩
  have := h3 x
  simp only [addTo_ev, map_ev] at this
  show ev q x = ev q' x + p * E x
  omega
/-- what is left by the page's division -/
theorem rdivR (p : Int) (ao bo : Option Addr) (la ca lb cb : Nat) (f g : List Int) (w : World) (hpr : IsPr p) (hp : p ≤ 2147483648) (hf : FRow p w ao la ca f) (hg : FRow p w bo lb cb g) (hfp : Pm p f) (hgp : Pm p g) (hlb : 0 < lb) :
    Calls Tryd.prog 29 #[.slice ao la ca, .slice bo lb cb, .int .u64 p] w fun e w' => (∃ qo ql qc ro rl rc r, e = .returned (.tuple #[.slice qo ql qc, .slice ro rl rc]) ∧ FRow p w' ro rl rc r ∧ Rm p f g r) ∧ Below w.heap.size w w' :=
  (rdivmod_any p ao bo la ca lb cb f g w hpr hp hf hg hfp hgp hlb).mono fun e w' h => by
    obtain ⟨qo, ql, qc, ro, rl, rc, q, r, he, _, hr, _, hpm, hlt, heq, hbw⟩ := h
    exact ⟨⟨qo, ql, qc, ro, rl, rc, r, he, hr, hpm, hlt, q, heq⟩, hbw⟩
theorem Rm.md {p : Int} {f g r : List Int} (h : Rm p f g r) : Md p g (fun x => ev r x) (fun x => ev f x) := by
  obtain ⟨_, _, q, h⟩ := h
  exact Md.ofDiv h
set_option maxRecDepth 100000 in
set_option maxHeartbeats 2000000 in
theorem rgcdF_any (p : Int) (ao bo : Option Addr) (la ca lb cb : Nat) (f g : List Int) (w : World) (hpr : IsPr p) (hp : p ≤ 2147483648) (hf : FRow p w ao la ca f) (hg : FRow p w bo lb cb g) (hfp : Pm p f) (hgp : Pm p g) :
    Calls Tryd.prog 28 #[.slice ao la ca, .slice bo lb cb, .int .u64 p] w fun e w' => PageF p w w' e fun zs => ∃ d m, GcdTo p m f g d ∧ Pm p d ∧ zs = monL p d := by
  have HP : Hid (IsPr p ∧ p ≤ 2147483648) := ⟨hpr, hp⟩
  have HG : Hid (FRow p w ao la ca f ∧ FRow p w bo lb cb g ∧ Pm p f ∧ Pm p g) := ⟨hf, hg, hfp, hgp⟩
  clear hpr hp hf hg hfp hgp
  go_enter Tryd.func28, Tryd.ntmps28
  go_wp2
  go_loopw [0, 1] (fun z v wr => ∃ (xo : Option Addr) (xl xc : Nat) (yo : Option Addr) (yl yc : Nat) (x y : List Int), z = .slice xo xl xc ∧ v = .slice yo yl yc ∧ Hid (FRow p wr xo xl xc x ∧ FRow p wr yo yl yc y ∧ Pm p x ∧ Pm p y ∧ (∀ n d, GcdTo p n x y d → ∃ m, GcdTo p m f g d) ∧ Below w.heap.size w wr)) (fun _ v _ => slLen v)
  case atStart => exact ⟨ao, la, ca, bo, lb, cb, f, g, rfl, rfl, HG.out.1, HG.out.2.1, HG.out.2.2.1, HG.out.2.2.2, fun n d k => ⟨n, k⟩, Below.refl _ _⟩
  case round =>
    obtain ⟨xo, xl, xc, yo, yl, yc, x, y, rfl, rfl, HS⟩ := hrel
    have hyl := HS.out.2.1.row.hlen
    by_cases h0 : yl = 0
    · subst h0
      have hn : y = [] := List.eq_nil_of_length_eq_zero hyl.symm
      have HM : Hid (Calls Tryd.prog 10 #[.slice xo xl xc, .int .u64 p] wr fun e w' => PageF p wr w' e fun zs => zs = monL p x) := rmonic_any p xo xl xc x wr HP.out.1 HP.out.2 HS.out.1 HS.out.2.2.1.can
      have HE : Hid (∃ m, GcdTo p m f g x) := HS.out.2.2.2.2.1 0 x ⟨hn, rfl⟩
      clear hn hyl
      go_wp2_with (go_at_call 10; refine HM.out.mono ?_; rintro e w2 ⟨zo, zl, zc, zs, rfl, hrow, hz, hbb⟩; have HZ : Hid (FRow p w2 zo zl zc zs ∧ zs = monL p x ∧ Below wr.heap.size wr w2) := ⟨hrow, hz, hbb⟩; clear hrow hz hbb)
      go_ret
      exact ⟨zo, zl, zc, zs, rfl, HZ.out.1, (by obtain ⟨m, hm⟩ := HE.out; exact ⟨x, m, hm, HS.out.2.2.1, HZ.out.2.1⟩), bnextM (B := 0) HS.out.2.2.2.2.2 HZ.out.2.2⟩
    · have q1 : (0 : Int) < (yl : Int) := by omega
      have HY : Hid (y ≠ [] ∧ 0 < yl) := ⟨fun e => by rw [e] at hyl; simp at hyl; omega, by omega⟩
      have HD : Hid (Calls Tryd.prog 29 #[.slice xo xl xc, .slice yo yl yc, .int .u64 p] wr fun e w' => (∃ qo ql qc ro rl rc r, e = .returned (.tuple #[.slice qo ql qc, .slice ro rl rc]) ∧ FRow p w' ro rl rc r ∧ Rm p x y r) ∧ Below wr.heap.size wr w') :=
        rdivR p xo yo xl xc yl yc x y wr HP.out.1 HP.out.2 HS.out.1 HS.out.2.1 HS.out.2.2.1 HS.out.2.2.2.1 HY.out.2
      have HYL : Hid (yl = y.length) := hyl
      clear hyl h0
      go_wp2_with (go_at_call 29; refine HD.out.mono ?_; rintro e w2 ⟨⟨qo, ql, qc, ro, rl, rc, r, rfl, hr, hrm⟩, hb2⟩; have HR : Hid (FRow p w2 ro rl rc r ∧ Rm p x y r ∧ rl = r.length ∧ Below wr.heap.size wr w2) := ⟨hr, hrm, hr.row.hlen, hb2⟩; clear hr hrm hb2)
      go_roundw
      case rel => exact ⟨yo, yl, yc, ro, rl, rc, y, r, rfl, rfl, HS.out.2.1.later HR.out.2.2.2, HR.out.1, HS.out.2.2.2.1, HR.out.2.1.1, fun n d k => HS.out.2.2.2.2.1 (n + 1) d ⟨HY.out.1, r, HR.out.2.1, k⟩, bnextM (B := 0) HS.out.2.2.2.2.2 HR.out.2.2.2⟩
      case measure => (have h1 := HR.out.2.1.2.1; have h2 := HR.out.2.2.1; have h3 := HYL.out; simp [slLen]; omega)
/-- a row with what it is modulo g -/
def LeftR (p : Int) (g : List Int) (w : World) (ro : Option Addr) (rl rc : Nat) (r : List Int) (A : Int → Int) : Prop := FRow p w ro rl rc r ∧ Pm p r ∧ r.length < g.length ∧ Md p g (fun x => ev r x) A
theorem LeftR.later {p : Int} {g : List Int} {w w' : World} {ro : Option Addr} {rl rc : Nat} {r : List Int} {A : Int → Int} (h : LeftR p g w ro rl rc r A) (hb : Below w.heap.size w w') : LeftR p g w' ro rl rc r A := ⟨h.1.later hb, h.2⟩
/-- the rounds of the power from below -/
theorem pow_round_odd {p : Int} {g x f r s F : List Int} {n N : Nat} (h : n % 2 = 1) (hr : Md p g (fun t => ev r t) (fun t => ev x t * ev f t)) (hs : Md p g (fun t => ev s t) (fun t => ev f t * ev f t)) (hI : Md p g (fun t => ev x t * ev f t ^ n) (fun t => ev F t ^ N)) : Md p g (fun t => ev r t * ev s t ^ (n / 2)) (fun t => ev F t ^ N) := by
  refine ((hr.mul (hs.pow (IsP.ev s) ((IsP.ev f).mul (IsP.ev f)) (n / 2)) (IsP.ev r) (((IsP.ev f).mul (IsP.ev f)).pow (n / 2))).trans (Md.of_eq fun t => ?_)).trans hI
  have : n = n / 2 + n / 2 + 1 := by omega
  conv => rhs; rw [this, Int.pow_succ, Int.pow_add]
  rw [Int.mul_pow]; grind
theorem pow_round_even {p : Int} {g x f s F : List Int} {n N : Nat} (h : n % 2 = 0) (hs : Md p g (fun t => ev s t) (fun t => ev f t * ev f t)) (hI : Md p g (fun t => ev x t * ev f t ^ n) (fun t => ev F t ^ N)) : Md p g (fun t => ev x t * ev s t ^ (n / 2)) (fun t => ev F t ^ N) := by
  refine (((Md.of_eq fun t => rfl : Md p g (fun t => ev x t) (fun t => ev x t)).mul (hs.pow (IsP.ev s) ((IsP.ev f).mul (IsP.ev f)) (n / 2)) (IsP.ev x) (((IsP.ev f).mul (IsP.ev f)).pow (n / 2))).trans (Md.of_eq fun t => ?_)).trans hI
  have : n = n / 2 + n / 2 := by omega
  conv => rhs; rw [this, Int.pow_add]
  rw [Int.mul_pow]
set_option maxRecDepth 100000 in
set_option maxHeartbeats 4000000 in
theorem rpowF_any (p : Int) (n : Nat) (ao bo : Option Addr) (la ca lb cb : Nat) (f g : List Int) (w : World) (hpr : IsPr p) (hp : p ≤ 2147483648) (hf : FRow p w ao la ca f) (hg : FRow p w bo lb cb g) (hfp : Pm p f) (hgp : Pm p g) (hlb : 0 < lb) (hlb' : lb ≤ 100000) (hn : n < 18446744073709551616) :
    Calls Tryd.prog 30 #[.slice ao la ca, .int .u64 (n : Int), .slice bo lb cb, .int .u64 p] w fun e w' => PageF p w w' e fun r => Pm p r ∧ r.length < g.length ∧ Md p g (fun x => ev r x) (fun x => ev f x ^ n) := by
  have hp2 := hpr.two
  have HF : Hid (FRow p w ao la ca f ∧ FRow p w bo lb cb g ∧ Pm p f ∧ Pm p g ∧ lb = g.length) := ⟨hf, hg, hfp, hgp, hg.row.hlen⟩
  have HD : Hid (∀ (W : World) (xo : Option Addr) (xl xc : Nat) (xs : List Int) (A : Int → Int), Below w.heap.size w W → FRow p W xo xl xc xs → Pm p xs → Md p g (fun x => ev xs x) A → Calls Tryd.prog 29 #[.slice xo xl xc, .slice bo lb cb, .int .u64 p] W fun e w' => (∃ qo ql qc ro rl rc r, e = .returned (.tuple #[.slice qo ql qc, .slice ro rl rc]) ∧ LeftR p g w' ro rl rc r A) ∧ Below W.heap.size W w') := by
    intro W xo xl xc xs A hb hx hxp hA
    refine (rdivR p xo bo xl xc lb cb xs g W hpr hp hx (HF.out.2.1.later hb) hxp hgp hlb).mono fun e w' h => ?_
    obtain ⟨⟨qo, ql, qc, ro, rl, rc, r, he, hr, hrm⟩, hbw⟩ := h
    exact ⟨⟨qo, ql, qc, ro, rl, rc, r, he, hr, hrm.1, hrm.2.1, hrm.md.trans hA⟩, hbw⟩
  have HM : Hid (∀ (W : World) (xo yo : Option Addr) (xl xc yl yc : Nat) (xs ys : List Int) (A C : Int → Int), LeftR p g W xo xl xc xs A → LeftR p g W yo yl yc ys C → Calls Tryd.prog 13 #[.slice xo xl xc, .slice yo yl yc, .int .u64 p] W fun e w' => (∃ zo zl zc, e = .returned (.slice zo zl zc) ∧ FRow p w' zo zl zc (prodL p xs ys)) ∧ Below W.heap.size W w') := by
    intro W xo yo xl xc yl yc xs ys A C hx hy
    have h1 := hx.1.row.hlen
    have h2 := hy.1.row.hlen
    have h3 := hx.2.2.1
    have h4 := hy.2.2.1
    have h5 := HF.out.2.2.2.2
    refine (rtimesF_any p xo yo xl xc yl yc xs ys W hpr hp hx.1 hy.1 hx.2.1 hy.2.1 (by omega)).mono fun e w' h => ?_
    obtain ⟨zo, zl, zc, zs, he, ho, rfl, hb⟩ := h
    exact ⟨⟨zo, zl, zc, he, ho⟩, hb⟩
  have HPR : Hid (∀ xs ys : List Int, Pm p xs → Pm p ys → Pm p (prodL p xs ys)) := fun xs ys h1 h2 => prodL_pm hpr h1 h2
  have H1 : Hid (FRow p (w.alloc (.cells #[.int .u64 1] 25)) (some ⟨w.heap.size, 0, none⟩) 1 1 [1] ∧ Below w.heap.size w (w.alloc (.cells #[.int .u64 1] 25)) ∧ Pm p [1]) := by
    have hbk : Blk (w.alloc (.cells #[.int .u64 1] 25)) w.heap.size .u64 25 [1] := Blk.new w .u64 25 [1]
    have hw : Wd p [1] := fun z hz => by rw [List.mem_singleton.1 hz]; omega
    exact ⟨⟨(Own.whole hbk (Nat.le_refl _) rfl).row, hw, by decide⟩, (Below.refl _ _).alloc (Nat.le_refl _) _, hw, can_of_dig fun _ => by simp [dig]⟩
  clear hf hg hpr hp hp2 hfp hgp hlb'
  go_enter Tryd.func30, Tryd.ntmps30
  go_wp2_with (first
    | (go_at_call 29; have _t := HA; refine (HD.out _ ao la ca f (fun x => ev f x) HA.out.2 (HF.out.1.later HA.out.2) HF.out.2.2.1 (Md.of_eq fun x => rfl)).mono ?_; rintro e w3 ⟨⟨qo3, ql3, qc3, fo, fl, fc, f', rfl, hlf⟩, hb3⟩; have HB : Hid (LeftR p g w3 ro rl rc r (fun _ => 1) ∧ LeftR p g w3 fo fl fc f' (fun x => ev f x) ∧ Below w.heap.size w w3) := ⟨HA.out.1.later hb3, hlf, bnextM (B := 0) HA.out.2 hb3⟩; clear hlf hb3)
    | (go_at_call 29; refine (HD.out _ (some ⟨w.heap.size, 0, none⟩) 1 1 [1] (fun _ => 1) H1.out.2.1 H1.out.1 H1.out.2.2 (Md.of_eq fun x => by simp [ev])).mono ?_; rintro e w2 ⟨⟨qo, ql, qc, ro, rl, rc, r, rfl, hlr⟩, hb2⟩; have HA : Hid (LeftR p g w2 ro rl rc r (fun _ => 1) ∧ Below w.heap.size w w2) := ⟨hlr, bnextM (B := 0) H1.out.2.1 hb2⟩; clear hlr hb2))
  clear HA
  go_loopw [0, 1, 10] (fun s t u wr => ∃ (fo : Option Addr) (fl fc : Nat) (fv : List Int) (nv : Nat) (xo : Option Addr) (xl xc : Nat) (xv : List Int), s = .slice fo fl fc ∧ t = .int .u64 (nv : Int) ∧ u = .slice xo xl xc ∧ Hid (LeftR p g wr fo fl fc fv (fun x => ev fv x) ∧ LeftR p g wr xo xl xc xv (fun x => ev xv x) ∧ nv < 18446744073709551616 ∧ Md p g (fun x => ev xv x * ev fv x ^ nv) (fun x => ev f x ^ n) ∧ Below w.heap.size w wr)) (fun _ t _ _ => (intOf t).toNat)
  case atStart =>
    exact ⟨fo, fl, fc, f', n, ro, rl, rc, r, rfl, rfl, rfl, ⟨HB.out.2.1.1, HB.out.2.1.2.1, HB.out.2.1.2.2.1, Md.of_eq fun x => rfl⟩, ⟨HB.out.1.1, HB.out.1.2.1, HB.out.1.2.2.1, Md.of_eq fun x => rfl⟩, hn, ((HB.out.1.2.2.2.mul (HB.out.2.1.2.2.2.pow (IsP.ev f') (IsP.ev f) n) (IsP.ev r) ((IsP.ev f).pow n)).trans (Md.of_eq fun x => Int.one_mul _)), HB.out.2.2⟩
  case round =>
    obtain ⟨fo, fl, fc, fv, nv, xo, xl, xc, xv, rfl, rfl, rfl, HS⟩ := hrel
    by_cases h0 : nv = 0
    · subst h0
      have HE : Hid (Md p g (fun x => ev xv x) (fun x => ev f x ^ n)) := (Md.of_eq fun x => by simp).trans HS.out.2.2.2.1
      go_wp2
      go_ret
      exact ⟨xo, xl, xc, xv, rfl, HS.out.2.1.1, ⟨HS.out.2.1.2.1, HS.out.2.1.2.2.1, HE.out⟩, HS.out.2.2.2.2⟩
    · have q0 : (0 : Int) < (nv : Int) := by omega
      obtain ⟨m, hm⟩ : ∃ m, nv / 2 = m := ⟨_, rfl⟩
      have hd : (nv : Int).tdiv 2 = (m : Int) := by rw [Int.tdiv_eq_ediv_of_nonneg (by omega)]; omega
      have hd2 : (nv : Int) / 2 = (m : Int) := by omega
      have hnv : nv < 18446744073709551616 := HS.out.2.2.1
      have hmv : Hid (m < 18446744073709551616 ∧ m < nv ∧ nv / 2 = m) := ⟨by omega, by omega, hm⟩
      by_cases hb : nv % 2 = 1
      · have hmod : (nv : Int).tmod 2 = 1 := by rw [Int.tmod_eq_emod_of_nonneg (by omega)]; omega
        have hmod2 : (nv : Int) % 2 = 1 := by omega
        have HOD : Hid (nv % 2 = 1) := hb
        clear hm hb h0
        go_wp2_with (first
          | (go_at_call 29; have _t := HP2; refine (HD.out _ zo5 zl5 zc5 _ _ HP2.out.2.2 HP2.out.1 (HPR.out _ _ HS.out.1.2.1 HS.out.1.2.1) (Md.ofEqM g (prodL_eqm p fv fv))).mono ?_; rintro e w6 ⟨⟨qo6, ql6, qc6, so, sl, sc, s6, rfl, hl6⟩, hb6⟩; have HQ : Hid (LeftR p g w6 so sl sc s6 (fun x => ev fv x * ev fv x) ∧ LeftR p g w6 ro4 rl4 rc4 r4 (fun x => ev xv x * ev fv x) ∧ Below w.heap.size w w6) := ⟨hl6, HP2.out.2.1.later hb6, bnextM (B := 0) HP2.out.2.2 hb6⟩; clear hl6 hb6)
          | (go_at_call 13; have _t := HD1; refine (HM.out _ fo fo fl fc fl fc fv fv _ _ HD1.out.2.1 HD1.out.2.1).mono ?_; rintro e w5 ⟨⟨zo5, zl5, zc5, rfl, hz5⟩, hb5⟩; have HP2 : Hid (FRow p w5 zo5 zl5 zc5 (prodL p fv fv) ∧ LeftR p g w5 ro4 rl4 rc4 r4 (fun x => ev xv x * ev fv x) ∧ Below w.heap.size w w5) := ⟨hz5, HD1.out.1.later hb5, bnextM (B := 0) HD1.out.2.2 hb5⟩; clear hz5 hb5)
          | (go_at_call 29; have _t := HP1; refine (HD.out _ zo3 zl3 zc3 _ _ HP1.out.2.2 HP1.out.1 (HPR.out _ _ HS.out.2.1.2.1 HS.out.1.2.1) (Md.ofEqM g (prodL_eqm p xv fv))).mono ?_; rintro e w4 ⟨⟨qo4, ql4, qc4, ro4, rl4, rc4, r4, rfl, hl4⟩, hb4⟩; have HD1 : Hid (LeftR p g w4 ro4 rl4 rc4 r4 (fun x => ev xv x * ev fv x) ∧ LeftR p g w4 fo fl fc fv (fun x => ev fv x) ∧ Below w.heap.size w w4) := ⟨hl4, HP1.out.2.1.later hb4, bnextM (B := 0) HP1.out.2.2 hb4⟩; clear hl4 hb4)
          | (go_at_call 13; refine (HM.out _ xo fo xl xc fl fc xv fv _ _ HS.out.2.1 HS.out.1).mono ?_; rintro e w7 ⟨⟨zo3, zl3, zc3, rfl, hz3⟩, hb7⟩; have HP1 : Hid (FRow p w7 zo3 zl3 zc3 (prodL p xv fv) ∧ LeftR p g w7 fo fl fc fv (fun x => ev fv x) ∧ Below w.heap.size w w7) := ⟨hz3, HS.out.1.later hb7, bnextM (B := 0) HS.out.2.2.2.2 hb7⟩; clear hz3 hb7))
        go_roundw
        case rel => exact ⟨so, sl, sc, s6, m, ro4, rl4, rc4, r4, rfl, rfl, rfl, ⟨HQ.out.1.1, HQ.out.1.2.1, HQ.out.1.2.2.1, Md.of_eq fun x => rfl⟩, ⟨HQ.out.2.1.1, HQ.out.2.1.2.1, HQ.out.2.1.2.2.1, Md.of_eq fun x => rfl⟩, hmv.out.1, (by rw [← hmv.out.2.2]; exact pow_round_odd HOD.out HQ.out.2.1.2.2.2 HQ.out.1.2.2.2 HS.out.2.2.2.1), HQ.out.2.2⟩
        case measure => (have := hmv.out.2.1; simp [intOf]; omega)
      · have hmod : (nv : Int).tmod 2 = 0 := by rw [Int.tmod_eq_emod_of_nonneg (by omega)]; omega
        have hmod2 : (nv : Int) % 2 = 0 := by omega
        have HEV : Hid (nv % 2 = 0) := by show _ = _; omega
        clear hm hb h0
        go_wp2_with (first
          | (go_at_call 29; have _t := HP2; refine (HD.out _ zo5 zl5 zc5 _ _ HP2.out.2.2 HP2.out.1 (HPR.out _ _ HS.out.1.2.1 HS.out.1.2.1) (Md.ofEqM g (prodL_eqm p fv fv))).mono ?_; rintro e w6 ⟨⟨qo6, ql6, qc6, so, sl, sc, s6, rfl, hl6⟩, hb6⟩; have HQ : Hid (LeftR p g w6 so sl sc s6 (fun x => ev fv x * ev fv x) ∧ LeftR p g w6 xo xl xc xv (fun x => ev xv x) ∧ Below w.heap.size w w6) := ⟨hl6, HP2.out.2.1.later hb6, bnextM (B := 0) HP2.out.2.2 hb6⟩; clear hl6 hb6)
          | (go_at_call 13; refine (HM.out _ fo fo fl fc fl fc fv fv _ _ HS.out.1 HS.out.1).mono ?_; rintro e w5 ⟨⟨zo5, zl5, zc5, rfl, hz5⟩, hb5⟩; have HP2 : Hid (FRow p w5 zo5 zl5 zc5 (prodL p fv fv) ∧ LeftR p g w5 xo xl xc xv (fun x => ev xv x) ∧ Below w.heap.size w w5) := ⟨hz5, HS.out.2.1.later hb5, bnextM (B := 0) HS.out.2.2.2.2 hb5⟩; clear hz5 hb5))
        go_roundw
        case rel => exact ⟨so, sl, sc, s6, m, xo, xl, xc, xv, rfl, rfl, rfl, ⟨HQ.out.1.1, HQ.out.1.2.1, HQ.out.1.2.2.1, Md.of_eq fun x => rfl⟩, HQ.out.2.1, hmv.out.1, (by rw [← hmv.out.2.2]; exact pow_round_even HEV.out HQ.out.1.2.2.2 HS.out.2.2.2.1), HQ.out.2.2⟩
        case measure => (have := hmv.out.2.1; simp [intOf]; omega)
end Go.Proofs.YtnniipekcbjloaaDoor
/-
  Walks: timesPlain.
-/
namespace Go.Proofs.YtnniipekcbjloaaDoor
open Go.RowKit
set_option linter.unusedVariables false
set_option linter.unusedSimpArgs false
/-- x times the first k digits of y lies in Lk from off on; above it noughts -/
structure ProdSt (q : Int) (L x y : List Int) (off lx ly k : Nat) (Lk : List Int) : Prop where
  len : Lk.length = L.length
  out : ∀ j, j < off ∨ off + (lx + ly) ≤ j → dig Lk j = dig L j
  wd : Wd q Lk
  zero : ∀ j, off + (lx + k) ≤ j → j < off + (lx + ly) → dig Lk j = 0
  eq : V q Lk off (lx + k) = val q x * val q (y.take k)
theorem dig_splice {L cs : List Int} {off : Nat} (h : off + cs.length ≤ L.length) (j : Nat) : dig (splice L off cs) j = if j < off then dig L j else if j < off + cs.length then dig cs (j - off) else dig L j := by
  unfold splice dig
  simp only [List.getD_eq_getElem?_getD, List.getElem?_append, List.length_take, List.getElem?_take, List.getElem?_drop]
  rw [Nat.min_eq_left (by omega)]
  by_cases h1 : j < off
  · simp [h1]
  · by_cases h2 : j < off + cs.length
    · rw [if_neg h1, if_neg h1, if_pos h2, if_pos (by omega)]
    · rw [if_neg h1, if_neg h1, if_neg h2, if_neg (by omega)]
      congr 2; omega
theorem dig_zeros (n j : Nat) : dig (List.replicate n (0 : Int)) j = 0 := by
  unfold dig; simp only [List.getD_eq_getElem?_getD, List.getElem?_replicate]; split <;> rfl
theorem wd_splice {q : Int} {L cs : List Int} {off : Nat} (h : Wd q L) (hc : Wd q cs) : Wd q (splice L off cs) := by
  unfold splice; exact (h.take _).append (hc.append (h.drop _))
theorem wd_zeros {q : Int} (hq : 0 < q) (n : Nat) : Wd q (List.replicate n 0) := fun z hz => by
  have := List.eq_of_mem_replicate hz; subst this; exact ⟨Int.le_refl _, hq⟩
theorem V_zeros {q : Int} {L : List Int} {off k : Nat} (h : ∀ j, j < k → dig L (off + j) = 0) : V q L off k = 0 := by
  induction k with
  | zero => exact V_zero q L off
  | succ k ih => rw [V_succ, ih (fun j hj => h j (by omega)), h k (by omega)]; simp
theorem ProdSt.start {q : Int} (hq : 0 < q) {L x y : List Int} {off lx ly : Nat} (hW : Wd q L) (hl : off + (lx + ly) ≤ L.length) : ProdSt q L x y off lx ly 0 (splice L off (List.replicate (lx + ly) 0)) := by
  have hd := fun j => dig_splice (L := L) (cs := List.replicate (lx + ly) (0 : Int)) (off := off) (by simpa using hl) j
  simp only [List.length_replicate] at hd
  refine ⟨length_splice _ _ _ (by simpa using hl), fun j hj => ?_, wd_splice hW (wd_zeros hq _), fun j h1 h2 => ?_, ?_⟩
  · rw [hd]; rcases hj with h | h
    · rw [if_pos h]
    · rw [if_neg (by omega), if_neg (by omega)]
  · rw [hd, if_neg (by omega), if_pos h2, dig_zeros]
  · rw [V_zeros (fun j hj => by rw [hd, if_neg (by omega), if_pos (by omega), dig_zeros])]
    simp [val]
theorem ProdSt.step {q : Int} {L x y : List Int} {off lx ly k : Nat} {Lk L' : List Int} {c : Int} (h : ProdSt q L x y off lx ly k Lk) (hl : off + (lx + ly) ≤ L.length) (hk : k < ly) (hx : x.length ≤ lx)
    (hm : MulSt q Lk x (dig y k) (off + k) lx c L') : ProdSt q L x y off lx ly (k + 1) (L'.set (off + (k + lx)) c) := by
  have hlen : off + (k + lx) < L'.length := by rw [hm.len, h.len]; omega
  refine ⟨by simp [hm.len, h.len], fun j hj => ?_, hm.wd.set _ ⟨hm.c0, hm.c1⟩, fun j h1 h2 => ?_, ?_⟩
  · rw [dig_set _ hlen, if_neg (by omega), hm.out j (by omega)]; exact h.out j hj
  · rw [dig_set _ hlen, if_neg (by omega), hm.out j (by omega)]; exact h.zero j (by omega) h2
  · have e0 : lx + (k + 1) = k + (lx + 1) := by omega
    rw [e0, V_split]
    have e1 : V q (L'.set (off + (k + lx)) c) off k = V q Lk off k := V_congr fun j hj => by rw [dig_set _ hlen, if_neg (by omega), hm.out _ (by omega)]
    have e2 : V q (L'.set (off + (k + lx)) c) (off + k) lx = V q L' (off + k) lx := V_congr fun j hj => by rw [dig_set _ hlen, if_neg (by omega)]
    rw [V_succ, e1, e2, dig_set _ hlen, if_pos (by omega)]
    have e3 := hm.eq
    rw [List.take_of_length_le hx] at e3
    have e4 := h.eq
    have e5 : lx + k = k + lx := by omega
    rw [e5, V_split] at e4
    rw [val_take_dig]
    have e6 : q ^ lx * c = c * q ^ lx := Int.mul_comm _ _
    rw [e6, e3]
    grind
end Go.Proofs.YtnniipekcbjloaaDoor
/-
  EA, EB, EC, ED.
-/
/- Walks: takeOut. -/
namespace Go.Proofs.YtnniipekcbjloaaDoor
open Go.RowKit
set_option linter.unusedVariables false
set_option linter.unusedSimpArgs false
end Go.Proofs.YtnniipekcbjloaaDoor
/- Walks: takeOut. -/
namespace Go.Proofs.YtnniipekcbjloaaDoor
open Go.RowKit
set_option linter.unusedVariables false
set_option linter.unusedSimpArgs false
end Go.Proofs.YtnniipekcbjloaaDoor
/- Plain mathematics: Knuth's division, limb by limb. -/
namespace Go.Proofs.YtnniipekcbjloaaDoor
open Go.RowKit
set_option linter.unusedVariables false
set_option linter.unusedSimpArgs false
/-- the quotient's digits from place k on lie in Lq; what is left of X lies in Lu, below k + n -/
structure DivSt (q M X : Int) (n m k : Nat) (nu : Nat) (Lu Lq : List Int) : Prop where
  lu : Lu.length = nu
  lq : Lq.length = m
  wu : Wd q Lu
  wq : Wd q Lq
  eq : V q Lq k (m - k) * (q ^ k * M) + V q Lu 0 (k + n) = X
  lt : V q Lu 0 (k + n) < M * q ^ k
theorem DivSt.pre {q M X : Int} {n m k nu : Nat} {Lu Lq : List Int} (hq : 1 < q) (h : DivSt q M X n m (k + 1) nu Lu Lq) : V q Lu k (n + 1) < M * q := by
  have e := h.lt
  rw [show k + 1 + n = k + (n + 1) by omega, V_split, Int.pow_succ, Nat.zero_add] at e
  have h0 := V_nonneg (q := q) (by omega) h.wu 0 k
  have hp : 0 < q ^ k := Int.pow_pos (by omega)
  have e2 : q ^ k * V q Lu k (n + 1) < q ^ k * (M * q) := by
    have : M * (q ^ k * q) = q ^ k * (M * q) := by grind
    omega
  exact Int.lt_of_mul_lt_mul_left e2 (by omega)
theorem DivSt.step {q M X : Int} {n m k nu : Nat} {Lu Lq L' : List Int} {d : Int} (hq : 1 < q) (h : DivSt q M X n m (k + 1) nu Lu Lq) (hk : k < m) (hM : M < q ^ n) (hl : L'.length = Lu.length) (hw : Wd q L')
    (hout : ∀ j, j < k ∨ k + (n + 1) ≤ j → dig L' j = dig Lu j) (hd : 0 ≤ d ∧ d < q) (he : V q L' k (n + 1) + d * M = V q Lu k (n + 1)) (hlt : V q L' k (n + 1) < M) : DivSt q M X n m k nu L' (Lq.set k d) := by
  have hlk : k < Lq.length := by rw [h.lq]; exact hk
  have e0 : V q L' 0 k = V q Lu 0 k := V_congr fun j hj => by rw [hout _ (by omega)]
  have hp : 0 < q ^ k := Int.pow_pos (by omega)
  have hz : V q L' k (n + 1) = V q L' k n := by
    have a1 := V_nonneg (q := q) (by omega) hw k n
    have a2 := hw.dig (by omega) (k + n)
    rw [V_succ] at hlt ⊢
    by_cases h0 : dig L' (k + n) = 0
    · rw [h0]; simp
    · have : q ^ n * 1 ≤ q ^ n * dig L' (k + n) := Int.mul_le_mul_of_nonneg_left (by omega) (Int.le_of_lt (Int.pow_pos (by omega)))
      omega
  refine ⟨by rw [hl, h.lu], by simp [h.lq], hw, h.wq.set _ hd, ?_, ?_⟩
  · rw [show m - k = (m - (k + 1)) + 1 by omega, V_cons, dig_set _ hlk, if_pos rfl]
    have e1 : V q (Lq.set k d) (k + 1) (m - (k + 1)) = V q Lq (k + 1) (m - (k + 1)) := V_congr fun j hj => by rw [dig_set _ hlk, if_neg (by omega)]
    have e2 := h.eq
    rw [show k + 1 + n = k + (n + 1) by omega, V_split, Nat.zero_add, Int.pow_succ, ← he] at e2
    rw [e1, V_split, Nat.zero_add, e0, ← hz]
    grind
  · rw [V_split, Nat.zero_add, ← hz]
    have b1 := V_lt hq hw 0 k
    have : q ^ k * (V q L' k (n + 1) + 1) ≤ q ^ k * M := Int.mul_le_mul_of_nonneg_left (by omega) (by omega)
    rw [Int.mul_add, Int.mul_one] at this
    rw [Int.mul_comm M]; omega
end Go.Proofs.YtnniipekcbjloaaDoor
/- Walks: divideLong. -/
namespace Go.Proofs.YtnniipekcbjloaaDoor
open Go.RowKit
set_option linter.unusedVariables false
set_option linter.unusedSimpArgs false
/-- two slices lie in blocks of their own -/
def Parted (ao bo : Option Addr) : Prop := ∀ p q : Addr, ao = some p → bo = some q → p.block ≠ q.block
theorem Parted.none_ {bo : Option Addr} : Parted none bo := fun p q h => by cases h
theorem Parted.symm {ao bo : Option Addr} (h : Parted ao bo) : Parted bo ao := fun p q hp hq e => h q p hq hp e.symm
/-- the elder one lay there when the younger one was made -/
theorem Parted.made {B B' : Nat} {w w' : World} {t t' : TypeId} {ao bo : Option Addr} {l c l' c' : Nat} {zs ys : List Int} (h : Own B w .u64 t ao l c zs) (k : Own B' w' .u64 t' bo l' c' ys) (hs : w.heap.size ≤ B') : Parted ao bo := by
  intro p q hp hq
  rcases h with ⟨h1, _⟩ | ⟨g, off, cur, h1, h2, h3, _⟩
  · rw [h1] at hp; cases hp
  · rcases k with ⟨k1, _⟩ | ⟨g', off', cur', k1, k2, _⟩
    · rw [k1] at hq; cases hq
    · rw [h1] at hp; rw [k1] at hq
      cases hp; cases hq
      have := heap_lt h3
      show g ≠ g'
      omega
theorem below_less {B B' : Nat} {w w' : World} (h : Below B w w') (hB : B' ≤ B) : Below B' w w' := ⟨h.os, h.tape, h.output, h.size, fun k hk => h.block k (by omega)⟩
end Go.Proofs.YtnniipekcbjloaaDoor
/-
  EE, EF, EG, EH.
-/
/- Walks: divide. -/
namespace Go.Proofs.YtnniipekcbjloaaDoor
open Go.RowKit
set_option linter.unusedVariables false
set_option linter.unusedSimpArgs false
end Go.Proofs.YtnniipekcbjloaaDoor
/- Walks: shiftDown. -/
namespace Go.Proofs.YtnniipekcbjloaaDoor
open Go.RowKit
set_option linter.unusedVariables false
set_option linter.unusedSimpArgs false
theorem RowAt.drop {w : World} {k : IntKind} {b o len cap : Nat} {zs : List Int} (h : RowAt w k (some ⟨b, o, none⟩) len cap zs) {j : Nat} (hj : j < len) : RowAt w k (some ⟨b, o + j, none⟩) (len - j) (cap - j) (zs.drop j) := by
  obtain ⟨b', o', e, hlt, hc⟩ := h.get (by omega)
  cases e
  refine ⟨by simp [h.hlen], by have := h.hcap; omega, (fun e => by cases e), Or.inr ⟨b, o + j, rfl, hlt, fun t ht => ?_⟩⟩
  have := hc (j + t) (by omega)
  rw [dig_drop, Nat.add_assoc]; exact this
end Go.Proofs.YtnniipekcbjloaaDoor
/- Walks: shiftUp. -/
namespace Go.Proofs.YtnniipekcbjloaaDoor
open Go.RowKit
set_option linter.unusedVariables false
set_option linter.unusedSimpArgs false
end Go.Proofs.YtnniipekcbjloaaDoor
/- Mathematics of powers and roots. -/
namespace Go.Proofs.YtnniipekcbjloaaDoor
set_option linter.unusedVariables false
set_option linter.unusedSimpArgs false
end Go.Proofs.YtnniipekcbjloaaDoor
/-
  Walks: wakes.
-/
namespace Go.Proofs.YtnniipekcbjloaaDoor
open Go.RowKit
set_option linter.unusedVariables false
set_option linter.unusedSimpArgs false
theorem Own.int {B : Nat} {w : World} {neg : Bool} {ao : Option Addr} {l c : Nat} {v : Int} (h : Own B w .u64 25 ao l c (mag v.natAbs)) (hs : neg = sgB v) : IntAt w neg ao l c v := ⟨hs, h.row⟩
end Go.Proofs.YtnniipekcbjloaaDoor
/-
  WM, WN, WO.
-/
/- Walks: Small. -/
namespace Go.Proofs.YtnniipekcbjloaaDoor
open Go.RowKit
set_option linter.unusedVariables false
set_option linter.unusedSimpArgs false
end Go.Proofs.YtnniipekcbjloaaDoor
/- Walks: the page's own Small. -/
namespace Go.Proofs.YtnniipekcbjloaaDoor
open Go.RowKit
set_option linter.unusedVariables false
set_option linter.unusedSimpArgs false
end Go.Proofs.YtnniipekcbjloaaDoor
/- Walks: the law's own helpers. -/
namespace Go.Proofs.YtnniipekcbjloaaDoor
open Go.RowKit
set_option linter.unusedVariables false
set_option linter.unusedSimpArgs false
/-- two numbers and a count, handed in -/
def Five (W : World) (r : Nat) (na nb : Bool) (ao bo : Option Addr) (la ca lb cb : Nat) (n : Int) : Prop :=
  W.cell? ⟨r, 0, none⟩ = some (.bool na) ∧ W.cell? ⟨r, 1, none⟩ = some (.slice ao la ca) ∧ W.cell? ⟨r, 2, none⟩ = some (.bool nb) ∧ W.cell? ⟨r, 3, none⟩ = some (.slice bo lb cb) ∧ W.cell? ⟨r, 4, none⟩ = some (.int .i64 n)
theorem Five.later {W w2 : World} {r : Nat} {na nb : Bool} {ao bo : Option Addr} {la ca lb cb : Nat} {n : Int} (k : Five W r na nb ao bo la ca lb cb n) (h : Below W.heap.size W w2) (hr : r < W.heap.size) : Five w2 r na nb ao bo la ca lb cb n :=
  ⟨(h.cell (p := ⟨r, 0, none⟩) hr).trans k.1, (h.cell (p := ⟨r, 1, none⟩) hr).trans k.2.1, (h.cell (p := ⟨r, 2, none⟩) hr).trans k.2.2.1, (h.cell (p := ⟨r, 3, none⟩) hr).trans k.2.2.2.1, (h.cell (p := ⟨r, 4, none⟩) hr).trans k.2.2.2.2⟩
end Go.Proofs.YtnniipekcbjloaaDoor
/-
  A list of pairs of numbers, in memory.
-/
namespace Go.Proofs.YtnniipekcbjloaaDoor
open Go.RowKit
set_option linter.unusedVariables false
set_option linter.unusedSimpArgs false
/-- two numbers and a count lie in block b from o on: whatever they are -/
def ElemAt (w : World) (b o : Nat) : Prop :=
  ∃ (na nb : Bool) (ao bo : Option Addr) (la ca lb cb : Nat) (n : Int) (x y : List Int),
    (w.cell? ⟨b, o, none⟩ = some (.bool na) ∧ w.cell? ⟨b, o + 1, none⟩ = some (.slice ao la ca) ∧ w.cell? ⟨b, o + 2, none⟩ = some (.bool nb) ∧ w.cell? ⟨b, o + 3, none⟩ = some (.slice bo lb cb) ∧ w.cell? ⟨b, o + 4, none⟩ = some (.int .i64 n)) ∧
    RowAt w .u64 ao la ca x ∧ Wd 18446744073709551616 x ∧ RowAt w .u64 bo lb cb y ∧ Wd 18446744073709551616 y ∧ -9223372036854775808 ≤ n ∧ n ≤ 9223372036854775807
theorem ElemAt.later {w w' : World} {b o : Nat} (h : ElemAt w b o) (hb : Below w.heap.size w w') (hlt : b < w.heap.size) : ElemAt w' b o := by
  obtain ⟨na, nb, ao, bo, la, ca, lb, cb, n, x, y, ⟨h0, h1, h2, h3, h4⟩, hx, wx, hy, wy, hn⟩ := h
  exact ⟨na, nb, ao, bo, la, ca, lb, cb, n, x, y, ⟨(hb.cell (p := ⟨b, o, none⟩) hlt).trans h0, (hb.cell (p := ⟨b, o + 1, none⟩) hlt).trans h1, (hb.cell (p := ⟨b, o + 2, none⟩) hlt).trans h2, (hb.cell (p := ⟨b, o + 3, none⟩) hlt).trans h3, (hb.cell (p := ⟨b, o + 4, none⟩) hlt).trans h4⟩, hx.later hb, wx, hy.later hb, wy, hn⟩
end Go.Proofs.YtnniipekcbjloaaDoor
