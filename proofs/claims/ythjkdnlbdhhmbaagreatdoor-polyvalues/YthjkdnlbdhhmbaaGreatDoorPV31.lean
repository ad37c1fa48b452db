/-
  A pack of walks and facts: TP.
-/
import Derived.Test.YthjkdnlbdhhmbaaGreatDoorPV30
set_option maxRecDepth 100000
set_option maxHeartbeats 40000000
set_option linter.unusedVariables false
set_option linter.unusedSimpArgs false
namespace Go.Proofs.YthjkdnlbdhhmbaaGreatDoor
open Go.RowKit
theorem Bx.rowAt {w : World} {r j : Nat} {vs ws : List Value} {p : Option Addr} {m k : Nat} {zs : List Int} (h : Bx w r vs) (hn : NoWord vs) (hl : j + ws.length ≤ vs.length) (hr : RowAt w .u64 p m k zs) : RowAt (putl w r j ws) .u64 p m k zs := by
 refine ⟨hr.hlen, hr.hcap, hr.hnil, ?_⟩
 rcases hr.hat with h0 | ⟨b, off, h1, hlt, h2⟩
 ·
  exact Or.inl h0
 ·
  refine Or.inr ⟨b, off, h1, by rw [putl_size]; exact hlt, fun t ht => ?_⟩
  have h3 := h2 t ht
  by_cases e : b = r
  ·
   subst e
   by_cases h4 : off + t < vs.length
   ·
    have h5 := h.1 (off + t) vs[off + t] (List.getElem?_eq_getElem h4)
    rw [h3] at h5
    exact absurd (Option.some.inj h5).symm (hn _ (List.getElem_mem h4) _)
   ·
    rw [putl_high ws j w (by omega)]; exact h3
  ·
   rw [putl_off e ws j w]; exact h3
theorem Bx.ratAt {w : World} {r j : Nat} {vs ws : List Value} {n : Bool} {o p : Option Addr} {l c m k : Nat} {a : Rat} (h : Bx w r vs) (hn : NoWord vs) (hl : j + ws.length ≤ vs.length) (hr : RatAt w n o l c p m k a) : RatAt (putl w r j ws) n o l c p m k a :=
 ⟨⟨hr.num.sg, h.rowAt hn hl hr.num.row⟩, h.rowAt hn hl hr.den⟩
theorem Bx.putLo {w : World} {r : Nat} {a b c d e f x y z : Value} (h : Bx w r [a, b, c, d, e, f]) : Bx (putl w r 0 [x, y, z]) r [x, y, z, d, e, f] := by
 have k := putl_at (r := r) [x, y, z] [a, b, c] 0 w rfl (fun i v hi => by
  rw [Nat.zero_add]
  refine h.1 i v ?_
  have hlt : i < [a, b, c].length := by
   rcases Nat.lt_or_ge i [a, b, c].length with q | q
   ·
    exact q
   ·
    rw [List.getElem?_eq_none q] at hi; cases hi
  rw [show [a, b, c, d, e, f] = [a, b, c] ++ [d, e, f] from rfl, List.getElem?_append_left hlt]; exact hi)
 refine ⟨fun i v hi => ?_, fun j => (putl_frozen _ 0 w).trans (h.2 j)⟩
 by_cases hlt : i < 3
 ·
  have := k i v (by rw [show [x, y, z, d, e, f] = [x, y, z] ++ [d, e, f] from rfl, List.getElem?_append_left (by exact hlt)] at hi; exact hi)
  rwa [Nat.zero_add] at this
 ·
  rw [putl_high _ 0 w (by show 0 + 3 ≤ i; omega)]
  refine h.1 i v ?_
  rw [show [x, y, z, d, e, f] = [x, y, z] ++ [d, e, f] from rfl, List.getElem?_append_right (by show 3 ≤ i; omega)] at hi
  rw [show [a, b, c, d, e, f] = [a, b, c] ++ [d, e, f] from rfl, List.getElem?_append_right (by show 3 ≤ i; omega)]
  exact hi
theorem Bx.putHi {w : World} {r : Nat} {a b c d e f x y z : Value} (h : Bx w r [a, b, c, d, e, f]) : Bx (putl w r 3 [x, y, z]) r [a, b, c, x, y, z] := by
 have k := putl_at (r := r) [x, y, z] [d, e, f] 3 w rfl (fun i v hi => by
  refine h.1 (3 + i) v ?_
  rw [show [a, b, c, d, e, f] = [a, b, c] ++ [d, e, f] from rfl, List.getElem?_append_right (by show 3 ≤ 3 + i; omega)]
  rw [show 3 + i - [a, b, c].length = i by show 3 + i - 3 = i; omega]; exact hi)
 refine ⟨fun i v hi => ?_, fun j => (putl_frozen _ 3 w).trans (h.2 j)⟩
 by_cases hlt : i < 3
 ·
  rw [putl_low _ 3 w hlt]
  refine h.1 i v ?_
  rw [show [a, b, c, x, y, z] = [a, b, c] ++ [x, y, z] from rfl, List.getElem?_append_left (by exact hlt)] at hi
  rw [show [a, b, c, d, e, f] = [a, b, c] ++ [d, e, f] from rfl, List.getElem?_append_left (by exact hlt)]
  exact hi
 ·
  have := k (i - 3) v (by rw [show [a, b, c, x, y, z] = [a, b, c] ++ [x, y, z] from rfl, List.getElem?_append_right (by show 3 ≤ i; omega)] at hi; exact hi)
  rwa [show 3 + (i - 3) = i by omega] at this
def RList (w : World) (g n : Nat) (x : Nat → Rat) : Prop := ∀ i, i < n → ∃ n9 o9 l9 c9 p9 m9 k9, (w.cell? ⟨g, i * 3, none⟩ = some (.bool n9) ∧ w.cell? ⟨g, i * 3 + 1, none⟩ = some (.slice o9 l9 c9) ∧ w.cell? ⟨g, i * 3 + 2, none⟩ = some (.slice p9 m9 k9)) ∧ RatAt w n9 o9 l9 c9 p9 m9 k9 (x i)
theorem RList.lt {w : World} {g n : Nat} {x : Nat → Rat} (h : RList w g n x) (hn : 0 < n) : g < w.heap.size := by
 obtain ⟨n9, o9, l9, c9, p9, m9, k9, h1, _⟩ := h 0 hn
 exact cell_lt h1.1
theorem RList.later {w w' : World} {g n : Nat} {x : Nat → Rat} (h : RList w g n x) (hb : Below w.heap.size w w') : RList w' g n x := fun i hi => by
 obtain ⟨n9, o9, l9, c9, p9, m9, k9, h1, h2⟩ := h i hi
 have hlt := cell_lt h1.1
 exact ⟨n9, o9, l9, c9, p9, m9, k9, ⟨(hb.cell (p := ⟨g, i * 3, none⟩) hlt).trans h1.1, (hb.cell (p := ⟨g, i * 3 + 1, none⟩) hlt).trans h1.2.1, (hb.cell (p := ⟨g, i * 3 + 2, none⟩) hlt).trans h1.2.2⟩, h2.later hb⟩
theorem minQ_self (a : Rat) : minQ a a = a := by unfold minQ; split <;> rfl
theorem maxQ_self (a : Rat) : maxQ a a = a := by unfold maxQ; split <;> rfl
theorem loK_szn {x : Nat → Rat} {n s : Nat} (h0 : 0 < n) (h : ∀ i, i < n → Sz (x i) s) : ∀ k, k ≤ n → Sz (loK x k) s ∧ Sz (hiK x k) s
 | 0, _ => ⟨h 0 h0, h 0 h0⟩
 | k + 1, hk => ⟨(loK_szn h0 h k (by omega)).1.min (h k (by omega)), (loK_szn h0 h k (by omega)).2.max (h k (by omega))⟩
theorem pround_any (g n cap : Nat) (x : Nat → Rat) (w : World) (hE : RList w g n x) (h1 : 1 ≤ n) (h4 : n ≤ 4) (hs : ∀ i, i < n → Sz (x i) 1000) :
  Calls Tryz.prog 64 #[.slice (some ⟨g, 0, none⟩) n cap] w fun e w' => SpW w w' e (loK x n) (hiK x n) := by
 obtain ⟨W, hW, hsz, hbW, hR⟩ := enter1 w [.bool false, .slice none 0 0, .slice none 0 0, .bool false, .slice none 0 0, .slice none 0 0] 32
 have hgW : g < w.heap.size := hE.lt h1
 have HE : Hid (RList W g n x) := hE.later hbW
 have HS : Hid ((∀ k, k ≤ n → Sz (loK x k) 1000 ∧ Sz (hiK x k) 1000) ∧ ∀ i, i < n → Sz (x i) 1000) := ⟨loK_szn h1 hs, hs⟩
 have hn0 : (0 : Int) < (n : Int) := by omega
 clear hE hs
 go_enter Tryz.func64, Tryz.ntmps64
 go_upto_region 1 with fail
 rw [← hW]
 clear hW
 go_cut [3] (fun s3 wx => ∃ r3 n7 o7 l7 c7 p7 m7 k7 n8 o8 l8 c8 p8 m8 k8, s3 = .pointer (some ⟨r3, 0, none⟩) ∧ Bx wx r3 [.bool n7, .slice o7 l7 c7, .slice p7 m7 k7, .bool n8, .slice o8 l8 c8, .slice p8 m8 k8] ∧ RatAt wx n7 o7 l7 c7 p7 m7 k7 (x 0) ∧ RatAt wx n8 o8 l8 c8 p8 m8 k8 (x 0) ∧ W.heap.size ≤ r3 ∧ Below W.heap.size W wx)
 case first =>
  obtain ⟨n9, o9, l9, c9, p9, m9, k9, ⟨e0, e1, e2⟩, h9⟩ := HE.out 0 h1
  rw [Nat.zero_mul] at e0 e1 e2
  rw [Nat.zero_add] at e1 e2
  have H9 : Hid (RatAt W n9 o9 l9 c9 p9 m9 k9 (x 0)) := h9
  clear h9
  go_wp2_with (go_at_call 38; refine (pof_any n9 o9 p9 l9 c9 m9 k9 (x 0) _ H9.out).mono ?_; rintro e y ⟨n7, o7, l7, c7, p7, m7, k7, n8, o8, l8, c8, p8, m8, k8, rfl, h7, h8, hb⟩; have HN : Hid (RatAt y n7 o7 l7 c7 p7 m7 k7 (x 0) ∧ RatAt y n8 o8 l8 c8 p8 m8 k8 (x 0) ∧ Below W.heap.size W y) := ⟨h7, h8, hb⟩; clear h7 h8 hb)
  go_meet
  exact ⟨_, n7, o7, l7, c7, p7, m7, k7, n8, o8, l8, c8, p8, m8, k8, rfl, Bx.new _ _ _, HN.out.1.later ((Below.refl _ _).alloc (Nat.le_refl _) _), HN.out.2.1.later ((Below.refl _ _).alloc (Nat.le_refl _) _), HN.out.2.2.size, below_alloc HN.out.2.2 (Nat.le_refl _)⟩
 case rest =>
  obtain ⟨r3, n7, o7, l7, c7, p7, m7, k7, n8, o8, l8, c8, p8, m8, k8, rfl, hb3, h7, h8, hz3, hbX⟩ := hcut
  obtain ⟨X, hX⟩ : ∃ X, X = wc := ⟨_, rfl⟩
  rw [← hX] at hb3 h7 h8 hbX
  rw [← hX]
  clear hX
  have H0 : Hid (Bx X r3 [.bool n7, .slice o7 l7 c7, .slice p7 m7 k7, .bool n8, .slice o8 l8 c8, .slice p8 m8 k8] ∧ RatAt X n7 o7 l7 c7 p7 m7 k7 (loK x 1) ∧ RatAt X n8 o8 l8 c8 p8 m8 k8 (hiK x 1)) := ⟨hb3, (by show RatAt _ _ _ _ _ _ _ _ (minQ (x 0) (x 0)); rw [minQ_self]; exact h7), (by show RatAt _ _ _ _ _ _ _ _ (maxQ (x 0) (x 0)); rw [maxQ_self]; exact h8)⟩
  clear hb3 h7 h8
  go_wp2
  go_loopw [4] (fun i wr => ∃ k : Nat, ∃ n7 o7 l7 c7 p7 m7 k7 n8 o8 l8 c8 p8 m8 k8, i = .int .i64 (k : Int) ∧ 1 ≤ k ∧ k ≤ n ∧ Hid (Bx wr r3 [.bool n7, .slice o7 l7 c7, .slice p7 m7 k7, .bool n8, .slice o8 l8 c8, .slice p8 m8 k8] ∧ RatAt wr n7 o7 l7 c7 p7 m7 k7 (loK x k) ∧ RatAt wr n8 o8 l8 c8 p8 m8 k8 (hiK x k)) ∧ Below W.heap.size W wr) (fun i _ => n - (intOf i).toNat)
  case atStart => exact ⟨1, n7, o7, l7, c7, p7, m7, k7, n8, o8, l8, c8, p8, m8, k8, rfl, Nat.le_refl _, h1, H0.out, hbX⟩
  case round =>
   obtain ⟨k, n7, o7, l7, c7, p7, m7, k7, n8, o8, l8, c8, p8, m8, k8, rfl, hk1, hk, HK, hbr⟩ := hrel
   obtain ⟨Y, hY⟩ : ∃ Y, Y = wr := ⟨_, rfl⟩
   rw [← hY] at HK hbr
   rw [← hY]
   clear hY H0 hbX
   by_cases hkn : k < n
   ·
     have hkn' : (k : Int) < (n : Int) := by omega
     obtain ⟨n9, o9, l9, c9, p9, m9, k9, he9, h9⟩ := HE.out k hkn
     have H9 : Hid (RatAt W n9 o9 l9 c9 p9 m9 k9 (x k)) := h9
     have HEC : Hid (∀ w', Below W.heap.size W w' → w'.cell? ⟨g, k * 3, none⟩ = some (.bool n9) ∧ w'.cell? ⟨g, k * 3 + 1, none⟩ = some (.slice o9 l9 c9) ∧ w'.cell? ⟨g, k * 3 + 2, none⟩ = some (.slice p9 m9 k9)) := fun w' h => ⟨(h.cell (p := ⟨g, k * 3, none⟩) (by show g < _; omega)).trans he9.1, (h.cell (p := ⟨g, k * 3 + 1, none⟩) (by show g < _; omega)).trans he9.2.1, (h.cell (p := ⟨g, k * 3 + 2, none⟩) (by show g < _; omega)).trans he9.2.2⟩
     clear he9 h9
     obtain ⟨d1, hd1⟩ : ∃ c, cmpQ (x k) (loK x k) = c := ⟨_, rfl⟩
     obtain ⟨d2, hd2⟩ : ∃ c, cmpQ (x k) (hiK x k) = c := ⟨_, rfl⟩
     have HCC : Hid (cmpQ (x k) (loK x k) = d1 ∧ cmpQ (x k) (hiK x k) = d2) := ⟨hd1, hd2⟩
     have HLO : Hid (loK x (k + 1) = if d1 < 0 then x k else loK x k) := (by show minQ (loK x k) (x k) = _; unfold minQ; rw [hd1])
     have HHI : Hid (hiK x (k + 1) = if 0 < d2 then x k else hiK x k) := (by show maxQ (hiK x k) (x k) = _; unfold maxQ; rw [hd2])
     clear hd1 hd2
     have hbY : Below W.heap.size W Y := hbr
     go_upto_region 5 with fail
     have K5 : Hid (∀ w' : World, Below Y.heap.size Y w' → w'.cell? ⟨r3, 0, none⟩ = some (.bool n7) ∧ w'.cell? ⟨r3, 1, none⟩ = some (.slice o7 l7 c7) ∧ w'.cell? ⟨r3, 2, none⟩ = some (.slice p7 m7 k7) ∧ w'.cell? ⟨g, k * 3, none⟩ = some (.bool n9) ∧ w'.cell? ⟨g, k * 3 + 1, none⟩ = some (.slice o9 l9 c9) ∧ w'.cell? ⟨g, k * 3 + 2, none⟩ = some (.slice p9 m9 k9)) := fun w' h => (by have zb := HK.out.1.later h HK.out.1.lt; obtain ⟨e0, e1, e2⟩ := HEC.out w' (bnext hbY h); exact ⟨zb.1 0 _ rfl, zb.1 1 _ rfl, zb.1 2 _ rfl, e0, e1, e2⟩)
     refine wp_region_noPanic ?_
     refine wp_region_held_drew (S := fun w' => (w'.cell? ⟨r3, 0, none⟩ = some (.bool n7) ∧ w'.cell? ⟨r3, 1, none⟩ = some (.slice o7 l7 c7) ∧ w'.cell? ⟨r3, 2, none⟩ = some (.slice p7 m7 k7) ∧ w'.cell? ⟨g, k * 3, none⟩ = some (.bool n9) ∧ w'.cell? ⟨g, k * 3 + 1, none⟩ = some (.slice o9 l9 c9) ∧ w'.cell? ⟨g, k * 3 + 2, none⟩ = some (.slice p9 m9 k9))) (by kernel_rfl) (by (try dsimp only); exact K5.out _ (Below.refl _ _).drew) (fun hHeld => ?_)
     refine wpAnyH_take (i := 0) (oi := Oper.mk (some 15) _ _ _ _ _) (v := ?_) rfl (by decide +kernel) (by decide +kernel) (by decide +kernel) (fun _ _ _ h => h) (Or.inl ⟨by rfl, ?_⟩) (by assumption) ?_
     rotate_left
     ·
      (intro w hSw; (try dsimp only at hSw); go_simp <;> (try with_reducible rfl))
     (try simp only [Act.put, List.setIfInBounds_toArray, List.set_cons_zero, List.set_cons_succ])
     refine wpAnyH_take (i := 1) (oi := Oper.mk (some 16) _ _ _ _ _) (v := ?_) rfl (by decide +kernel) (by decide +kernel) (by decide +kernel) (fun _ _ _ h => h) (Or.inl ⟨by rfl, ?_⟩) (by assumption) ?_
     rotate_left
     ·
      (intro w hSw; (try dsimp only at hSw); go_simp <;> (try with_reducible rfl))
     (try simp only [Act.put, List.setIfInBounds_toArray, List.set_cons_zero, List.set_cons_succ])
     refine wpAnyH_take (i := 2) (oi := Oper.mk (some 17) _ _ _ _ _) (v := ?_) rfl (by decide +kernel) (by decide +kernel) (by decide +kernel) (fun _ _ _ h => h) (Or.inl ⟨by rfl, ?_⟩) (by assumption) ?_
     rotate_left
     ·
      (intro w hSw; (try dsimp only at hSw); go_simp <;> (try with_reducible rfl))
     (try simp only [Act.put, List.setIfInBounds_toArray, List.set_cons_zero, List.set_cons_succ])
     refine wpAnyH_take (i := 3) (oi := Oper.mk (some 18) _ _ _ _ _) (v := ?_) rfl (by decide +kernel) (by decide +kernel) (by decide +kernel) (fun _ _ _ h => h) (Or.inl ⟨by rfl, ?_⟩) (by assumption) ?_
     rotate_left
     ·
      (intro w hSw; (try dsimp only at hSw); go_simp <;> (try with_reducible rfl))
     (try simp only [Act.put, List.setIfInBounds_toArray, List.set_cons_zero, List.set_cons_succ])
     refine wpAnyH_take (i := 4) (oi := Oper.mk (some 19) _ _ _ _ _) (v := ?_) rfl (by decide +kernel) (by decide +kernel) (by decide +kernel) (fun _ _ _ h => h) (Or.inl ⟨by rfl, ?_⟩) (by assumption) ?_
     rotate_left
     ·
      (intro w hSw; (try dsimp only at hSw); go_simp <;> (try with_reducible rfl))
     (try simp only [Act.put, List.setIfInBounds_toArray, List.set_cons_zero, List.set_cons_succ])
     refine wpAnyH_take (i := 5) (oi := Oper.mk (some 20) _ _ _ _ _) (v := ?_) rfl (by decide +kernel) (by decide +kernel) (by decide +kernel) (fun _ _ _ h => h) (Or.inl ⟨by rfl, ?_⟩) (by assumption) ?_
     rotate_left
     ·
      (intro w hSw; (try dsimp only at hSw); go_simp <;> (try with_reducible rfl))
     (try simp only [Act.put, List.setIfInBounds_toArray, List.set_cons_zero, List.set_cons_succ])
     refine wpAnyH_ready (rs := [6]) (by decide +kernel) (by simp) ?_
     refine AllReadyH.cons (o := Oper.mk (some 21) _ _ _ _ _) rfl (fun K hK => ?_) AllReadyH.nil
     go_simp
     (go_at_call 26; refine (qcmp_any n9 n7 o9 p9 o7 p7 l9 c9 m9 k9 l7 c7 m7 k7 (x k) (loK x k) _ (H9.out.later (bnext hbY (Below.refl _ _).drew)) (HK.out.2.1.later (Below.refl _ _).drew) (HS.out.2 k hkn) (HS.out.1 k hk).1 d1 HCC.out.1).mono ?_; rintro e f1 ⟨rfl, hb⟩; skip; have hbF1 : Below Y.heap.size Y f1 := bnext (Below.refl _ _).drew hb; clear hb)
     (try go_wp2_with fail)
     clear hHeld
     refine hK.out _ _ (by (try dsimp only); first | exact K5.out _ (Below.refl _ _).drew | exact K5.out _ (by assumption)) (fun hHeld => ?_)
     clear hK K
     (try simp only [Act.put, List.setIfInBounds_toArray, List.set_cons_zero, List.set_cons_succ])
     refine wpAnyH_take (i := 7) (oi := Oper.mk (some 22) _ _ _ _ _) (v := ?_) rfl (by decide +kernel) (by decide +kernel) (by decide +kernel) (fun _ _ _ h => h) (Or.inl ⟨by rfl, ?_⟩) (by assumption) ?_
     rotate_left
     ·
      (intro w hSw; (try dsimp only at hSw); go_simp <;> (try with_reducible rfl))
     (try simp only [Act.put, List.setIfInBounds_toArray, List.set_cons_zero, List.set_cons_succ])
     refine wpAnyH_done (by decide +kernel) ?_ _
     refine NoPanic.normal ?_
     by_cases hd1 : d1 < 0
     ·
      have hB := HK.out.1.later hbF1 HK.out.1.lt
      have b0 := hB.1 0 _ rfl; have b1 := hB.1 1 _ rfl; have b2 := hB.1 2 _ rfl; have b3 := hB.1 3 _ rfl; have b4 := hB.1 4 _ rfl; have b5 := hB.1 5 _ rfl; have bf := hB.2
      obtain ⟨e0, e1, e2⟩ := HEC.out f1 (bnext hbY hbF1)
      have hnr : ¬ g = r3 := by omega
      go_upto_region 7 with fail
      have HZ : Hid (Bx (((f1.setCell ⟨r3, 0, none⟩ (.bool n9)).setCell ⟨r3, 1, none⟩ (.slice o9 l9 c9)).setCell ⟨r3, 2, none⟩ (.slice p9 m9 k9)) r3 [.bool n9, .slice o9 l9 c9, .slice p9 m9 k9, .bool n8, .slice o8 l8 c8, .slice p8 m8 k8] ∧ RatAt (((f1.setCell ⟨r3, 0, none⟩ (.bool n9)).setCell ⟨r3, 1, none⟩ (.slice o9 l9 c9)).setCell ⟨r3, 2, none⟩ (.slice p9 m9 k9)) n9 o9 l9 c9 p9 m9 k9 (loK x (k + 1)) ∧ RatAt (((f1.setCell ⟨r3, 0, none⟩ (.bool n9)).setCell ⟨r3, 1, none⟩ (.slice o9 l9 c9)).setCell ⟨r3, 2, none⟩ (.slice p9 m9 k9)) n8 o8 l8 c8 p8 m8 k8 (hiK x k)) := ⟨hB.putLo, hB.ratAt (by simp [NoWord]) (ws := [.bool n9, .slice o9 l9 c9, .slice p9 m9 k9]) (j := 0) (by simp) (by rw [HLO.out, if_pos hd1]; exact H9.out.later (bnext hbY hbF1)), hB.ratAt (by simp [NoWord]) (ws := [.bool n9, .slice o9 l9 c9, .slice p9 m9 k9]) (j := 0) (by simp) (HK.out.2.2.later hbF1)⟩
      have hbZ : Below W.heap.size W (((f1.setCell ⟨r3, 0, none⟩ (.bool n9)).setCell ⟨r3, 1, none⟩ (.slice o9 l9 c9)).setCell ⟨r3, 2, none⟩ (.slice p9 m9 k9)) := putl_below (r := r3) hz3 [.bool n9, .slice o9 l9 c9, .slice p9 m9 k9] 0 _ (bnext hbY hbF1)
      clear hB b0 b1 b2 b3 b4 b5 bf e0 e1 e2 hHeld
      generalize (((f1.setCell ⟨r3, 0, none⟩ (.bool n9)).setCell ⟨r3, 1, none⟩ (.slice o9 l9 c9)).setCell ⟨r3, 2, none⟩ (.slice p9 m9 k9)) = Z at *
      clear hbF1 K5
      have K7 : Hid (∀ w' : World, Below Z.heap.size Z w' → w'.cell? ⟨r3, 3, none⟩ = some (.bool n8) ∧ w'.cell? ⟨r3, 4, none⟩ = some (.slice o8 l8 c8) ∧ w'.cell? ⟨r3, 5, none⟩ = some (.slice p8 m8 k8) ∧ w'.cell? ⟨g, k * 3, none⟩ = some (.bool n9) ∧ w'.cell? ⟨g, k * 3 + 1, none⟩ = some (.slice o9 l9 c9) ∧ w'.cell? ⟨g, k * 3 + 2, none⟩ = some (.slice p9 m9 k9)) := fun w' h => (by have zb := HZ.out.1.later h HZ.out.1.lt; obtain ⟨e0, e1, e2⟩ := HEC.out w' (bnext hbZ h); exact ⟨zb.1 3 _ rfl, zb.1 4 _ rfl, zb.1 5 _ rfl, e0, e1, e2⟩)
      refine wp_region_noPanic ?_
      refine wp_region_held_drew (S := fun w' => (w'.cell? ⟨r3, 3, none⟩ = some (.bool n8) ∧ w'.cell? ⟨r3, 4, none⟩ = some (.slice o8 l8 c8) ∧ w'.cell? ⟨r3, 5, none⟩ = some (.slice p8 m8 k8) ∧ w'.cell? ⟨g, k * 3, none⟩ = some (.bool n9) ∧ w'.cell? ⟨g, k * 3 + 1, none⟩ = some (.slice o9 l9 c9) ∧ w'.cell? ⟨g, k * 3 + 2, none⟩ = some (.slice p9 m9 k9))) (by kernel_rfl) (by (try dsimp only); exact K7.out _ (Below.refl _ _).drew) (fun hHeld => ?_)
      refine wpAnyH_take (i := 0) (oi := Oper.mk (some 28) _ _ _ _ _) (v := ?_) rfl (by decide +kernel) (by decide +kernel) (by decide +kernel) (fun _ _ _ h => h) (Or.inl ⟨by rfl, ?_⟩) (by assumption) ?_
      rotate_left
      ·
       (intro w hSw; (try dsimp only at hSw); go_simp <;> (try with_reducible rfl))
      (try simp only [Act.put, List.setIfInBounds_toArray, List.set_cons_zero, List.set_cons_succ])
      refine wpAnyH_take (i := 1) (oi := Oper.mk (some 29) _ _ _ _ _) (v := ?_) rfl (by decide +kernel) (by decide +kernel) (by decide +kernel) (fun _ _ _ h => h) (Or.inl ⟨by rfl, ?_⟩) (by assumption) ?_
      rotate_left
      ·
       (intro w hSw; (try dsimp only at hSw); go_simp <;> (try with_reducible rfl))
      (try simp only [Act.put, List.setIfInBounds_toArray, List.set_cons_zero, List.set_cons_succ])
      refine wpAnyH_take (i := 2) (oi := Oper.mk (some 30) _ _ _ _ _) (v := ?_) rfl (by decide +kernel) (by decide +kernel) (by decide +kernel) (fun _ _ _ h => h) (Or.inl ⟨by rfl, ?_⟩) (by assumption) ?_
      rotate_left
      ·
       (intro w hSw; (try dsimp only at hSw); go_simp <;> (try with_reducible rfl))
      (try simp only [Act.put, List.setIfInBounds_toArray, List.set_cons_zero, List.set_cons_succ])
      refine wpAnyH_take (i := 3) (oi := Oper.mk (some 31) _ _ _ _ _) (v := ?_) rfl (by decide +kernel) (by decide +kernel) (by decide +kernel) (fun _ _ _ h => h) (Or.inl ⟨by rfl, ?_⟩) (by assumption) ?_
      rotate_left
      ·
       (intro w hSw; (try dsimp only at hSw); go_simp <;> (try with_reducible rfl))
      (try simp only [Act.put, List.setIfInBounds_toArray, List.set_cons_zero, List.set_cons_succ])
      refine wpAnyH_take (i := 4) (oi := Oper.mk (some 32) _ _ _ _ _) (v := ?_) rfl (by decide +kernel) (by decide +kernel) (by decide +kernel) (fun _ _ _ h => h) (Or.inl ⟨by rfl, ?_⟩) (by assumption) ?_
      rotate_left
      ·
       (intro w hSw; (try dsimp only at hSw); go_simp <;> (try with_reducible rfl))
      (try simp only [Act.put, List.setIfInBounds_toArray, List.set_cons_zero, List.set_cons_succ])
      refine wpAnyH_take (i := 5) (oi := Oper.mk (some 33) _ _ _ _ _) (v := ?_) rfl (by decide +kernel) (by decide +kernel) (by decide +kernel) (fun _ _ _ h => h) (Or.inl ⟨by rfl, ?_⟩) (by assumption) ?_
      rotate_left
      ·
       (intro w hSw; (try dsimp only at hSw); go_simp <;> (try with_reducible rfl))
      (try simp only [Act.put, List.setIfInBounds_toArray, List.set_cons_zero, List.set_cons_succ])
      refine wpAnyH_ready (rs := [6]) (by decide +kernel) (by simp) ?_
      refine AllReadyH.cons (o := Oper.mk (some 34) _ _ _ _ _) rfl (fun K hK => ?_) AllReadyH.nil
      go_simp
      (go_at_call 26; refine (qcmp_any n9 n8 o9 p9 o8 p8 l9 c9 m9 k9 l8 c8 m8 k8 (x k) (hiK x k) _ (H9.out.later (bnext hbZ (Below.refl _ _).drew)) (HZ.out.2.2.later (Below.refl _ _).drew) (HS.out.2 k hkn) (HS.out.1 k hk).2 d2 HCC.out.2).mono ?_; rintro e f1 ⟨rfl, hb⟩; skip; have hbF1 : Below Z.heap.size Z f1 := bnext (Below.refl _ _).drew hb; clear hb)
      (try go_wp2_with fail)
      clear hHeld
      refine hK.out _ _ (by (try dsimp only); first | exact K7.out _ (Below.refl _ _).drew | exact K7.out _ (by assumption)) (fun hHeld => ?_)
      clear hK K
      (try simp only [Act.put, List.setIfInBounds_toArray, List.set_cons_zero, List.set_cons_succ])
      refine wpAnyH_take (i := 7) (oi := Oper.mk (some 35) _ _ _ _ _) (v := ?_) rfl (by decide +kernel) (by decide +kernel) (by decide +kernel) (fun _ _ _ h => h) (Or.inl ⟨by rfl, ?_⟩) (by assumption) ?_
      rotate_left
      ·
       (intro w hSw; (try dsimp only at hSw); go_simp <;> (try with_reducible rfl))
      (try simp only [Act.put, List.setIfInBounds_toArray, List.set_cons_zero, List.set_cons_succ])
      refine wpAnyH_done (by decide +kernel) ?_ _
      refine NoPanic.normal ?_
      by_cases hd2 : 0 < d2
      ·
       have hB := HZ.out.1.later hbF1 HZ.out.1.lt
       have b0 := hB.1 0 _ rfl; have b1 := hB.1 1 _ rfl; have b2 := hB.1 2 _ rfl; have b3 := hB.1 3 _ rfl; have b4 := hB.1 4 _ rfl; have b5 := hB.1 5 _ rfl; have bf := hB.2
       obtain ⟨e0, e1, e2⟩ := HEC.out f1 (bnext hbZ hbF1)
       have hnr : ¬ g = r3 := by omega
       go_wp2
       go_roundw
       case rel => exact ⟨k + 1, n9, o9, l9, c9, p9, m9, k9, n9, o9, l9, c9, p9, m9, k9, congrArg (Value.int .i64) (by omega), by omega, by omega, ⟨hB.putHi, hB.ratAt (by simp [NoWord]) (ws := [.bool n9, .slice o9 l9 c9, .slice p9 m9 k9]) (j := 3) (by simp) (HZ.out.2.1.later hbF1), hB.ratAt (by simp [NoWord]) (ws := [.bool n9, .slice o9 l9 c9, .slice p9 m9 k9]) (j := 3) (by simp) (by rw [HHI.out, if_pos hd2]; exact H9.out.later (bnext hbZ hbF1))⟩, putl_below (r := r3) hz3 [.bool n9, .slice o9 l9 c9, .slice p9 m9 k9] 3 _ (bnext hbZ hbF1)⟩
       case measure => (simp [intOf]) <;> omega
      ·
       go_wp2
       go_roundw
       case rel => exact ⟨k + 1, n9, o9, l9, c9, p9, m9, k9, n8, o8, l8, c8, p8, m8, k8, congrArg (Value.int .i64) (by omega), by omega, by omega, ⟨HZ.out.1.later hbF1 HZ.out.1.lt, HZ.out.2.1.later hbF1, (by rw [HHI.out, if_neg hd2]; exact HZ.out.2.2.later hbF1)⟩, bnext hbZ hbF1⟩
       case measure => (simp [intOf]) <;> omega
     ·
      go_upto_region 7 with fail
      have HZ : Hid (Bx f1 r3 [.bool n7, .slice o7 l7 c7, .slice p7 m7 k7, .bool n8, .slice o8 l8 c8, .slice p8 m8 k8] ∧ RatAt f1 n7 o7 l7 c7 p7 m7 k7 (loK x (k + 1)) ∧ RatAt f1 n8 o8 l8 c8 p8 m8 k8 (hiK x k)) := ⟨HK.out.1.later hbF1 HK.out.1.lt, (by rw [HLO.out, if_neg hd1]; exact HK.out.2.1.later hbF1), HK.out.2.2.later hbF1⟩
      have hbZ : Below W.heap.size W f1 := bnext hbY hbF1
      obtain ⟨Z, hZ⟩ : ∃ Z, Z = f1 := ⟨_, rfl⟩
      rw [← hZ] at HZ hbZ
      rw [← hZ]
      clear hHeld hZ hbF1 K5
      have K7 : Hid (∀ w' : World, Below Z.heap.size Z w' → w'.cell? ⟨r3, 3, none⟩ = some (.bool n8) ∧ w'.cell? ⟨r3, 4, none⟩ = some (.slice o8 l8 c8) ∧ w'.cell? ⟨r3, 5, none⟩ = some (.slice p8 m8 k8) ∧ w'.cell? ⟨g, k * 3, none⟩ = some (.bool n9) ∧ w'.cell? ⟨g, k * 3 + 1, none⟩ = some (.slice o9 l9 c9) ∧ w'.cell? ⟨g, k * 3 + 2, none⟩ = some (.slice p9 m9 k9)) := fun w' h => (by have zb := HZ.out.1.later h HZ.out.1.lt; obtain ⟨e0, e1, e2⟩ := HEC.out w' (bnext hbZ h); exact ⟨zb.1 3 _ rfl, zb.1 4 _ rfl, zb.1 5 _ rfl, e0, e1, e2⟩)
      refine wp_region_noPanic ?_
      refine wp_region_held_drew (S := fun w' => (w'.cell? ⟨r3, 3, none⟩ = some (.bool n8) ∧ w'.cell? ⟨r3, 4, none⟩ = some (.slice o8 l8 c8) ∧ w'.cell? ⟨r3, 5, none⟩ = some (.slice p8 m8 k8) ∧ w'.cell? ⟨g, k * 3, none⟩ = some (.bool n9) ∧ w'.cell? ⟨g, k * 3 + 1, none⟩ = some (.slice o9 l9 c9) ∧ w'.cell? ⟨g, k * 3 + 2, none⟩ = some (.slice p9 m9 k9))) (by kernel_rfl) (by (try dsimp only); exact K7.out _ (Below.refl _ _).drew) (fun hHeld => ?_)
      refine wpAnyH_take (i := 0) (oi := Oper.mk (some 28) _ _ _ _ _) (v := ?_) rfl (by decide +kernel) (by decide +kernel) (by decide +kernel) (fun _ _ _ h => h) (Or.inl ⟨by rfl, ?_⟩) (by assumption) ?_
      rotate_left
      ·
       (intro w hSw; (try dsimp only at hSw); go_simp <;> (try with_reducible rfl))
      (try simp only [Act.put, List.setIfInBounds_toArray, List.set_cons_zero, List.set_cons_succ])
      refine wpAnyH_take (i := 1) (oi := Oper.mk (some 29) _ _ _ _ _) (v := ?_) rfl (by decide +kernel) (by decide +kernel) (by decide +kernel) (fun _ _ _ h => h) (Or.inl ⟨by rfl, ?_⟩) (by assumption) ?_
      rotate_left
      ·
       (intro w hSw; (try dsimp only at hSw); go_simp <;> (try with_reducible rfl))
      (try simp only [Act.put, List.setIfInBounds_toArray, List.set_cons_zero, List.set_cons_succ])
      refine wpAnyH_take (i := 2) (oi := Oper.mk (some 30) _ _ _ _ _) (v := ?_) rfl (by decide +kernel) (by decide +kernel) (by decide +kernel) (fun _ _ _ h => h) (Or.inl ⟨by rfl, ?_⟩) (by assumption) ?_
      rotate_left
      ·
       (intro w hSw; (try dsimp only at hSw); go_simp <;> (try with_reducible rfl))
      (try simp only [Act.put, List.setIfInBounds_toArray, List.set_cons_zero, List.set_cons_succ])
      refine wpAnyH_take (i := 3) (oi := Oper.mk (some 31) _ _ _ _ _) (v := ?_) rfl (by decide +kernel) (by decide +kernel) (by decide +kernel) (fun _ _ _ h => h) (Or.inl ⟨by rfl, ?_⟩) (by assumption) ?_
      rotate_left
      ·
       (intro w hSw; (try dsimp only at hSw); go_simp <;> (try with_reducible rfl))
      (try simp only [Act.put, List.setIfInBounds_toArray, List.set_cons_zero, List.set_cons_succ])
      refine wpAnyH_take (i := 4) (oi := Oper.mk (some 32) _ _ _ _ _) (v := ?_) rfl (by decide +kernel) (by decide +kernel) (by decide +kernel) (fun _ _ _ h => h) (Or.inl ⟨by rfl, ?_⟩) (by assumption) ?_
      rotate_left
      ·
       (intro w hSw; (try dsimp only at hSw); go_simp <;> (try with_reducible rfl))
      (try simp only [Act.put, List.setIfInBounds_toArray, List.set_cons_zero, List.set_cons_succ])
      refine wpAnyH_take (i := 5) (oi := Oper.mk (some 33) _ _ _ _ _) (v := ?_) rfl (by decide +kernel) (by decide +kernel) (by decide +kernel) (fun _ _ _ h => h) (Or.inl ⟨by rfl, ?_⟩) (by assumption) ?_
      rotate_left
      ·
       (intro w hSw; (try dsimp only at hSw); go_simp <;> (try with_reducible rfl))
      (try simp only [Act.put, List.setIfInBounds_toArray, List.set_cons_zero, List.set_cons_succ])
      refine wpAnyH_ready (rs := [6]) (by decide +kernel) (by simp) ?_
      refine AllReadyH.cons (o := Oper.mk (some 34) _ _ _ _ _) rfl (fun K hK => ?_) AllReadyH.nil
      go_simp
      (go_at_call 26; refine (qcmp_any n9 n8 o9 p9 o8 p8 l9 c9 m9 k9 l8 c8 m8 k8 (x k) (hiK x k) _ (H9.out.later (bnext hbZ (Below.refl _ _).drew)) (HZ.out.2.2.later (Below.refl _ _).drew) (HS.out.2 k hkn) (HS.out.1 k hk).2 d2 HCC.out.2).mono ?_; rintro e f1 ⟨rfl, hb⟩; skip; have hbF1 : Below Z.heap.size Z f1 := bnext (Below.refl _ _).drew hb; clear hb)
      (try go_wp2_with fail)
      clear hHeld
      refine hK.out _ _ (by (try dsimp only); first | exact K7.out _ (Below.refl _ _).drew | exact K7.out _ (by assumption)) (fun hHeld => ?_)
      clear hK K
      (try simp only [Act.put, List.setIfInBounds_toArray, List.set_cons_zero, List.set_cons_succ])
      refine wpAnyH_take (i := 7) (oi := Oper.mk (some 35) _ _ _ _ _) (v := ?_) rfl (by decide +kernel) (by decide +kernel) (by decide +kernel) (fun _ _ _ h => h) (Or.inl ⟨by rfl, ?_⟩) (by assumption) ?_
      rotate_left
      ·
       (intro w hSw; (try dsimp only at hSw); go_simp <;> (try with_reducible rfl))
      (try simp only [Act.put, List.setIfInBounds_toArray, List.set_cons_zero, List.set_cons_succ])
      refine wpAnyH_done (by decide +kernel) ?_ _
      refine NoPanic.normal ?_
      by_cases hd2 : 0 < d2
      ·
       have hB := HZ.out.1.later hbF1 HZ.out.1.lt
       have b0 := hB.1 0 _ rfl; have b1 := hB.1 1 _ rfl; have b2 := hB.1 2 _ rfl; have b3 := hB.1 3 _ rfl; have b4 := hB.1 4 _ rfl; have b5 := hB.1 5 _ rfl; have bf := hB.2
       obtain ⟨e0, e1, e2⟩ := HEC.out f1 (bnext hbZ hbF1)
       have hnr : ¬ g = r3 := by omega
       go_wp2
       go_roundw
       case rel => exact ⟨k + 1, n7, o7, l7, c7, p7, m7, k7, n9, o9, l9, c9, p9, m9, k9, congrArg (Value.int .i64) (by omega), by omega, by omega, ⟨hB.putHi, hB.ratAt (by simp [NoWord]) (ws := [.bool n9, .slice o9 l9 c9, .slice p9 m9 k9]) (j := 3) (by simp) (HZ.out.2.1.later hbF1), hB.ratAt (by simp [NoWord]) (ws := [.bool n9, .slice o9 l9 c9, .slice p9 m9 k9]) (j := 3) (by simp) (by rw [HHI.out, if_pos hd2]; exact H9.out.later (bnext hbZ hbF1))⟩, putl_below (r := r3) hz3 [.bool n9, .slice o9 l9 c9, .slice p9 m9 k9] 3 _ (bnext hbZ hbF1)⟩
       case measure => (simp [intOf]) <;> omega
      ·
       go_wp2
       go_roundw
       case rel => exact ⟨k + 1, n7, o7, l7, c7, p7, m7, k7, n8, o8, l8, c8, p8, m8, k8, congrArg (Value.int .i64) (by omega), by omega, by omega, ⟨HZ.out.1.later hbF1 HZ.out.1.lt, HZ.out.2.1.later hbF1, (by rw [HHI.out, if_neg hd2]; exact HZ.out.2.2.later hbF1)⟩, bnext hbZ hbF1⟩
       case measure => (simp [intOf]) <;> omega
   ·
    obtain rfl : k = n := by omega
    have b0 := HK.out.1.1 0 _ rfl; have b1 := HK.out.1.1 1 _ rfl; have b2 := HK.out.1.1 2 _ rfl; have b3 := HK.out.1.1 3 _ rfl; have b4 := HK.out.1.1 4 _ rfl; have b5 := HK.out.1.1 5 _ rfl
    have hF := hR.later hbr (by omega); have g6 := hF.2; have g0 := hF.1 0 _ rfl; have g1 := hF.1 1 _ rfl; have g2 := hF.1 2 _ rfl; have g3 := hF.1 3 _ rfl; have g4 := hF.1 4 _ rfl; have g5 := hF.1 5 _ rfl; clear hF
    go_wp2
    exact bodyPost_ret (v := .agg #[.bool n7, .slice o7 l7 c7, .slice p7 m7 k7, .bool n8, .slice o8 l8 c8, .slice p8 m8 k8]) (by simp [results, Tryz.results64, go_sem, g0, g1, g2, g3, g4, g5]) rfl
     ⟨_, _, _, _, _, _, _, _, _, _, _, _, _, _, rfl, (hR.later hbr (by omega)).rat (by simp [NoWord]) (ws := [.bool n7, .slice o7 l7 c7, .slice p7 m7 k7, .bool n8, .slice o8 l8 c8, .slice p8 m8 k8]) rfl HK.out.2.1, (hR.later hbr (by omega)).rat (by simp [NoWord]) (ws := [.bool n7, .slice o7 l7 c7, .slice p7 m7 k7, .bool n8, .slice o8 l8 c8, .slice p8 m8 k8]) rfl HK.out.2.2, putl_below (r := w.heap.size) (by omega) [.bool n7, .slice o7 l7 c7, .slice p7 m7 k7, .bool n8, .slice o8 l8 c8, .slice p8 m8 k8] 0 _ (bnext hbW hbr)⟩
theorem four_build (n1 n2 n3 n4 : Bool) (o1 p1 o2 p2 o3 p3 o4 p4 : Option Addr) (l1 c1 m1 k1 l2 c2 m2 k2 l3 c3 m3 k3 l4 c4 m4 k4 : Nat) (w : World) : (Instr.buildSlice 92 4 #[(0, .agg #[.bool n1, .slice o1 l1 c1, .slice p1 m1 k1]), (1, .agg #[.bool n2, .slice o2 l2 c2, .slice p2 m2 k2]), (2, .agg #[.bool n3, .slice o3 l3 c3, .slice p3 m3 k3]), (3, .agg #[.bool n4, .slice o4 l4 c4, .slice p4 m4 k4])]).run Tryz.prog w = .ok (.slice (some ⟨w.heap.size, 0, none⟩) 4 4) (w.alloc (.cells #[.bool n1, .slice o1 l1 c1, .slice p1 m1 k1, .bool n2, .slice o2 l2 c2, .slice p2 m2 k2, .bool n3, .slice o3 l3 c3, .slice p3 m3 k3, .bool n4, .slice o4 l4 c4, .slice p4 m4 k4] 30)) := by kernel_rfl
end Go.Proofs.YthjkdnlbdhhmbaaGreatDoor
