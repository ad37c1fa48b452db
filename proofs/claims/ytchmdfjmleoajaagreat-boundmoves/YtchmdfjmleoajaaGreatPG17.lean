/-
  A pack of walks and facts: HL.
-/
import Derived.Test.YtchmdfjmleoajaaGreatPG05
import Derived.Test.YtchmdfjmleoajaaGreatPG07
import Derived.Test.YtchmdfjmleoajaaGreatPG14
set_option maxRecDepth 100000
set_option maxHeartbeats 40000000
set_option linter.unusedVariables false
set_option linter.unusedSimpArgs false
namespace Go.Proofs.YtchmdfjmleoajaaGreat
open Go.RowKit Go.Shelf
theorem rleft_any (neg : Bool) (ao : Option Addr) (len cap n : Nat) (v : Int) (w : World) (hx : IntAt w neg ao len cap v) (hl : len ≤ 1073741824) (hn : n ≤ 65536) :
  Calls Tryz.prog 20 #[.agg #[.bool neg, .slice ao len cap], .int .i64 (n : Int)] w fun e w' => NewInt w w' e (v * ((2 ^ n : Nat) : Int)) := by
 obtain ⟨W, hT⟩ := One2.mk' w neg ao len cap
 have hsz := hT.size
 have hR := hx.later hT.below
 have HE : Hid (v * ((2 ^ n : Nat) : Int) = sgn neg (v.natAbs * 2 ^ n)) := sgn_scale hx.sg _
 clear hx
 have KS : Hid (∀ w' : World, Below (w.heap.size + 1) W w' → (Below (w.heap.size + 1) W w' ∧ w'.cell? ⟨w.heap.size, 0, none⟩ = some (.bool neg) ∧ w'.cell? ⟨w.heap.size, 1, none⟩ = some (.slice ao len cap))) := fun w' h => ⟨h, (h.cell (p := ⟨w.heap.size, 0, none⟩) (by show w.heap.size < _; omega)).trans hT.a.1, (h.cell (p := ⟨w.heap.size, 1, none⟩) (by show w.heap.size < _; omega)).trans hT.a.2⟩
 have K1 : Hid (∀ w1 w2 : World, (Below (w.heap.size + 1) W w1 ∧ w1.cell? ⟨w.heap.size, 0, none⟩ = some (.bool neg) ∧ w1.cell? ⟨w.heap.size, 1, none⟩ = some (.slice ao len cap)) → Below w1.heap.size w1 w2 → (Below (w.heap.size + 1) W w2 ∧ w2.cell? ⟨w.heap.size, 0, none⟩ = some (.bool neg) ∧ w2.cell? ⟨w.heap.size, 1, none⟩ = some (.slice ao len cap))) := fun w1 w2 h hb => KS.out _ (h.1.trans (hb.mono (by have := h.1.size; omega)))
 have K2 : Hid (∀ w1 w2 : World, (Below (w.heap.size + 1) W w1 ∧ w1.cell? ⟨w.heap.size, 0, none⟩ = some (.bool neg) ∧ w1.cell? ⟨w.heap.size, 1, none⟩ = some (.slice ao len cap)) → Below (w.heap.size + 1) w1 w2 → (Below (w.heap.size + 1) W w2 ∧ w2.cell? ⟨w.heap.size, 0, none⟩ = some (.bool neg) ∧ w2.cell? ⟨w.heap.size, 1, none⟩ = some (.slice ao len cap))) := fun w1 w2 h hb => KS.out _ (h.1.trans hb)
 go_enter Tryz.func20, Tryz.ntmps20
 go_wp2
 rw [← hT.eq]
 go_region_held3 (fun w' => (Below (w.heap.size + 1) W w' ∧ w'.cell? ⟨w.heap.size, 0, none⟩ = some (.bool neg) ∧ w'.cell? ⟨w.heap.size, 1, none⟩ = some (.slice ao len cap)))
  (first
   | exact KS.out _ (Below.refl _ _).drew
   | exact K1.out _ _ (by assumption) (by assumption)
   | exact K2.out _ _ (by assumption) (below_store (Below.refl _ _) (by omega) _ _))
  (first
   | (go_at_call 45; refine (up2_any ao len cap n v.natAbs _ (hR.row.later (Below.refl _ _).drew) (by omega) (by omega)).mono ?_; rintro e w2 ⟨ao2, l2, c2, rfl, ho2, hb2⟩; have hlen2 : l2 ≤ 4611686018427387904 := (by rw [ho2.row.hlen]; have q1 := mag_len_mul v.natAbs (2 ^ n); have q2 := mag_len_two n; rw [← hR.row.hlen] at q1; omega))
   | (go_at_call 33; refine (made_any neg ao2 l2 c2 _ hlen2).mono ?_; rintro e w3 ⟨rfl, hb3⟩; obtain ⟨g5, g3, g4⟩ := hT.r.later (bnext (Below.refl _ _).drew (bnext hb2 hb3)) (by omega)))
 go_wp2
 have hN := NewInt.ret (w := w) ((ho2.later hb3).store (r := w.heap.size + 1) (by show _ < W.heap.size; omega) (.bool (neg && decide (0 < l2))) (.slice ao2 l2 c2)) (by show _ ≤ W.heap.size; omega) HE.out (below_store (bnext hT.below (bnext (Below.refl _ _).drew (bnext hb2 hb3))) (by omega) _ _)
 exact bodyPost_ret (v := .agg #[.bool (neg && decide (0 < l2)), .slice ao2 l2 c2]) (by simp [results, Tryz.results20, go_sem, g3, g4]) rfl hN
def XVar (Z : World) (r : Nat) (v : Int) : Prop := ∃ n o l c, Boxed Z r n o l c ∧ IntAt Z n o l c v ∧ ∀ j, Z.frozen? ⟨r, j, none⟩ = false
theorem XVar.later {Z Z' : World} {r : Nat} {v : Int} (h : XVar Z r v) (hb : Below Z.heap.size Z Z') : XVar Z' r v := by
 obtain ⟨n, o, l, c, h1, h2, h4⟩ := h
 have hr : r < Z.heap.size := cell_lt h1.1
 exact ⟨n, o, l, c, h1.later hb hr, h2.later hb, fun j => (hb.frozen (p := ⟨r, j, none⟩) hr).trans (h4 j)⟩
structure RPow (w Z : World) (g : Nat) (neg : Bool) (ao : Option Addr) (len cap : Nat) (v x : Int) : Prop where
 ba : Boxed Z w.heap.size neg ao len cap
 ia : IntAt Z neg ao len cap v
 fr : Fresh Z (w.heap.size + 1)
 vx : XVar Z g x
 gw : w.heap.size + 2 ≤ g
 gz : g < Z.heap.size
 bw : Below w.heap.size w Z
theorem RPow.later {w Z Z' : World} {g : Nat} {neg : Bool} {ao : Option Addr} {len cap : Nat} {v x : Int} (h : RPow w Z g neg ao len cap v x) (hb : Below Z.heap.size Z Z') : RPow w Z' g neg ao len cap v x := by
 have h1 := h.gw
 have h2 := h.gz
 exact ⟨h.ba.later hb (by omega), h.ia.later hb, h.fr.later hb (by omega), h.vx.later hb, h1, Nat.lt_of_lt_of_le h2 hb.size, bnext h.bw hb⟩
theorem RPow.put {w Z Z' : World} {g : Nat} {neg n : Bool} {ao o : Option Addr} {len cap l c : Nat} {v x y : Int} (h : RPow w Z g neg ao len cap v x) (hb : Below Z.heap.size Z Z') (hi : IntAt Z' n o l c y) : RPow w ((Z'.setCell ⟨g, 0, none⟩ (.bool n)).setCell ⟨g, 1, none⟩ (.slice o l c)) g neg ao len cap v y := by
 have k := h.later hb
 have h1 := k.gw
 have h2 := k.gz
 obtain ⟨n', o', l', c', hx, _, hf⟩ := k.vx
 exact ⟨boxed_far k.ba (by omega) _ _, ⟨k.ia.sg, k.ia.row.boxed hx _ _⟩, fresh_far k.fr (by omega) _ _, ⟨_, _, _, _, boxed_new hx, ⟨hi.sg, hi.row.boxed hx _ _⟩, fun j => by rw [frozen_far, frozen_far]; exact hf j⟩, h1, by simpa [World.setCell] using h2, below_store k.bw (by omega) _ _⟩
theorem RPow.first {w W w1 : World} {neg n : Bool} {ao o : Option Addr} {len cap l c : Nat} {v x : Int} (hT : One2 w W neg ao len cap) (hx : IntAt W neg ao len cap v) (hb : Below W.heap.size W w1) (hi : IntAt w1 n o l c x) : RPow w (w1.alloc (.cells #[.bool n, .slice o l c] 28)) w1.heap.size neg ao len cap v x := by
 have hA : Below w1.heap.size w1 (w1.alloc (.cells #[.bool n, .slice o l c] 28)) := (Below.refl _ _).alloc (Nat.le_refl _) _
 have hs := hT.size
 have hz := hb.size
 have hWA := bnext hb hA
 exact ⟨hT.a.later hWA (by omega), hx.later hWA, hT.r.later hWA (by omega), ⟨n, o, l, c, ⟨by simp [go_sem], by simp [go_sem]⟩, hi.later hA, fun j => by simp [go_sem]⟩, by omega, by simp, bnext hT.below hWA⟩
theorem RPow.last {w Z : World} {g : Nat} {neg n : Bool} {ao o : Option Addr} {len cap l c : Nat} {v x : Int} (h : RPow w Z g neg ao len cap v x) (hb : Boxed Z g n o l c) (hi : IntAt Z n o l c x) (u1 u2 : Value) : RefInt w ((Z.setCell ⟨w.heap.size + 1, 0, none⟩ u1).setCell ⟨w.heap.size + 1, 1, none⟩ u2) (.returned (.agg #[.bool n, .slice o l c])) x :=
 ⟨_, _, _, _, rfl, ⟨hi.sg, hi.row.kept h.fr _ _⟩, below_store h.bw (by omega) _ _⟩
end Go.Proofs.YtchmdfjmleoajaaGreat
