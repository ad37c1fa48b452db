/-
  A pack of walks and facts: OA.
-/
import Derived.Deep.RegionHeld3
set_option maxRecDepth 100000
set_option maxHeartbeats 40000000
set_option linter.unusedVariables false
set_option linter.unusedSimpArgs false
namespace Go.Proofs.YthjkdnlbdhhmbaaGreatDoor
open Go
def early (st : List Nat) (listed : Array Bool) : Bool := st.all fun s => !(listed.getD s false)
theorem early_set {st : List Nat} {listed : Array Bool} {j : Nat} (h : early st listed = true) (hj : j ∉ st) : early st (listed.setIfInBounds j true) = true := by
 unfold early at *
 rw [List.all_eq_true] at *
 intro s hs
 have hne : j ≠ s := fun e => hj (e ▸ hs)
 rw [getD_set_ne false hne]
 exact h s hs
theorem early_of_set {st : List Nat} {listed : Array Bool} {j : Nat} (h : early st (listed.setIfInBounds j true) = true) : early st listed = true := by
 unfold early at *
 rw [List.all_eq_true] at *
 intro s hs
 have h1 := h s hs
 cases h2 : listed.getD s false with
 | false => rfl
 | true => rw [getD_set_true h2] at h1; exact absurd h1 (by simp)
def HeldT (P : Program) (md : Region.Mode) (ops : Array Oper) (Q : Exit → Act → World → Prop) (S : World → Prop) (st : List Nat) : Nat → Array Bool → Act → World → Prop
 | 0, listed, a, w => Region.ready md ops listed = [] ∧ Q .normal a w
 | k + 1, listed, a, w => (Region.ready md ops listed = [] → Q .normal a w) ∧ ∀ i, i ∈ Region.ready md ops listed → wpOp P ops Q i (fun a' w' => (early st (listed.setIfInBounds i true) = true → S w') ∧ HeldT P md ops Q S st k (listed.setIfInBounds i true) a' w') a w
theorem HeldT.any {P : Program} {md : Region.Mode} {ops : Array Oper} {Q : Exit → Act → World → Prop} {S : World → Prop} {st : List Nat} : ∀ (k : Nat) (listed : Array Bool) (a : Act) (w : World), HeldT P md ops Q S st k listed a w → wpAny P md ops Q k listed a w
 | 0, _, _, _, h => h
 | k + 1, _, _, _, h => ⟨h.1, fun i hi => wpOp_mono (fun a' w' h' => HeldT.any k _ a' w' h'.2) (h.2 i hi)⟩
def direct (md : Region.Mode) (ops : Array Oper) (s i : Nat) : Bool := match ops[s]? with
 | none => false
 | some o => o.after.any fun e => Region.binds md e && e.on == i
def waits (md : Region.Mode) (ops : Array Oper) (st : List Nat) (i : Nat) : Bool := st.all fun s => direct md ops s i || (List.range ops.size).any fun m => direct md ops s m && direct md ops m i
def clearOf (md : Region.Mode) (ops : Array Oper) (listed : Array Bool) (i : Nat) : Bool := (List.range ops.size).all fun m => !(direct md ops m i) || !(listed.getD m false)
theorem direct_ready {md : Region.Mode} {ops : Array Oper} {i j : Nat} {listed : Array Bool} (hj : j ∈ Region.ready md ops listed) (h : direct md ops j i = true) : listed.getD i false = true := by
 obtain ⟨_, o, ho, hall⟩ := mem_ready.1 hj
 unfold direct at h
 rw [ho] at h
 simp only [Array.any_eq_true, Bool.and_eq_true, beq_iff_eq] at h
 obtain ⟨n, hn, hb, he⟩ := h
 have h2 := hall _ (Array.getElem_mem hn) hb
 rw [he] at h2
 exact h2
theorem ready_not {md : Region.Mode} {ops : Array Oper} {i : Nat} {listed : Array Bool} (hi : i ∈ Region.ready md ops listed) : listed.getD i false = false := by
 have h3 := (mem_ready.1 hi).1
 rcases Nat.lt_or_ge i listed.size with hl | hl
 ·
  simp [hl] at h3 ⊢
  exact h3
 ·
  simp [Array.getElem?_eq_none hl] at h3
theorem waits_spec {md : Region.Mode} {ops : Array Oper} {st : List Nat} {i j : Nat} {listed : Array Bool} (h : waits md ops st i = true) (hc : clearOf md ops listed i = true) (hi : i ∈ Region.ready md ops listed) (hj : j ∈ Region.ready md ops listed) : j ∉ st := fun hs => by
 have h1 := List.all_eq_true.1 h j hs
 rw [Bool.or_eq_true] at h1
 rcases h1 with h1 | h1
 ·
  have h2 := direct_ready hj h1
  rw [ready_not hi] at h2
  cases h2
 ·
  obtain ⟨m, hm, h2⟩ := List.any_eq_true.1 h1
  rw [Bool.and_eq_true] at h2
  have h3 := direct_ready hj h2.1
  have h4 := List.all_eq_true.1 hc m hm
  rw [h2.2, h3] at h4
  cases h4
theorem clear_set {md : Region.Mode} {ops : Array Oper} {i j : Nat} {listed : Array Bool} (hc : clearOf md ops listed i = true) (hi : i ∈ Region.ready md ops listed) (hj : j ∈ Region.ready md ops listed) : clearOf md ops (listed.setIfInBounds j true) i = true := by
 unfold clearOf at *
 rw [List.all_eq_true] at *
 intro m hm
 by_cases e : j = m
 ·
  subst e
  cases h : direct md ops j i with
  | false => rfl
  | true =>
   have h2 := direct_ready hj h
   rw [ready_not hi] at h2
   cases h2
 ·
  rw [getD_set_ne false e]
  exact hc m hm
theorem HeldT.first {P : Program} {md : Region.Mode} {ops : Array Oper} {Q : Exit → Act → World → Prop} {S T : World → Prop} {st : List Nat} {i : Nat} {oi : Oper} {v : Value} (hi : ops[i]? = some oi) (hsel : ∀ (j : Nat) (o : Oper) cs b, ops[j]? = some o → o.op ≠ .select cs b)
  (hQ : ∀ c a w, Q (.panic c) (a.put oi.dst v) w → Q (.panic c) a w) (hT : ∀ w, S w → T w) (hst : waits md ops st i = true ∨ ∀ w, T w) (hin : i ∉ st) :
  ∀ (k : Nat) (listed : Array Bool) (a : Act) (w : World),
   (∀ j oj, ops[j]? = some oj → j ≠ i → listed.getD j true = false → (∀ e ∈ oj.after, Region.binds md e = true → e.on ≠ i) → oi.apart ops oj = true) →
   i ∈ Region.ready md ops listed → (early st listed = true ∧ clearOf md ops listed i = true) ∨ (∀ w, T w) → YieldsIf P ops T oi v a → T w → (early st listed = true → S w) →
   HeldT P md ops Q S st k (listed.setIfInBounds i true) (a.put oi.dst v) w → HeldT P md ops Q S st (k + 1) listed a w
 | 0, listed, a, w, _, hr, _, hy, hS, hSs, H => by
  refine ⟨fun h => absurd (h ▸ hr) (by simp), fun j hj => ?_⟩
  by_cases e : j = i
  ·
   subst e; exact hy.wpOp hi hS ⟨fun he => hSs (early_of_set he), H⟩
  ·
   exact absurd (ready_mono hj e) (by rw [H.1]; simp)
 | k + 1, listed, a, w, hfree, hr, hE, hy, hS, hSs, H => by
  refine ⟨fun h => absurd (h ▸ hr) (by simp), fun j hj => ?_⟩
  by_cases e : j = i
  ·
   subst e; exact hy.wpOp hi hS ⟨fun he => hSs (early_of_set he), H⟩
  ·
   obtain ⟨hjun, oj, hoj, hall⟩ := mem_ready.1 hj
   have hnot : ∀ x ∈ oj.after, Region.binds md x = true → x.on ≠ i := fun x hx hb hxe => by
    have h1 := hall x hx hb
    have h0 := (mem_ready.1 hr).1
    rw [hxe] at h1
    rcases Nat.lt_or_ge i listed.size with hl | hl
    ·
     simp [hl] at h0 h1
     rw [h0] at h1
     cases h1
    ·
     simp [Array.getElem?_eq_none hl] at h1
   have hE2 : (early st (listed.setIfInBounds j true) = true ∧ clearOf md ops (listed.setIfInBounds j true) i = true) ∨ (∀ w, T w) := by
    rcases hst with hw | ht
    ·
     rcases hE with he | ht
     ·
      exact Or.inl ⟨early_set he.1 (waits_spec hw he.2 hr hj), clear_set he.2 hr hj⟩
     ·
      exact Or.inr ht
    ·
     exact Or.inr ht
   refine wpOp_mono (fun a' w' h3 => ?_) (wpOp_putIf hoj (hfree j oj hoj e hjun hnot) (fun cs b => hsel i oi cs b hi) (fun cs b => hsel j oj cs b hoj) hQ hy (H.2 j (ready_mono hj e)))
   have hS2 : early st (listed.setIfInBounds j true) = true → S w' := fun he => h3.2.1 (by
    rw [Array.setIfInBounds_comm _ _ (Ne.symm e)]
    exact early_set he hin)
   refine ⟨hS2, HeldT.first hi hsel hQ hT hst hin k (listed.setIfInBounds j true) a' w' (fun m om hm hmi hun hno => hfree m om hm hmi ?_ hno) (ready_mono hr (Ne.symm e)) hE2 h3.1 ?_ hS2 ?_⟩
   ·
    by_cases ejm : j = m
    ·
     subst ejm; exact hjun
    ·
     rw [getD_set_ne true ejm] at hun; exact hun
   ·
    rcases hE2 with he | ht
    ·
     exact hT _ (hS2 he.1)
    ·
     exact ht _
   ·
    rw [Array.setIfInBounds_comm _ _ e]
    exact h3.2.2
theorem HeldT.take {P : Program} {md : Region.Mode} {ops : Array Oper} {Q : Exit → Act → World → Prop} {S : World → Prop} {st : List Nat} {i : Nat} {oi : Oper} {v : Value} {k : Nat} {listed : Array Bool} {a : Act} {w : World} (hi : ops[i]? = some oi)
  (hs : Region.noSelect ops = true) (hf : Region.free md ops listed i = true) (hr : (Region.ready md ops listed).contains i = true) (hst : (waits md ops st i && (early st listed && clearOf md ops listed i) && !st.contains i) = true)
  (hQ : ∀ c a w, Q (.panic c) (a.put oi.dst v) w → Q (.panic c) a w) (hy : YieldsIf P ops S oi v a) (hS : S w)
  (h : HeldT P md ops Q S st k (listed.setIfInBounds i true) (a.put oi.dst v) w) : HeldT P md ops Q S st (k + 1) listed a w := by
 simp only [Bool.and_eq_true, Bool.not_eq_true', List.contains_eq_mem, decide_eq_false_iff_not] at hst
 exact HeldT.first hi (Region.noSelect_spec hs) hQ (fun _ h => h) (Or.inl hst.1.1) hst.2 k listed a w (Region.free_spec hi hf) (by simpa using hr) (Or.inl ⟨hst.1.2.1, hst.1.2.2⟩) hy hS (fun _ => hS) h
theorem HeldT.takeV {P : Program} {md : Region.Mode} {ops : Array Oper} {Q : Exit → Act → World → Prop} {S : World → Prop} {st : List Nat} {i : Nat} {oi : Oper} {v : Value} {k : Nat} {listed : Array Bool} {a : Act} {w : World} (hi : ops[i]? = some oi)
  (hs : Region.noSelect ops = true) (hf : Region.free md ops listed i = true) (hr : (Region.ready md ops listed).contains i = true) (hst : (!st.contains i) = true)
  (hQ : ∀ c a w, Q (.panic c) (a.put oi.dst v) w → Q (.panic c) a w) (hy : YieldsIf P ops (fun _ => True) oi v a) (hS : S w)
  (h : HeldT P md ops Q S st k (listed.setIfInBounds i true) (a.put oi.dst v) w) : HeldT P md ops Q S st (k + 1) listed a w := by
 simp only [Bool.not_eq_true', List.contains_eq_mem, decide_eq_false_iff_not] at hst
 exact HeldT.first hi (Region.noSelect_spec hs) hQ (fun _ _ => trivial) (Or.inr fun _ => trivial) hst k listed a w (Region.free_spec hi hf) (by simpa using hr) (Or.inr fun _ => trivial) hy trivial (fun _ => hS) h
def AllT (P : Program) (md : Region.Mode) (ops : Array Oper) (Q : Exit → Act → World → Prop) (S : World → Prop) (st : List Nat) (k : Nat) (listed : Array Bool) (a : Act) (w : World) (rs : List Nat) : Prop :=
 ∀ i ∈ rs, wpOp P ops Q i (fun a' w' => (early st (listed.setIfInBounds i true) = true → S w') ∧ HeldT P md ops Q S st k (listed.setIfInBounds i true) a' w') a w
theorem AllT.nil {P : Program} {md : Region.Mode} {ops : Array Oper} {Q : Exit → Act → World → Prop} {S : World → Prop} {st : List Nat} {k : Nat} {listed : Array Bool} {a : Act} {w : World} : AllT P md ops Q S st k listed a w [] := fun _ h => by cases h
theorem AllT.cons {P : Program} {md : Region.Mode} {ops : Array Oper} {Q : Exit → Act → World → Prop} {S : World → Prop} {st : List Nat} {k : Nat} {listed : Array Bool} {a : Act} {w : World} {i : Nat} {o : Oper} {rs : List Nat} (ho : ops[i]? = some o)
  (h : ∀ K' : Act → World → Prop, Shut (∀ a w, S w → (S w → HeldT P md ops Q S st k (listed.setIfInBounds i true) a w) → K' a w) → if Region.wanted o (yielded ops a.tmps) = true then Oper.wp P o a w K' Q else K' (a.put o.dst undef) w)
  (hs : AllT P md ops Q S st k listed a w rs) : AllT P md ops Q S st k listed a w (i :: rs) := fun j hj => by
 rcases List.mem_cons.1 hj with rfl | hj
 ·
  exact wpOp_step ho (fun K' hK => h K' (fun a w hS hW => hK a w ⟨fun _ => hS, hW hS⟩))
 ·
  exact hs j hj
theorem AllT.store {P : Program} {md : Region.Mode} {ops : Array Oper} {Q : Exit → Act → World → Prop} {S : World → Prop} {st : List Nat} {k : Nat} {listed : Array Bool} {a : Act} {w : World} {i : Nat} {o : Oper} {rs : List Nat} (ho : ops[i]? = some o) (hi : early st (listed.setIfInBounds i true) = false)
  (h : ∀ K' : Act → World → Prop, Shut (∀ a w, HeldT P md ops Q S st k (listed.setIfInBounds i true) a w → K' a w) → if Region.wanted o (yielded ops a.tmps) = true then Oper.wp P o a w K' Q else K' (a.put o.dst undef) w)
  (hs : AllT P md ops Q S st k listed a w rs) : AllT P md ops Q S st k listed a w (i :: rs) := fun j hj => by
 rcases List.mem_cons.1 hj with rfl | hj
 ·
  exact wpOp_step ho (fun K' hK => h K' (fun a w hW => hK a w ⟨fun hn => absurd hn (by rw [hi]; simp), hW⟩))
 ·
  exact hs j hj
theorem HeldT.ready {P : Program} {md : Region.Mode} {ops : Array Oper} {Q : Exit → Act → World → Prop} {S : World → Prop} {st : List Nat} {rs : List Nat} {k : Nat} {listed : Array Bool} {a : Act} {w : World} (hr : Region.ready md ops listed = rs) (hne : rs ≠ [])
  (h : AllT P md ops Q S st k listed a w rs) : HeldT P md ops Q S st (k + 1) listed a w := ⟨fun h0 => absurd (hr ▸ h0) hne, hr ▸ h⟩
theorem HeldT.done {P : Program} {md : Region.Mode} {ops : Array Oper} {Q : Exit → Act → World → Prop} {S : World → Prop} {st : List Nat} {listed : Array Bool} {a : Act} {w : World} (hr : Region.ready md ops listed = []) (h : Q .normal a w) : ∀ k, HeldT P md ops Q S st k listed a w
 | 0 => ⟨hr, h⟩
 | _ + 1 => ⟨fun _ => h, by rw [hr]; simp⟩
theorem HeldT.start {P : Program} {ops : Array Oper} {Q : Exit → Act → World → Prop} {S : World → Prop} (st : List Nat) {id : Nat} {a : Act} {w : World} (hm : P.follows .mixedOrders = true) (hS : S w.drew)
  (h : S w.drew → HeldT P .any ops Q S st ops.size (Array.replicate ops.size false) a w.drew) : (Code.region id ops true).wp P Q a w := wp_region_any hm (HeldT.any _ _ _ _ (h hS))
end Go.Proofs.YthjkdnlbdhhmbaaGreatDoor
