/- A region that draws its order, whose last operation stores into a cell that the region loads: a load may be taken first, as long as what it reads stays until that store. No condition. -/
import Derived.Test.YtocahiifeckogaaMem
import Derived.OrdersHeld
namespace Go.Proofs.Ytocahiifeckogaa
open Go.RowKit

/-- Whichever comes up: S holds behind each operation but the one that is named. -/
def WalkT (P : Program) (ops : Array Oper) (Q : Exit → Act → World → Prop) (S : World → Prop) (st : Nat) : Nat → Array Bool → Act → World → Prop
  | 0, l, a, w => Region.ready .any ops l = [] ∧ Q .normal a w
  | n + 1, l, a, w => (Region.ready .any ops l = [] → Q .normal a w) ∧ ∀ i ∈ Region.ready .any ops l, wpOp P ops Q i (fun a' w' => (i = st ∨ S w') ∧ WalkT P ops Q S st n (l.setIfInBounds i true) a' w') a w
section
variable {P : Program} {ops : Array Oper} {Q : Exit → Act → World → Prop} {S : World → Prop} {st : Nat}
theorem WalkT.any : ∀ (n : Nat) (l : Array Bool) (a : Act) (w : World), WalkT P ops Q S st n l a w → wpAny P .any ops Q n l a w
  | 0, _, _, _, h => h
  | n + 1, _, _, _, h => ⟨h.1, fun i hi => wpOp_mono (fun a' w' h' => WalkT.any n _ a' w' h'.2) (h.2 i hi)⟩
theorem WalkT.start {id : Nat} {a : Act} {w : World} (hm : P.follows .mixedOrders = true) (h : WalkT P ops Q S st ops.size (Array.replicate ops.size false) a w.drew) : (Code.region id ops true).wp P Q a w :=
  wp_region_any hm (WalkT.any _ _ _ _ h)
/-- The named one waits for another one. -/
def waitsB (ops : Array Oper) (st i : Nat) : Bool := match ops[st]? with
  | some o => o.after.any fun e => Region.binds .any e && e.on == i
  | none => false
theorem waits_not {i : Nat} {l : Array Bool} (h : waitsB ops st i = true) (hi : i ∈ Region.ready .any ops l) : st ∉ Region.ready .any ops l := fun hs => by
  obtain ⟨_, o, ho, hall⟩ := mem_ready.1 hs
  unfold waitsB at h
  rw [ho] at h
  obtain ⟨k, hk, hb⟩ := Array.any_eq_true.1 h
  simp only [Bool.and_eq_true, beq_iff_eq] at hb
  have h1 := hall (o.after[k]) (Array.getElem_mem hk) hb.1
  rw [hb.2] at h1
  have h0 := (mem_ready.1 hi).1
  rcases Nat.lt_or_ge i l.size with hlt | hge
  · simp [hlt] at h0 h1
    rw [h0] at h1
    cases h1
  · simp [Array.getElem?_eq_none hge] at h1
theorem WalkT.first {i : Nat} {oi : Oper} {v : Value} (hi : ops[i]? = some oi) (hs : Region.noSelect ops = true) (hw : waitsB ops st i = true) (hQ : ∀ c a w, Q (.panic c) (a.put oi.dst v) w → Q (.panic c) a w) (n : Nat) :
    ∀ (l : Array Bool) (a : Act) (w : World), (∀ j oj, ops[j]? = some oj → j ≠ i → l.getD j true = false → (∀ e ∈ oj.after, Region.binds .any e = true → e.on ≠ i) → oi.apart ops oj = true) → i ∈ Region.ready .any ops l → YieldsIf P ops S oi v a → S w →
      WalkT P ops Q S st n (l.setIfInBounds i true) (a.put oi.dst v) w → WalkT P ops Q S st (n + 1) l a w := by
  have sel := Region.noSelect_spec hs
  induction n with
  | zero =>
    intro l a w _ hr hy hS H
    refine ⟨fun h => (by rw [h] at hr; cases hr), fun j hj => ?_⟩
    by_cases e : j = i
    · subst e
      exact hy.wpOp hi hS ⟨.inr hS, H⟩
    · have hm := ready_mono hj e
      rw [H.1] at hm
      cases hm
  | succ n ih =>
    intro l a w hf hr hy hS H
    refine ⟨fun h => (by rw [h] at hr; cases hr), fun j hj => ?_⟩
    by_cases e : j = i
    · subst e
      exact hy.wpOp hi hS ⟨.inr hS, H⟩
    have hjs : j ≠ st := fun h => by subst h; exact waits_not hw hr hj
    obtain ⟨hu, oj, hoj, hall⟩ := mem_ready.1 hj
    have hno : ∀ x ∈ oj.after, Region.binds .any x = true → x.on ≠ i := fun x hx hb h => by
      have h1 := hall x hx hb
      have h0 := (mem_ready.1 hr).1
      rw [h] at h1
      rcases Nat.lt_or_ge i l.size with hlt | hge
      · simp [hlt] at h0 h1
        rw [h0] at h1
        cases h1
      · simp [Array.getElem?_eq_none hge] at h1
    have h2 := wpOp_putIf hoj (hf j oj hoj e hu hno) (fun cs b => sel i oi cs b hi) (fun cs b => sel j oj cs b hoj) hQ hy (H.2 j (ready_mono hj e))
    refine wpOp_mono (fun a' w' h3 => ?_) h2
    have hS' : S w' := h3.2.1.resolve_left hjs
    refine ⟨.inr hS', ih (l.setIfInBounds j true) a' w' (fun k ok hk hki hun hn => hf k ok hk hki ?_ hn) (ready_mono hr (Ne.symm e)) h3.1 hS' ?_⟩
    · by_cases hjk : j = k
      · subst hjk; exact hu
      · rw [getD_set_ne true hjk] at hun
        exact hun
    · rw [Array.setIfInBounds_comm _ _ e]
      exact h3.2.2
theorem WalkT.take {i : Nat} {oi : Oper} {v : Value} {n : Nat} {l : Array Bool} {a : Act} {w : World} (hi : ops[i]? = some oi) (hs : Region.noSelect ops = true) (hw : waitsB ops st i = true) (hf : Region.free .any ops l i = true) (hr : (Region.ready .any ops l).contains i = true)
    (hQ : ∀ c a w, Q (.panic c) (a.put oi.dst v) w → Q (.panic c) a w) (hy : YieldsIf P ops S oi v a) (hS : S w) (h : WalkT P ops Q S st n (l.setIfInBounds i true) (a.put oi.dst v) w) : WalkT P ops Q S st (n + 1) l a w :=
  WalkT.first hi hs hw hQ n l a w (Region.free_spec hi hf) (by simpa using hr) hy hS h
theorem unlisted_not {i k : Nat} {l : Array Bool} (h : waitsB ops k i = true) (h0 : l.getD i true = false) : k ∉ Region.ready .any ops l := fun hs => by
  obtain ⟨_, o, ho, hall⟩ := mem_ready.1 hs
  unfold waitsB at h
  rw [ho] at h
  obtain ⟨q, hq, hb⟩ := Array.any_eq_true.1 h
  simp only [Bool.and_eq_true, beq_iff_eq] at hb
  have h1 := hall (o.after[q]) (Array.getElem_mem hq) hb.1
  rw [hb.2] at h1
  rcases Nat.lt_or_ge i l.size with hlt | hge
  · simp [hlt] at h0 h1
    rw [h0] at h1
    cases h1
  · simp [Array.getElem?_eq_none hge] at h1
/-- The named one waits for k, and k for i. -/
theorem WalkT.first2 {i k : Nat} {oi : Oper} {v : Value} (hi : ops[i]? = some oi) (hs : Region.noSelect ops = true) (hw1 : waitsB ops st k = true) (hw2 : waitsB ops k i = true) (hQ : ∀ c a w, Q (.panic c) (a.put oi.dst v) w → Q (.panic c) a w) (n : Nat) :
    ∀ (l : Array Bool) (a : Act) (w : World), (∀ j oj, ops[j]? = some oj → j ≠ i → l.getD j true = false → (∀ e ∈ oj.after, Region.binds .any e = true → e.on ≠ i) → oi.apart ops oj = true) → i ∈ Region.ready .any ops l → l.getD k true = false → YieldsIf P ops S oi v a → S w →
      WalkT P ops Q S st n (l.setIfInBounds i true) (a.put oi.dst v) w → WalkT P ops Q S st (n + 1) l a w := by
  have sel := Region.noSelect_spec hs
  induction n with
  | zero =>
    intro l a w _ hr _ hy hS H
    refine ⟨fun h => (by rw [h] at hr; cases hr), fun j hj => ?_⟩
    by_cases e : j = i
    · subst e
      exact hy.wpOp hi hS ⟨.inr hS, H⟩
    · have hm := ready_mono hj e
      rw [H.1] at hm
      cases hm
  | succ n ih =>
    intro l a w hf hr hkl hy hS H
    refine ⟨fun h => (by rw [h] at hr; cases hr), fun j hj => ?_⟩
    by_cases e : j = i
    · subst e
      exact hy.wpOp hi hS ⟨.inr hS, H⟩
    have hjs : j ≠ st := fun h => by subst h; exact unlisted_not hw1 hkl hj
    have hjk : j ≠ k := fun h => by subst h; exact unlisted_not hw2 (mem_ready.1 hr).1 hj
    obtain ⟨hu, oj, hoj, hall⟩ := mem_ready.1 hj
    have hno : ∀ x ∈ oj.after, Region.binds .any x = true → x.on ≠ i := fun x hx hb h => by
      have h1 := hall x hx hb
      have h0 := (mem_ready.1 hr).1
      rw [h] at h1
      rcases Nat.lt_or_ge i l.size with hlt | hge
      · simp [hlt] at h0 h1
        rw [h0] at h1
        cases h1
      · simp [Array.getElem?_eq_none hge] at h1
    have h2 := wpOp_putIf hoj (hf j oj hoj e hu hno) (fun cs b => sel i oi cs b hi) (fun cs b => sel j oj cs b hoj) hQ hy (H.2 j (ready_mono hj e))
    refine wpOp_mono (fun a' w' h3 => ?_) h2
    have hS' : S w' := h3.2.1.resolve_left hjs
    refine ⟨.inr hS', ih (l.setIfInBounds j true) a' w' (fun q ok hk hki hun hn => hf q ok hk hki ?_ hn) (ready_mono hr (Ne.symm e)) (by rw [getD_set_ne true hjk]; exact hkl) h3.1 hS' ?_⟩
    · by_cases hjq : j = q
      · subst hjq; exact hu
      · rw [getD_set_ne true hjq] at hun
        exact hun
    · rw [Array.setIfInBounds_comm _ _ e]
      exact h3.2.2
theorem WalkT.take2 {i : Nat} (k : Nat) {oi : Oper} {v : Value} {n : Nat} {l : Array Bool} {a : Act} {w : World} (hi : ops[i]? = some oi) (hs : Region.noSelect ops = true) (hw1 : waitsB ops st k = true) (hw2 : waitsB ops k i = true) (hf : Region.free .any ops l i = true) (hr : (Region.ready .any ops l).contains i = true) (hkl : l.getD k true = false)
    (hQ : ∀ c a w, Q (.panic c) (a.put oi.dst v) w → Q (.panic c) a w) (hy : YieldsIf P ops S oi v a) (hS : S w) (h : WalkT P ops Q S st n (l.setIfInBounds i true) (a.put oi.dst v) w) : WalkT P ops Q S st (n + 1) l a w :=
  WalkT.first2 hi hs hw1 hw2 hQ n l a w (Region.free_spec hi hf) (by simpa using hr) hkl hy hS h
theorem WalkT.takeD {i : Nat} (d : Option Tmp) {oi : Oper} {v : Value} {n : Nat} {l : Array Bool} {a : Act} {w : World} (hi : ops[i]? = some oi) (hd : oi.dst = d) (hs : Region.noSelect ops = true) (hw : waitsB ops st i = true) (hf : Region.free .any ops l i = true) (hr : (Region.ready .any ops l).contains i = true)
    (hQ : ∀ c a w, Q (.panic c) (a.put d v) w → Q (.panic c) a w) (hy : YieldsIf P ops S oi v a) (hS : S w) (h : WalkT P ops Q S st n (l.setIfInBounds i true) (a.put d v) w) : WalkT P ops Q S st (n + 1) l a w := by
  subst hd
  exact WalkT.take hi hs hw hf hr hQ hy hS h
theorem WalkT.takeD2 {i : Nat} (k : Nat) (d : Option Tmp) {oi : Oper} {v : Value} {n : Nat} {l : Array Bool} {a : Act} {w : World} (hi : ops[i]? = some oi) (hd : oi.dst = d) (hs : Region.noSelect ops = true) (hw1 : waitsB ops st k = true) (hw2 : waitsB ops k i = true) (hf : Region.free .any ops l i = true) (hr : (Region.ready .any ops l).contains i = true) (hkl : l.getD k true = false)
    (hQ : ∀ c a w, Q (.panic c) (a.put d v) w → Q (.panic c) a w) (hy : YieldsIf P ops S oi v a) (hS : S w) (h : WalkT P ops Q S st n (l.setIfInBounds i true) (a.put d v) w) : WalkT P ops Q S st (n + 1) l a w := by
  subst hd
  exact WalkT.take2 k hi hs hw1 hw2 hf hr hkl hQ hy hS h
theorem WalkT.all {rs : List Nat} {n : Nat} {l : Array Bool} {a : Act} {w : World} (hr : Region.ready .any ops l = rs) (hne : rs ≠ []) (h : ∀ i ∈ rs, wpOp P ops Q i (fun a' w' => (i = st ∨ S w') ∧ WalkT P ops Q S st n (l.setIfInBounds i true) a' w') a w) : WalkT P ops Q S st (n + 1) l a w :=
  ⟨fun h0 => absurd (hr ▸ h0) hne, hr ▸ h⟩
theorem WalkT.one {i : Nat} {o : Oper} {n : Nat} {l : Array Bool} {a : Act} {w : World} (hr : Region.ready .any ops l = [i]) (ho : ops[i]? = some o)
    (h : ∀ K' : Act → World → Prop, (∀ a' w', (i = st ∨ S w') → WalkT P ops Q S st n (l.setIfInBounds i true) a' w' → K' a' w') → if Region.wanted o (yielded ops a.tmps) = true then Oper.wp P o a w K' Q else K' (a.put o.dst undef) w) : WalkT P ops Q S st (n + 1) l a w :=
  WalkT.all hr (by simp) fun k hk => by
    obtain rfl : k = i := by simpa using hk
    exact wpOp_step ho fun K' hK => h K' fun a' w' h1 h2 => hK a' w' ⟨h1, h2⟩
theorem WalkT.two {i j : Nat} {oi oj : Oper} {n : Nat} {l : Array Bool} {a : Act} {w : World} (hr : Region.ready .any ops l = [i, j]) (hi : ops[i]? = some oi) (hj : ops[j]? = some oj)
    (h1 : ∀ K' : Act → World → Prop, (∀ a' w', (i = st ∨ S w') → WalkT P ops Q S st n (l.setIfInBounds i true) a' w' → K' a' w') → if Region.wanted oi (yielded ops a.tmps) = true then Oper.wp P oi a w K' Q else K' (a.put oi.dst undef) w)
    (h2 : ∀ K' : Act → World → Prop, (∀ a' w', (j = st ∨ S w') → WalkT P ops Q S st n (l.setIfInBounds j true) a' w' → K' a' w') → if Region.wanted oj (yielded ops a.tmps) = true then Oper.wp P oj a w K' Q else K' (a.put oj.dst undef) w) : WalkT P ops Q S st (n + 1) l a w :=
  WalkT.all hr (by simp) fun k hk => by
    rcases List.mem_cons.1 hk with rfl | hk
    · exact wpOp_step hi fun K' hK => h1 K' fun a' w' h3 h4 => hK a' w' ⟨h3, h4⟩
    · obtain rfl : k = j := by simpa using hk
      exact wpOp_step hj fun K' hK => h2 K' fun a' w' h3 h4 => hK a' w' ⟨h3, h4⟩
theorem WalkT.done {n : Nat} {l : Array Bool} {a : Act} {w : World} (hr : Region.ready .any ops l = []) (h : Q .normal a w) : WalkT P ops Q S st n l a w := by
  cases n with
  | zero => exact ⟨hr, h⟩
  | succ n => exact ⟨fun _ => h, fun i hi => by rw [hr] at hi; cases hi⟩
/-- The same with the rows of what is done as literals, the count as a numeral. -/
theorem WalkT.startL {id : Nat} {a : Act} {w : World} (k : Nat) (l0 : Array Bool) (hm : P.follows .mixedOrders = true) (hn : ops.size = k) (hl : Array.replicate ops.size false = l0) (h : WalkT P ops Q S st k l0 a w.drew) : (Code.region id ops true).wp P Q a w := by
  subst hl hn
  exact WalkT.start hm h
theorem WalkT.takeL {i : Nat} (d : Option Tmp) (l' : Array Bool) {oi : Oper} {v : Value} {n : Nat} {l : Array Bool} {a : Act} {w : World} (hl : l.setIfInBounds i true = l') (hi : ops[i]? = some oi) (hd : oi.dst = d) (hs : Region.noSelect ops = true) (hw : waitsB ops st i = true) (hf : Region.free .any ops l i = true) (hr : (Region.ready .any ops l).contains i = true)
    (hQ : ∀ c a w, Q (.panic c) (a.put d v) w → Q (.panic c) a w) (hy : YieldsIf P ops S oi v a) (hS : S w) (h : WalkT P ops Q S st n l' (a.put d v) w) : WalkT P ops Q S st (n + 1) l a w := by
  subst hl
  exact WalkT.takeD d hi hd hs hw hf hr hQ hy hS h
theorem WalkT.takeL2 {i : Nat} (k : Nat) (d : Option Tmp) (l' : Array Bool) {oi : Oper} {v : Value} {n : Nat} {l : Array Bool} {a : Act} {w : World} (hl : l.setIfInBounds i true = l') (hi : ops[i]? = some oi) (hd : oi.dst = d) (hs : Region.noSelect ops = true) (hw1 : waitsB ops st k = true) (hw2 : waitsB ops k i = true) (hf : Region.free .any ops l i = true) (hr : (Region.ready .any ops l).contains i = true) (hkl : l.getD k true = false)
    (hQ : ∀ c a w, Q (.panic c) (a.put d v) w → Q (.panic c) a w) (hy : YieldsIf P ops S oi v a) (hS : S w) (h : WalkT P ops Q S st n l' (a.put d v) w) : WalkT P ops Q S st (n + 1) l a w := by
  subst hl
  exact WalkT.takeD2 k d hi hd hs hw1 hw2 hf hr hkl hQ hy hS h
theorem WalkT.oneL {i : Nat} (l' : Array Bool) {o : Oper} {n : Nat} {l : Array Bool} {a : Act} {w : World} (hl : l.setIfInBounds i true = l') (hr : Region.ready .any ops l = [i]) (ho : ops[i]? = some o)
    (h : ∀ K' : Act → World → Prop, (∀ a' w', S w' → WalkT P ops Q S st n l' a' w' → K' a' w') → if Region.wanted o (yielded ops a.tmps) = true then Oper.wp P o a w K' Q else K' (a.put o.dst undef) w) : WalkT P ops Q S st (n + 1) l a w := by
  subst hl
  exact WalkT.one hr ho fun K' hK => h K' fun a' w' hS => hK a' w' (.inr hS)
theorem WalkT.oneSt (l' : Array Bool) {o : Oper} {n : Nat} {l : Array Bool} {a : Act} {w : World} (hl : l.setIfInBounds st true = l') (hr : Region.ready .any ops l = [st]) (ho : ops[st]? = some o)
    (h : ∀ K' : Act → World → Prop, (∀ a' w', WalkT P ops Q S st n l' a' w' → K' a' w') → if Region.wanted o (yielded ops a.tmps) = true then Oper.wp P o a w K' Q else K' (a.put o.dst undef) w) : WalkT P ops Q S st (n + 1) l a w := by
  subst hl
  exact WalkT.one hr ho fun K' hK => h K' fun a' w' => hK a' w' (.inl rfl)
theorem WalkT.twoL {i j : Nat} (li lj : Array Bool) {oi oj : Oper} {n : Nat} {l : Array Bool} {a : Act} {w : World} (hli : l.setIfInBounds i true = li) (hlj : l.setIfInBounds j true = lj) (hr : Region.ready .any ops l = [i, j]) (hi : ops[i]? = some oi) (hj : ops[j]? = some oj)
    (h1 : ∀ K' : Act → World → Prop, (∀ a' w', S w' → WalkT P ops Q S st n li a' w' → K' a' w') → if Region.wanted oi (yielded ops a.tmps) = true then Oper.wp P oi a w K' Q else K' (a.put oi.dst undef) w)
    (h2 : ∀ K' : Act → World → Prop, (∀ a' w', S w' → WalkT P ops Q S st n lj a' w' → K' a' w') → if Region.wanted oj (yielded ops a.tmps) = true then Oper.wp P oj a w K' Q else K' (a.put oj.dst undef) w) : WalkT P ops Q S st (n + 1) l a w := by
  subst hli hlj
  exact WalkT.two hr hi hj (fun K' hK => h1 K' fun a' w' hS => hK a' w' (.inr hS)) (fun K' hK => h2 K' fun a' w' hS => hK a' w' (.inr hS))
end
end Go.Proofs.Ytocahiifeckogaa
