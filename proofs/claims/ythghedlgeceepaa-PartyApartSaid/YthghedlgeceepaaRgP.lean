/- A registrar at a port, as plain data. No condition. -/
import Derived.Test.YthghedlgeceepaaJtab
namespace Go.Proofs.Ythghedlgeceepaa
set_option maxRecDepth 100000

structure Rg where
  mode : Int
  state : Int
  born : Int
  left : Int
/-- The cell of the registrar's table. -/
def cellR (s e : Int) : Ce := (regT.getD s.toNat []).getD e.toNat ce0
def stepR (r : Rg) (e T : Int) : Rg := ⟨r.mode, (cellR r.state e).1, r.born, if (cellR r.state e).2 = 1 then T else r.left⟩
def joinR (r : Rg) (b T : Int) : Rg := if b < 0 ∨ 120 < T - b then r else stepR ⟨r.mode, r.state, if r.state = 0 then b else max b r.born, r.left⟩ 0 T
def hearR (r : Rg) (ev b T : Int) : Rg := if ev = 0 ∨ ev = 1 ∨ ev = 3 then joinR r (min b T) T else if ev = 5 then stepR r 1 T else r
def leaveR (r : Rg) (T : Int) : Rg := if r.state = 1 ∧ 24 ≤ T - r.left then stepR r 3 T else r
def ageR (r : Rg) (T : Int) : Rg := if r.state ≠ 0 ∧ 120 < T - r.born then stepR r 4 T else r
def tickR (r : Rg) (T : Int) : Rg := ageR (leaveR r T) T
def hasR (r : Rg) : Bool := decide (r.mode = 1) || (decide (r.mode = 0) && decide (r.state ≠ 0))
def bornR (r : Rg) (now : Int) : Int := if hasR r = true then (if r.mode = 1 then now else r.born) else -1
def idleR (r : Rg) : Bool := decide (r.mode = 0) && decide (r.state = 0)
/-- It can be, at a tick T. -/
structure OkR (T : Int) (r : Rg) : Prop where
  mode : r.mode = 0 ∨ r.mode = 1 ∨ r.mode = 2
  state : r.state = 0 ∨ r.state = 1 ∨ r.state = 2
  born : 0 ≤ r.born ∧ r.born ≤ T
  left : 0 ≤ r.left ∧ r.left ≤ T
theorem OkR.more {T T' : Int} {r : Rg} (h : OkR T r) (hT : T ≤ T') : OkR T' r := ⟨h.mode, h.state, ⟨h.born.1, by have := h.born.2; omega⟩, ⟨h.left.1, by have := h.left.2; omega⟩⟩
theorem cellR_state (s e : Int) (hs : s = 0 ∨ s = 1 ∨ s = 2) (he : e = 0 ∨ e = 1 ∨ e = 2 ∨ e = 3 ∨ e = 4) : (cellR s e).1 = 0 ∨ (cellR s e).1 = 1 ∨ (cellR s e).1 = 2 := by
  rcases hs with rfl | rfl | rfl <;> rcases he with rfl | rfl | rfl | rfl | rfl <;> decide
theorem OkR.step {T : Int} {r : Rg} (h : OkR T r) (h0 : 0 ≤ T) {e : Int} (he : e = 0 ∨ e = 1 ∨ e = 2 ∨ e = 3 ∨ e = 4) : OkR T (stepR r e T) := by
  refine ⟨h.mode, cellR_state _ _ h.state he, h.born, ?_⟩
  show 0 ≤ (if _ then T else r.left) ∧ (if _ then T else r.left) ≤ T
  split
  · omega
  · exact h.left
theorem OkR.join {T : Int} {r : Rg} (h : OkR T r) (h0 : 0 ≤ T) {b : Int} (hb : b ≤ T) : OkR T (joinR r b T) := by
  unfold joinR
  split
  · exact h
  · rename_i hc
    refine OkR.step (r := ⟨r.mode, r.state, if r.state = 0 then b else max b r.born, r.left⟩) ⟨h.mode, h.state, ?_, h.left⟩ h0 (.inl rfl)
    show 0 ≤ (if _ then b else max b r.born) ∧ (if _ then b else max b r.born) ≤ T
    have h1 := h.born
    split
    · omega
    · exact ⟨Int.le_trans h1.1 (Int.le_max_right _ _), Int.max_le.2 ⟨hb, h1.2⟩⟩
theorem OkR.hear {T : Int} {r : Rg} (h : OkR T r) (h0 : 0 ≤ T) (ev b : Int) : OkR T (hearR r ev b T) := by
  unfold hearR
  split
  · exact h.join h0 (by omega)
  · split
    · exact h.step h0 (.inr (.inl rfl))
    · exact h
theorem OkR.leave {T : Int} {r : Rg} (h : OkR T r) (h0 : 0 ≤ T) : OkR T (leaveR r T) := by
  unfold leaveR
  split
  · exact h.step h0 (.inr (.inr (.inr (.inl rfl))))
  · exact h
theorem OkR.age {T : Int} {r : Rg} (h : OkR T r) (h0 : 0 ≤ T) : OkR T (ageR r T) := by
  unfold ageR
  split
  · exact h.step h0 (.inr (.inr (.inr (.inr rfl))))
  · exact h
theorem OkR.tick {T : Int} {r : Rg} (h : OkR T r) (h0 : 0 ≤ T) : OkR T (tickR r T) := (h.leave h0).age h0
/-- A tick that is far from an int's ends. -/
def Tk (T : Int) : Prop := 0 ≤ T ∧ T ≤ 1099511627776
theorem mode_step (r : Rg) (e T : Int) : (stepR r e T).mode = r.mode := rfl
theorem tickR_0 {r : Rg} (T : Int) (h : r.state = 0) : tickR r T = r := by
  unfold tickR ageR leaveR
  rw [if_neg (show ¬ (r.state = 1 ∧ 24 ≤ T - r.left) by omega), if_neg (fun c => c.1 h)]
theorem tickR_A {r : Rg} {T : Int} (h : r.state = 1) (hd : 24 ≤ T - r.left) : tickR r T = stepR r 3 T := by
  unfold tickR leaveR
  rw [if_pos ⟨h, hd⟩]
  unfold ageR
  rw [if_neg (fun c => c.1 (show (cellR r.state 3).1 = 0 by rw [h]; rfl))]
theorem tickR_B {r : Rg} {T : Int} (h : r.state ≠ 0) (hd : ¬ (r.state = 1 ∧ 24 ≤ T - r.left)) (ho : 120 < T - r.born) : tickR r T = stepR r 4 T := by
  unfold tickR leaveR ageR
  rw [if_neg hd, if_pos ⟨h, ho⟩]
theorem tickR_C {r : Rg} {T : Int} (hd : ¬ (r.state = 1 ∧ 24 ≤ T - r.left)) (ho : ¬ 120 < T - r.born) : tickR r T = r := by
  unfold tickR leaveR ageR
  rw [if_neg hd, if_neg (fun c => ho c.2)]
end Go.Proofs.Ythghedlgeceepaa
