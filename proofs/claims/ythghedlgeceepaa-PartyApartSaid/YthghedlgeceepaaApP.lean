/- An applicant, as plain data. No condition. -/
import Derived.Test.YthghedlgeceepaaJtab
namespace Go.Proofs.Ythghedlgeceepaa
set_option maxRecDepth 100000

structure Ap where
  state : Int
  born : Int
/-- A state of the applicant's, an event of it. -/
def S5 (s : Int) : Prop := s = 0 ∨ s = 1 ∨ s = 2 ∨ s = 3 ∨ s = 4
def E6 (e : Int) : Prop := e = 0 ∨ e = 1 ∨ e = 2 ∨ e = 3 ∨ e = 4 ∨ e = 5
/-- The cell of the applicant's table. -/
def cellA (s e : Int) : Ce := (appT.getD s.toNat []).getD e.toNat ce0
def actA (a : Ap) (e : Int) : Int := (cellA a.state e).2
def stepA (a : Ap) (e : Int) : Ap := ⟨(cellA a.state e).1, a.born⟩
def speaksA (a : Ap) : Bool := decide (1 ≤ a.state) && decide (a.state ≤ 3)
def pendA (a : Ap) : Bool := decide (a.state = 1) || decide (a.state = 2) || decide (a.state = 4)
def joinE (n : Bool) : Int := if n = true then 5 else 0
def wantA (a : Ap) (b : Int) (n : Bool) : Ap := if b < 0 then stepA a 1 else if speaksA a = true then ⟨a.state, b⟩ else stepA ⟨a.state, b⟩ (joinE n)
/-- What is said by an act: the event, whose tick, whether anything. -/
def sayE (act : Int) : Int := if act = 2 then 1 else if act = 3 then 5 else 0
def sayB (act b : Int) : Int := if act = 0 then 0 else b
def sayV (a : Ap) : Value := .tuple #[.int .i64 (sayE (actA a 4)), .int .i64 (sayB (actA a 4) a.born), .bool (decide (actA a 4 ≠ 0))]
theorem cellA_state {s e : Int} (hs : S5 s) (he : E6 e) : S5 (cellA s e).1 := by
  unfold S5 E6 at *
  rcases hs with rfl | rfl | rfl | rfl | rfl <;> rcases he with rfl | rfl | rfl | rfl | rfl | rfl <;> decide
theorem cellA_act {s : Int} (hs : S5 s) : (cellA s 4).2 = 0 ∨ (cellA s 4).2 = 1 ∨ (cellA s 4).2 = 2 ∨ (cellA s 4).2 = 3 := by
  unfold S5 at *
  rcases hs with rfl | rfl | rfl | rfl | rfl <;> decide
theorem stepA_ok {a : Ap} (h : S5 a.state) {e : Int} (he : E6 e) : S5 (stepA a e).state := cellA_state h he
theorem joinE_ok (n : Bool) : E6 (joinE n) := by cases n <;> unfold joinE E6 <;> decide
theorem wantA_ok {a : Ap} (h : S5 a.state) (b : Int) (n : Bool) : S5 (wantA a b n).state := by
  unfold wantA
  split
  · exact stepA_ok h (by unfold E6; omega)
  · split
    · exact h
    · exact stepA_ok (a := ⟨a.state, b⟩) h (joinE_ok n)
end Go.Proofs.Ythghedlgeceepaa
