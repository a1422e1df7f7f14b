/- Where addresses were seen (layer 18), as plain data: the document's table. No program's call, no condition. -/
import Derived.Test.YtnhnllkcnpbgoaaMem
namespace Go.Proofs.Ytnhnllkcnpbgoaa
open Go.RowKit
set_option maxRecDepth 100000

structure Pl where
  v : Int
  m : Int
  p : Int
  s : Int
  st : Bool
deriving DecidableEq
def pl0 : Pl := ⟨0, 0, 0, 0, false⟩
instance : Inhabited Pl := ⟨pl0⟩
/-- Is it of this network and address? -/
def Pl.is (v m : Int) (x : Pl) : Prop := x.v = v ∧ x.m = m
instance (v m : Int) (x : Pl) : Decidable (x.is v m) := by unfold Pl.is; infer_instance
/-- The first place of these. -/
def ixP (v m : Int) : List Pl → Option Nat
  | [] => none
  | x :: l => if x.is v m then some 0 else (ixP v m l).map (· + 1)
def ixI (v m : Int) (l : List Pl) : Int := match ixP v m l with
  | some i => i
  | none => -1
theorem ixP_some {v m : Int} : ∀ {l : List Pl} {i : Nat}, ixP v m l = some i → i < l.length ∧ (l.getD i pl0).is v m ∧ ∀ k, k < i → ¬ (l.getD k pl0).is v m
  | [], i, h => by cases h
  | x :: l, i, h => by
    unfold ixP at h
    split at h
    · rename_i c
      injection h with h
      subst h
      exact ⟨by simp, by simpa using c, fun k hk => absurd hk (Nat.not_lt_zero k)⟩
    · rename_i c
      cases hp : ixP v m l with
      | none => rw [hp] at h; cases h
      | some i' =>
        rw [hp] at h
        have h : some (i' + 1) = some i := h
        injection h with h
        subst h
        obtain ⟨h1, h2, h3⟩ := ixP_some hp
        refine ⟨by simp only [List.length_cons]; omega, by simpa using h2, fun k hk => ?_⟩
        cases k with
        | zero => simpa using c
        | succ k => simpa using h3 k (by omega)
theorem ixP_none {v m : Int} : ∀ {l : List Pl}, ixP v m l = none → ∀ k, k < l.length → ¬ (l.getD k pl0).is v m
  | [], _, k, hk => absurd hk (Nat.not_lt_zero k)
  | x :: l, h, k, hk => by
    unfold ixP at h
    split at h
    · cases h
    · rename_i c
      cases k with
      | zero => simpa using c
      | succ k =>
        cases hp : ixP v m l with
        | none => simpa using ixP_none hp k (by simpa using hk)
        | some i' => rw [hp] at h; cases h
theorem ixP_at {v m : Int} {l : List Pl} {i : Nat} (hi : i < l.length) (h : (l.getD i pl0).is v m) (hb : ∀ k, k < i → ¬ (l.getD k pl0).is v m) : ixP v m l = some i := by
  cases hp : ixP v m l with
  | none => exact absurd h (ixP_none hp i hi)
  | some j =>
    obtain ⟨h1, h2, h3⟩ := ixP_some hp
    by_cases e : j = i
    · rw [e]
    · rcases Nat.lt_or_gt_of_ne e with c | c
      · exact absurd h2 (hb j c)
      · exact absurd h (h3 i c)
theorem ixP_no {v m : Int} {l : List Pl} (h : ∀ k, k < l.length → ¬ (l.getD k pl0).is v m) : ixP v m l = none := by
  cases hp : ixP v m l with
  | none => rfl
  | some j =>
    obtain ⟨h1, h2, _⟩ := ixP_some hp
    exact absurd h2 (h j h1)
/-- Was it seen ahead of another one? (in order, of several) -/
def ltS (x y : Pl) : Prop := x.s < y.s ∨ x.s = y.s ∧ (x.v < y.v ∨ x.v = y.v ∧ x.m < y.m)
instance (x y : Pl) : Decidable (ltS x y) := by unfold ltS; infer_instance
/-- The one that was seen first among the first k that aren't static; -1: there is none. -/
def oldTo (l : List Pl) : Nat → Int
  | 0 => -1
  | k + 1 => if (l.getD k pl0).st = false ∧ (oldTo l k < 0 ∨ ltS (l.getD k pl0) (l.getD (oldTo l k).toNat pl0)) then k else oldTo l k
theorem old_in (l : List Pl) (k : Nat) : -1 ≤ oldTo l k ∧ oldTo l k < k ∧ (oldTo l k < 0 ∨ (l.getD (oldTo l k).toNat pl0).st = false) := by
  induction k with
  | zero => exact ⟨Int.le_refl _, by show (-1 : Int) < 0; omega, .inl (by show (-1 : Int) < 0; omega)⟩
  | succ k ih =>
    unfold oldTo
    split
    · rename_i c
      exact ⟨by omega, by omega, .inr (by simpa using c.1)⟩
    · exact ⟨ih.1, by omega, ih.2.2⟩
/-- The document's table. -/
structure Dt where
  l : List Pl
  f : Int
def rmP (l : List Pl) (i : Nat) : List Pl := l.take i ++ l.drop (i + 1)
theorem rm_len {l : List Pl} {i : Nat} (h : i < l.length) : (rmP l i).length = l.length - 1 := by
  unfold rmP
  rw [List.length_append, List.length_take, List.length_drop]
  omega
def putD (d : Dt) (x : Pl) : Dt × Int := match ixP x.v x.m d.l with
  | some i => (⟨rmP d.l i ++ [x], d.f⟩, 0)
  | none => if 24 ≤ d.l.length then (if oldTo d.l d.l.length < 0 then (⟨d.l, wrap64 (d.f + 1)⟩, 6) else (⟨rmP d.l (oldTo d.l d.l.length).toNat ++ [x], d.f⟩, 0)) else (⟨d.l ++ [x], d.f⟩, 0)
/-- Are there such? -/
def fineP (v m p : Int) : Prop := (1 ≤ v ∧ v ≤ 4094) ∧ (0 ≤ m ∧ m ≤ 281474976710655 ∧ ¬ m / 1099511627776 % 2 = 1) ∧ 0 ≤ p ∧ p ≤ 5
instance (v m p : Int) : Decidable (fineP v m p) := by unfold fineP; infer_instance
def learnD (d : Dt) (v m p now : Int) : Dt × Int :=
  if fineP v m p then (match ixP v m d.l with
    | some i => if (d.l.getD i pl0).st = true then (d, 0) else putD d ⟨v, m, p, now, false⟩
    | none => putD d ⟨v, m, p, now, false⟩) else (d, 1)
def fixD (d : Dt) (v m p : Int) : Dt × Int := if fineP v m p then putD d ⟨v, m, p, 0, true⟩ else (d, 1)
def dropD (d : Dt) (v m : Int) : Dt × Int := match ixP v m d.l with
  | some i => (⟨rmP d.l i, d.f⟩, 0)
  | none => (d, 5)
def keepB (kind n : Int) (x : Pl) : Bool := x.st || (decide (kind = 0) && decide (wrap64 (n - x.s) ≤ 60)) || (decide (kind = 1) && decide (x.p ≠ n))
def keepD (d : Dt) (kind n : Int) : Dt := ⟨d.l.filter (keepB kind n), d.f⟩
end Go.Proofs.Ytnhnllkcnpbgoaa
