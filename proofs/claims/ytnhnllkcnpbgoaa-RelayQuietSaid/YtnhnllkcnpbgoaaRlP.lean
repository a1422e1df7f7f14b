/- Where a frame goes on (layer 19), as plain data. No program's call, no condition. -/
import Derived.Test.YtnhnllkcnpbgoaaFrP
namespace Go.Proofs.Ytnhnllkcnpbgoaa
open Go.RowKit
set_option maxRecDepth 100000

structure Po where
  st : Int
  pv : Int
  sp : Bool
  ms : List Int
def po0 : Po := ⟨0, 0, false, []⟩
instance : Inhabited Po := ⟨po0⟩
/-- The network of a frame at a port; 0: none. -/
def classP (pv : Int) (f : Fr) : Int := if f.tagged = true ∧ f.vid ≠ 0 then (if 1 ≤ f.vid ∧ f.vid ≤ 4094 then f.vid else 0) else (if 1 ≤ pv ∧ pv ≤ 4094 then pv else 0)
/-- Does a frame that came in go on at all? -/
def goesB (l : List Po) (i : Int) (f : Fr) : Bool := decide (0 ≤ i ∧ i < l.length) && decide ((l.getD i.toNat po0).st = 2) && !keptB f.dst && f.good && decide (classP (l.getD i.toNat po0).pv f ≠ 0)
/-- Does it leave the port k? -/
def leavesB (l : List Po) (i : Int) (f : Fr) (known : Int) (k : Nat) : Bool := decide ((k : Int) ≠ i) && decide ((l.getD k po0).st = 2) && decide (classP (l.getD i.toNat po0).pv f ∈ (l.getD k po0).ms) && (manyB f.dst || decide (known < 0) || decide (known = k))
/-- How it leaves. -/
def asP (l : List Po) (i : Int) (f : Fr) (k : Nat) : Fr := if (l.getD k po0).sp = true ∧ (l.getD k po0).pv = classP (l.getD i.toNat po0).pv f then ⟨f.dst, f.src, false, 0, 0, f.typ, f.data⟩ else ⟨f.dst, f.src, true, classP (l.getD i.toNat po0).pv f, f.prio, f.typ, f.data⟩
structure Se where
  p : Nat
  f : Fr
def se0 : Se := ⟨0, Fr.zero⟩
instance : Inhabited Se := ⟨se0⟩
/-- What leaves by the first n ports. -/
def relayTo (l : List Po) (i : Int) (f : Fr) (known : Int) : Nat → List Se
  | 0 => []
  | n + 1 => relayTo l i f known n ++ (if leavesB l i f known n then [⟨n, asP l i f n⟩] else [])
def relayP (l : List Po) (i : Int) (f : Fr) (known : Int) : List Se := if goesB l i f then relayTo l i f known l.length else []
theorem relayTo_mem {l : List Po} {i : Int} {f : Fr} {known : Int} {n : Nat} {x : Se} (h : x ∈ relayTo l i f known n) : x.p < n ∧ leavesB l i f known x.p = true ∧ x.f = asP l i f x.p := by
  induction n with
  | zero => cases h
  | succ n ih =>
    rcases List.mem_append.1 h with h | h
    · have := ih h
      exact ⟨by omega, this.2⟩
    · split at h
      · rename_i c
        obtain rfl := List.mem_singleton.1 h
        exact ⟨Nat.lt_succ_self n, c, rfl⟩
      · cases h
theorem relayTo_up (l : List Po) (i : Int) (f : Fr) (known : Int) (n : Nat) : (relayTo l i f known n).Pairwise fun x y => x.p < y.p := by
  induction n with
  | zero => exact List.Pairwise.nil
  | succ n ih =>
    unfold relayTo
    refine List.pairwise_append.2 ⟨ih, ?_, fun x hx y hy => ?_⟩
    · split
      · exact List.pairwise_singleton _ _
      · exact List.Pairwise.nil
    · split at hy
      · obtain rfl := List.mem_singleton.1 hy
        exact (relayTo_mem hx).1
      · cases hy
theorem relayP_up (l : List Po) (i : Int) (f : Fr) (known : Int) : (relayP l i f known).Pairwise fun x y => x.p < y.p := by
  unfold relayP
  split
  · exact relayTo_up l i f known _
  · exact List.Pairwise.nil
theorem relayP_mem {l : List Po} {i : Int} {f : Fr} {known : Int} {x : Se} (h : x ∈ relayP l i f known) : goesB l i f = true ∧ x.p < l.length ∧ leavesB l i f known x.p = true ∧ x.f = asP l i f x.p := by
  unfold relayP at h
  split at h
  · rename_i c
    exact ⟨c, relayTo_mem h⟩
  · cases h
theorem relayTo_none {l : List Po} {i : Int} {f : Fr} {known : Int} {n : Nat} (h : ∀ k, k < n → leavesB l i f known k = false) : relayTo l i f known n = [] := by
  induction n with
  | zero => rfl
  | succ n ih =>
    unfold relayTo
    rw [ih (fun k hk => h k (by omega)), h n (Nat.lt_succ_self n)]
    rfl
theorem relayP_bad {l : List Po} {i : Int} {f : Fr} {known : Int} (h : f.good = false) : relayP l i f known = [] := by
  unfold relayP goesB
  rw [h]
  simp
theorem relayP_none {l : List Po} {i : Int} {f : Fr} {known : Int} (h : ∀ k, k < l.length → leavesB l i f known k = false) : relayP l i f known = [] := by
  unfold relayP
  rw [relayTo_none h]
  split <;> rfl
theorem relayTo_len (l : List Po) (i : Int) (f : Fr) (known : Int) (n : Nat) : (relayTo l i f known n).length ≤ n := by
  induction n with
  | zero => exact Nat.le_refl _
  | succ n ih =>
    unfold relayTo
    rw [List.length_append]
    split
    · simp; omega
    · simp; omega
theorem relayP_len (l : List Po) (i : Int) (f : Fr) (known : Int) : (relayP l i f known).length ≤ l.length := by
  unfold relayP
  split
  · exact relayTo_len l i f known _
  · exact Nat.zero_le _
end Go.Proofs.Ytnhnllkcnpbgoaa
