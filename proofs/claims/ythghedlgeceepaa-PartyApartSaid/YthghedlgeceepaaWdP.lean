/- Words and messages about attributes as plain data, and which can be. No condition. -/
import Derived.Test.YthghedlgeceepaaMem
namespace Go.Proofs.Ythghedlgeceepaa

/-- A word: its attribute's type and value, its event, its tick. -/
structure Wd where
  t : Int
  v : Int
  e : Int
  b : Int
/-- A message: the types of which all are asked for, and words. -/
structure Msg where
  all : List Int
  ws : List Wd
theorem Wd.eq {a b : Wd} (h1 : a.t = b.t) (h2 : a.v = b.v) (h3 : a.e = b.e) (h4 : a.b = b.b) : a = b := by
  cases a; cases b; simp only at h1 h2 h3 h4; subst h1 h2 h3 h4; rfl
theorem Msg.eq {a b : Msg} (h1 : a.all = b.all) (h2 : a.ws = b.ws) : a = b := by
  cases a; cases b; simp only at h1 h2; subst h1 h2; rfl
def Msg.none : Msg := ⟨[], []⟩
def Msg.app (p v : Msg) : Msg := ⟨p.all ++ v.all, p.ws ++ v.ws⟩
theorem Msg.app_assoc (p v u : Msg) : (p.app v).app u = p.app (v.app u) := by simp [Msg.app]
theorem Msg.app_none (p : Msg) : p.app Msg.none = p := by simp [Msg.app, Msg.none]
theorem Msg.none_app (p : Msg) : Msg.none.app p = p := by simp [Msg.app, Msg.none]

/-- How many bytes a type's value has. -/
def vs (k : Int) : Nat := if k = 1 then 2 else if k = 2 then 6 else if k = 3 then 1 else 0
theorem vs_le (k : Int) : vs k ≤ 6 := by unfold vs; split <;> (try split) <;> (try split) <;> omega
theorem vs_cases {k : Int} (h : vs k ≠ 0) : k = 1 ∨ k = 2 ∨ k = 3 := by unfold vs at h; split at h <;> (try split at h) <;> (try split at h) <;> simp_all
def attrP (t v : Int) : Prop := (t = 1 ∧ 1 ≤ v ∧ v ≤ 4094) ∨ (t = 2 ∧ 0 ≤ v ∧ v ≤ 281474976710655 ∧ v / 1099511627776 % 2 = 1) ∨ (t = 3 ∧ (v = 0 ∨ v = 1))
def wordP (w : Wd) : Prop := attrP w.t w.v ∧ 0 ≤ w.e ∧ w.e ≤ 5 ∧ 0 ≤ w.b ∧ w.b ≤ 1048576
def lessP (a b : Wd) : Prop := a.t < b.t ∨ (a.t = b.t ∧ a.v < b.v)
instance (t v : Int) : Decidable (attrP t v) := by unfold attrP; infer_instance
instance (w : Wd) : Decidable (wordP w) := by unfold wordP; infer_instance
instance (a b : Wd) : Decidable (lessP a b) := by unfold lessP; infer_instance
theorem lessP_trans {a b c : Wd} (h : lessP a b) (h' : lessP b c) : lessP a c := by unfold lessP at *; omega
theorem attr_range {t v : Int} (h : attrP t v) : vs t ≠ 0 ∧ 0 ≤ v ∧ v < 256 ^ vs t ∧ v < 281474976710656 := by
  unfold attrP at h
  rcases h with ⟨rfl, h⟩ | ⟨rfl, h⟩ | ⟨rfl, h⟩
  · refine ⟨by decide, by omega, ?_, by omega⟩
    show v < 65536
    omega
  · refine ⟨by decide, by omega, ?_, by omega⟩
    show v < 281474976710656
    omega
  · refine ⟨by decide, by omega, ?_, by omega⟩
    show v < 256
    omega

/-- Can a message be? -/
def Msg.Good (m : Msg) : Prop := ((∀ k ∈ m.all, vs k ≠ 0) ∧ m.all.Pairwise (fun a b => a < b)) ∧ (∀ w ∈ m.ws, wordP w) ∧ m.ws.Pairwise lessP
instance (m : Msg) : Decidable m.Good := by unfold Msg.Good; infer_instance
end Go.Proofs.Ythghedlgeceepaa
