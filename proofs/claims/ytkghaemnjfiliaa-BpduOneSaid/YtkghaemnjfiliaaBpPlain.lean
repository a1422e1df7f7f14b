/- Messages about the tree as plain data: when one can be, its bytes, and which message a text may be. Plain definitions and lemmas, no condition, no program's call. -/
import Derived.Test.YtkghaemnjfiliaaRnum
import Derived.Test.YtkghaemnjfiliaaAddr
namespace Go.Proofs.Ytkghaemnjfiliaa
open Go.RowKit

structure Bp where
  root : Int
  cost : Int
  bridge : Int
  port : Int
  age : Int
  role : Int
  change : Bool
def Bp.cells (b : Bp) : Array Value := #[.int .i64 b.root, .int .i64 b.cost, .int .i64 b.bridge, .int .i64 b.port, .int .i64 b.age, .int .i64 b.role, .bool b.change]
def Bp.v (b : Bp) : Value := .agg b.cells
def Bp.zero : Bp := ⟨0, 0, 0, 0, 0, 0, false⟩
/-- A bridge's name. -/
def nameB (a : Int) : Bool := decide (0 < a ∧ a < 4503599627370496 ∧ a / 1099511627776 % 2 = 0)
def idOf (rank mac : Int) : Int := if 0 ≤ rank ∧ rank ≤ 15 ∧ goodB mac = true ∧ manyB mac = false then rank * 281474976710656 + mac else 0
def costB (a : Int) : Bool := decide (0 ≤ a ∧ a ≤ 2147483647)
def portB (a : Int) : Bool := decide (0 ≤ a ∧ a ≤ 5)
def ageB (a : Int) : Bool := decide (0 ≤ a ∧ a ≤ 10)
def roleB (a : Int) : Bool := decide (0 ≤ a ∧ a ≤ 3)
def vecB (root cost bridge port : Int) : Bool := nameB root && nameB bridge && costB cost && portB port
/-- It can be. -/
def Bp.good (b : Bp) : Bool := vecB b.root b.cost b.bridge b.port && ageB b.age && roleB b.role
def Bp.flags (b : Bp) : Int := b.role * 4 + if b.change then 1 else 0
def nameL (a : Int) : List UInt8 := be (a / 281474976710656 * 4096) 2 ++ be (a % 281474976710656) 6
/-- Its bytes. -/
def Bp.raw (b : Bp) : List UInt8 :=
  be 0 2 ++ be 2 1 ++ be 2 1 ++ be b.flags 1 ++ nameL b.root ++ be b.cost 4 ++ nameL b.bridge ++ be (b.port + 1) 2 ++ be (b.age * 256) 2 ++ be 2560 2 ++ be 512 2 ++ be 1024 2 ++ be 0 1

theorem nameL_length (a : Int) : (nameL a).length = 8 := by simp [nameL, be_length]
theorem bp_length (b : Bp) : b.raw.length = 36 := by simp [Bp.raw, be_length, nameL_length]
theorem manyB_in {m : Int} (h0 : 0 ≤ m) (h1 : m ≤ 281474976710655) : manyB m = decide (m / 1099511627776 % 2 = 1) := by
  unfold manyB
  by_cases h : m / 1099511627776 % 2 = 1
  · rw [decide_eq_true h, decide_eq_true ⟨h0, h1, h⟩]
  · rw [decide_eq_false h, decide_eq_false (fun x => h x.2.2)]
theorem idOf_range (rank mac : Int) : idOf rank mac = 0 ∨ nameB (idOf rank mac) = true ∧ 0 ≤ rank ∧ rank ≤ 15 ∧ 0 ≤ mac ∧ mac ≤ 281474976710655 ∧ idOf rank mac = rank * 281474976710656 + mac := by
  unfold idOf
  split
  · rename_i h
    obtain ⟨h0, h1, h2, h3⟩ := h
    simp only [goodB, decide_eq_true_eq] at h2
    rw [manyB_in h2.1 h2.2] at h3
    have h3 := of_decide_eq_false h3
    by_cases hz : rank * 281474976710656 + mac = 0
    · exact .inl hz
    · refine .inr ⟨decide_eq_true ⟨by omega, by omega, by omega⟩, h0, h1, h2.1, h2.2, rfl⟩
  · exact .inl rfl
/-- A name is that of its rank and its address, and nothing else is. -/
theorem nameB_is (a : Int) : nameB a = true ↔ a ≠ 0 ∧ idOf (a / 281474976710656) (a % 281474976710656) = a := by
  unfold nameB idOf
  rw [decide_eq_true_eq]
  constructor
  · rintro ⟨h1, h2, h3⟩
    refine ⟨by omega, ?_⟩
    rw [if_pos ⟨by omega, by omega, decide_eq_true (by omega), by rw [manyB_in (by omega) (by omega)]; exact decide_eq_false (by omega)⟩]
    omega
  · rintro ⟨h1, h2⟩
    split at h2
    · rename_i h
      obtain ⟨h3, h4, h5, h6⟩ := h
      rw [manyB_in (by omega) (by omega)] at h6
      have h6 := of_decide_eq_false h6
      omega
    · omega
theorem nameB_neg {a : Int} (h : a ≤ 0) : nameB a = false := decide_eq_false (by omega)
theorem name_back {a : Int} (h : nameB a = true) : idOf (num (be (a / 281474976710656 * 4096) 2) / 4096) (num (be (a % 281474976710656) 6)) = a := by
  have hn := h
  simp only [nameB, decide_eq_true_eq] at h
  rw [num_in (k := 2) (by omega) (by show _ < (65536 : Int); omega), num_in (k := 6) (by omega) (by show _ < (281474976710656 : Int); omega)]
  have := ((nameB_is a).1 hn).2
  rw [show a / 281474976710656 * 4096 / 4096 = a / 281474976710656 by omega]
  exact this

/-- The message that a text may be. -/
def Bp.parse (s : ByteArray) : Bp :=
  let r0 : RdS := RdS.take ⟨s, 0, false⟩ 4
  let r1 := r0.take 1
  let r2 := r1.take 2
  let r3 := r2.take 6
  let r4 := r3.take 4
  let r5 := r4.take 2
  let r6 := r5.take 6
  let r7 := r6.take 2
  ⟨idOf (r1.get 2 / 4096) (r2.get 6), r3.get 4, idOf (r4.get 2 / 4096) (r5.get 6), r6.get 2 - 1, r7.get 2 / 256, r0.get 1 / 4, r0.get 1 % 4 == 1⟩

/-- What can be is read of its own bytes. -/
theorem bp_parse {b : Bp} (h : b.good = true) : Bp.parse ⟨b.raw.toArray⟩ = b := by
  obtain ⟨root, cost, bridge, port, age, role, change⟩ := b
  obtain ⟨b, hb⟩ : ∃ b : Bp, b = ⟨root, cost, bridge, port, age, role, change⟩ := ⟨_, rfl⟩
  simp only [Bp.good, vecB, Bool.and_eq_true] at h
  obtain ⟨⟨⟨⟨⟨hr, hg⟩, hc⟩, hp⟩, ha⟩, ho⟩ := h
  simp only [costB, portB, ageB, roleB, decide_eq_true_eq] at hc hp ha ho
  obtain ⟨T, hT⟩ : ∃ T : ByteArray, T = ⟨b.raw.toArray⟩ := ⟨_, rfl⟩
  rw [← hb, ← hT]
  have hl : T.data.toList = b.raw := by rw [hT]
  have hfl : 0 ≤ b.flags ∧ b.flags < 256 := by rw [hb]; simp only [Bp.flags]; split <;> omega
  have h0 : T.data.toList = [] ++ (be 0 2 ++ be 2 1 ++ be 2 1 ++ (be b.flags 1 ++ (be (root / 281474976710656 * 4096) 2 ++ (be (root % 281474976710656) 6 ++ (be cost 4 ++ (be (bridge / 281474976710656 * 4096) 2 ++ (be (bridge % 281474976710656) 6 ++ (be (port + 1) 2 ++ (be (age * 256) 2 ++ (be 2560 2 ++ be 512 2 ++ be 1024 2 ++ be 0 1))))))))) ) := by
    rw [hl, Bp.raw, nameL, nameL, hb]; simp only [List.append_assoc, List.nil_append]
  have step : ∀ {p q rest : List UInt8}, T.data.toList = p ++ (q ++ rest) → T.data.toList = (p ++ q) ++ rest := fun h => by rw [h, List.append_assoc]
  obtain ⟨_, t0⟩ := get_at h0 (z := 4) (by decide) (by simp [be_length])
  have h1 := step h0
  obtain ⟨g1, t1⟩ := get_at h1 (z := 1) (by decide) (by simp [be_length])
  have h2 := step h1
  obtain ⟨g2, t2⟩ := get_at h2 (z := 2) (by decide) (by simp [be_length])
  have h3 := step h2
  obtain ⟨g3, t3⟩ := get_at h3 (z := 6) (by decide) (by simp [be_length])
  have h4 := step h3
  obtain ⟨g4, t4⟩ := get_at h4 (z := 4) (by decide) (by simp [be_length])
  have h5 := step h4
  obtain ⟨g5, t5⟩ := get_at h5 (z := 2) (by decide) (by simp [be_length])
  have h6 := step h5
  obtain ⟨g6, t6⟩ := get_at h6 (z := 6) (by decide) (by simp [be_length])
  have h7 := step h6
  obtain ⟨g7, t7⟩ := get_at h7 (z := 2) (by decide) (by simp [be_length])
  have h8 := step h7
  obtain ⟨g8, _⟩ := get_at h8 (z := 2) (by decide) (by simp [be_length])
  have e0 : (RdS.mk T 0 false) = (RdS.mk T ([] : List UInt8).length false) := rfl
  simp only [Bp.parse]
  rw [e0, t0, t1, t2, t3, t4, t5, t6, t7, g1, g2, g3, g4, g5, g6, g7, g8, name_back hr, name_back hg]
  rw [num_in (k := 1) hfl.1 (by show _ < (256 : Int); omega), num_in (k := 4) (by omega) (by show _ < (4294967296 : Int); omega), num_in (k := 2) (by omega) (by show _ < (65536 : Int); omega), num_in (k := 2) (by omega) (by show _ < (65536 : Int); omega), hb]
  simp only [Bp.flags]
  congr 1
  · omega
  · omega
  · cases change <;> simp <;> omega
  · cases change <;> simp <;> omega
theorem bp_inj {f g : Bp} (hf : f.good = true) (hg : g.good = true) (h : f.raw = g.raw) : f = g := by
  rw [← bp_parse hf, h, bp_parse hg]
end Go.Proofs.Ytkghaemnjfiliaa
