/- A row of bytes that a call made out of a text: what a walk reads in it, turns in it, and makes a text of again. No condition. -/
import Derived.Test.YthbnadohldiifaaDoorStrip
namespace Go.Proofs.YthbnadohldiifaaDoor
open Go.RowKit

/-- Block g begins with the bytes l, none of them frozen. -/
def BRow (w : World) (g : Nat) (l : List UInt8) : Prop :=
  ∃ (C : Array Value) (t n : Nat), w.heap[g]? = some (.cells C t (n, n + 1)) ∧ l.length ≤ n ∧ ∀ (j : Nat) (b : UInt8), l[j]? = some b → C[j]? = some (Value.int .u8 (b.toNat : Int))
theorem BRow.cell {w : World} {g : Nat} {l : List UInt8} (h : BRow w g l) {j : Nat} {b : UInt8} (hb : l[j]? = some b) : w.cell? ⟨g, j, none⟩ = some (.int .u8 (b.toNat : Int)) := by
  obtain ⟨C, t, n, hg, _, hc⟩ := h
  simp only [World.cell?, hg]
  exact hc j b hb
theorem BRow.frozen {w : World} {g : Nat} {l : List UInt8} (h : BRow w g l) {j : Nat} (hj : j < l.length) : w.frozen? ⟨g, j, none⟩ = false := by
  obtain ⟨C, t, n, hg, hn, _⟩ := h
  simp only [World.frozen?, hg]
  simp
  omega
theorem BRow.set_ {w : World} {g : Nat} {l : List UInt8} (h : BRow w g l) (j : Nat) (b : UInt8) : BRow (w.setCell ⟨g, j, none⟩ (.int .u8 (b.toNat : Int))) g (l.set j b) := by
  obtain ⟨C, t, n, hg, hn, hc⟩ := h
  refine ⟨C.setIfInBounds j (.int .u8 (b.toNat : Int)), t, n, ?_, by simpa using hn, fun i c hi => ?_⟩
  · simp [World.setCell, Array.getElem?_modify, hg]
  · rw [List.getElem?_set] at hi
    split at hi
    · rename_i e
      subst e
      split at hi
      · rename_i hlt
        injection hi with hi
        subst hi
        have h1 := hc j l[j] (List.getElem?_eq_getElem hlt)
        have h2 : j < C.size := (Array.getElem?_eq_some_iff.1 h1).1
        rw [Array.getElem?_setIfInBounds_self_of_lt h2]
      · cases hi
    · rename_i e
      rw [Array.getElem?_setIfInBounds_ne e]
      exact hc i c hi
theorem BRow.lt {w : World} {g : Nat} {l : List UInt8} (h : BRow w g l) : g < w.heap.size := by
  obtain ⟨C, t, n, hg, _⟩ := h
  exact (Array.getElem?_eq_some_iff.1 hg).1
theorem BRow.below {w w' : World} {g B : Nat} {l : List UInt8} (h : BRow w g l) (hb : Below B w w') (hB : g < B) : BRow w' g l := by
  obtain ⟨C, t, n, hg, h1, h2⟩ := h
  exact ⟨C, t, n, (hb.block g hB).trans hg, h1, h2⟩
/-- '[]byte(s)': the new row. -/
theorem BRow.of_text (w : World) (s : ByteArray) : ∃ (C : Array Value) (cap : Nat),
    (convert 9 34 (.string s)).run Tryd.prog w = .ok (.slice (some ⟨w.heap.size, 0, none⟩) s.size cap) (w.drew.alloc (.cells C 5 (C.size, C.size + 1))) ∧ BRow (w.drew.alloc (.cells C 5 (C.size, C.size + 1))) w.heap.size s.data.toList := by
  refine ⟨bytesRow s (grownCap w s.size 0 5), grownCap w s.size 0 5, run_bytes_of_string (P := Tryd.prog) w 9 34 5 s Tryd.underlying9 Tryd.underlying34 Tryd.underlying5, ?_⟩
  generalize hC : bytesRow s (grownCap w s.size 0 5) = C
  refine ⟨C, 5, C.size, ?_, ?_, fun j b hb => ?_⟩
  · show (w.heap.push _)[w.heap.size]? = _
    simp
  · subst hC
    simp [bytesRow]
  · subst hC
    have hlt : j < s.data.toList.length := (List.getElem?_eq_some_iff.1 hb).1
    have hlt' : j < s.data.size := by simpa using hlt
    have e : s.data[j]? = some b := by simpa using hb
    have hlt2 : j < s.size := hlt'
    simp [bytesRow, Array.getElem?_append, hlt2]
    have : s.data[j] = b := by rw [Array.getElem?_eq_getElem hlt'] at e; injection e
    rw [this]
/-- 'string(t)' over such a row. -/
theorem BRow.text {w : World} {g : Nat} {l : List UInt8} (h : BRow w g l) (cap : Nat) : (convert 34 9 (.slice (some ⟨g, 0, none⟩) l.length cap)).run Tryd.prog w = .ok (.string (str l)) w := by
  refine run_convert_bytes_back w 34 9 5 ⟨g, 0, none⟩ cap l Tryd.underlying34 Tryd.underlying5 Tryd.underlying9 fun j hj => ?_
  have := h.cell (List.getElem?_eq_getElem hj)
  by_cases h0 : j = 0
  · subst h0
    exact this
  · simpa [Addr.add, h0] using this

theorem xor8 (a b : UInt8) : bits .xor .u8 (a.toNat : Int) (b.toNat : Int) = ((a ^^^ b).toNat : Int) := by
  have ha := a.toNat_lt
  have hb := b.toNat_lt
  have h1 : (BitVec.ofInt 8 (a.toNat : Int)).toNat = a.toNat := by
    rw [BitVec.ofInt_natCast, BitVec.toNat_ofNat]; exact Nat.mod_eq_of_lt ha
  have h2 : (BitVec.ofInt 8 (b.toNat : Int)).toNat = b.toNat := by
    rw [BitVec.ofInt_natCast, BitVec.toNat_ofNat]; exact Nat.mod_eq_of_lt hb
  show IntKind.u8.wrap ((BitVec.ofInt 8 (a.toNat : Int) ^^^ BitVec.ofInt 8 (b.toNat : Int)).toNat : Int) = _
  rw [BitVec.toNat_xor, h1, h2, UInt8.toNat_xor]
  have : a.toNat ^^^ b.toNat < 2 ^ 8 := Nat.xor_lt_two_pow ha hb
  exact wraps_u8 _ (by omega) (by omega)
/-- A number of kind uint8 is a byte. -/
theorem byte_of {n : Int} (h : (Lit.int .u8 n).wf = true) : ∃ b : UInt8, n = (b.toNat : Int) := by
  have h1 : 0 ≤ n ∧ n ≤ 255 := by simpa [Lit.wf, IntKind.min, IntKind.max, IntKind.signed, IntKind.bits] using h
  refine ⟨UInt8.ofNat n.toNat, ?_⟩
  simp
  omega
/-- 'int(uint(a) % uint(n))': a number below n. -/
theorem near_of (a : Int) (n : Nat) (h0 : n ≠ 0) (h : n < 4611686018427387904) : ∃ K : Nat, wrap64 ((IntKind.u64.wrap a).tmod (n : Int)) = (K : Int) ∧ K < n := by
  have h1 : 0 ≤ IntKind.u64.wrap a := by rw [IntKind.wrap_u64]; omega
  have h2 : (IntKind.u64.wrap a).tmod (n : Int) = IntKind.u64.wrap a % (n : Int) := Int.tmod_eq_emod_of_nonneg h1
  rw [h2]
  have h3 : 0 ≤ IntKind.u64.wrap a % (n : Int) := Int.emod_nonneg _ (by omega)
  have h4 : IntKind.u64.wrap a % (n : Int) < (n : Int) := Int.emod_lt_of_pos _ (by omega)
  obtain ⟨K, hK⟩ := Int.eq_ofNat_of_zero_le h3
  rw [hK] at h4 ⊢
  refine ⟨K, ?_, by omega⟩
  unfold wrap64
  omega
end Go.Proofs.YthbnadohldiifaaDoor
