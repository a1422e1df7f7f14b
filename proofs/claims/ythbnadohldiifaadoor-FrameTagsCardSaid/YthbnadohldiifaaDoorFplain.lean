/- Frames as plain data: when one can be, its bytes without the sum, and which frame a text may be. Plain definitions and lemmas, no condition, no program's call. -/
import Derived.Test.YthbnadohldiifaaDoorBmath
import Derived.Test.YthbnadohldiifaaDoorAddr
namespace Go.Proofs.YthbnadohldiifaaDoor
open Go.RowKit

structure Fr where
  dst : Int
  src : Int
  tagged : Bool
  vid : Int
  prio : Int
  typ : Int
  data : ByteArray
def Fr.cells (f : Fr) : Array Value := #[.int .i64 f.dst, .int .i64 f.src, .bool f.tagged, .int .i64 f.vid, .int .i64 f.prio, .int .i64 f.typ, .string f.data]
def Fr.v (f : Fr) : Value := .agg f.cells
def Fr.zero : Fr := ⟨0, 0, false, 0, 0, 0, ⟨#[]⟩⟩
def tagB (f : Fr) : Bool := if f.tagged then decide (0 ≤ f.vid ∧ f.vid ≤ 4094 ∧ 0 ≤ f.prio ∧ f.prio ≤ 7) else decide (f.vid = 0 ∧ f.prio = 0)
def ftypeB (t : Int) : Bool := decide (t = 0 ∨ (1536 ≤ t ∧ t ≤ 65535 ∧ t ≠ 33024))
/-- It can be. -/
def Fr.good (f : Fr) : Bool := goodB f.dst && goodB f.src && !manyB f.src && tagB f && ftypeB f.typ && decide ((f.data.size : Int) ≤ 400)
def Fr.tag (f : Fr) (vid prio : Int) : Fr := { f with tagged := true, vid := vid, prio := prio }
def Fr.untag (f : Fr) : Fr := { f with tagged := false, vid := 0, prio := 0 }

/-- A frame's bytes, part by part, without the sum. -/
def Fr.head (f : Fr) : List UInt8 := be f.dst 6 ++ be f.src 6
def Fr.mark (f : Fr) : List UInt8 := if f.tagged then be 33024 2 ++ be (f.prio * 8192 + f.vid) 2 else []
def Fr.kind (f : Fr) : List UInt8 := if f.typ = 0 then be (3 + f.data.size) 2 ++ [66, 66, 3] else be f.typ 2
def Fr.raw (f : Fr) : List UInt8 := f.head ++ f.mark ++ f.kind ++ f.data.data.toList

theorem head_length (f : Fr) : f.head.length = 12 := by simp [Fr.head, be_length]
theorem mark_length (f : Fr) : f.mark.length = if f.tagged then 4 else 0 := by
  unfold Fr.mark
  split <;> simp [be_length]
theorem kind_length (f : Fr) : f.kind.length = if f.typ = 0 then 5 else 2 := by
  unfold Fr.kind
  split <;> simp [be_length]
theorem raw_length (f : Fr) : f.raw.length = 12 + (if f.tagged then 4 else 0) + (if f.typ = 0 then 5 else 2) + f.data.size := by
  simp only [Fr.raw, List.length_append, head_length, mark_length, kind_length, Array.length_toList]
  rfl
theorem raw_le (f : Fr) : f.raw.length ≤ f.data.size + 21 := by
  rw [raw_length]
  split <;> split <;> omega

theorem RdS.take_ok {r : RdS} (h : r.ok) (n : Int) : (r.take n).ok := by
  obtain ⟨h1, h2⟩ := h
  unfold RdS.take
  split
  · rename_i hc
    simp only [RdS.can, Bool.and_eq_true, decide_eq_true_eq] at hc
    exact ⟨by show r.at_ + n.toNat ≤ r.s.size; omega, h2⟩
  · exact ⟨h1, h2⟩

/-- The number of the next bytes. -/
def RdS.get (r : RdS) (n : Int) : Int := (num (r.text n).data.toList : Nat)
/-- What stands behind the addresses and the tag. -/
def Fr.rest (r : RdS) (k : Int) (f : Fr) : Fr :=
  if lengthB k then { f with data := (r.take 3).text (r.take 3).left } else { f with typ := k, data := r.text r.left }
/-- The frame that a text may be. -/
def Fr.parse (s : ByteArray) : Fr :=
  let r0 : RdS := ⟨s, 0, false⟩
  let r1 := r0.take 6
  let r2 := r1.take 6
  let r3 := r2.take 2
  let f : Fr := ⟨r0.get 6, r1.get 6, false, 0, 0, 0, ⟨#[]⟩⟩
  if r2.get 2 = 33024 then Fr.rest ((r3.take 2).take 2) ((r3.take 2).get 2) (f.tag (r3.get 2 % 4096) (r3.get 2 / 8192))
  else Fr.rest r3 (r2.get 2) f

/-- A reader that stands behind p reads q. -/
theorem get_at {T : ByteArray} {p q rest : List UInt8} (hT : T.data.toList = p ++ (q ++ rest)) {z : Int} (h0 : 1 ≤ z) (hq : q.length = z.toNat) :
    (RdS.mk T p.length false).get z = (num q : Nat) ∧ (RdS.mk T p.length false).take z = ⟨T, (p ++ q).length, false⟩ := by
  have h := text_of T p q z h0 hq (by rw [hT, List.drop_left, ← hq, List.take_left])
  refine ⟨by unfold RdS.get; rw [h.1], ?_⟩
  rw [h.2, List.length_append, hq]
theorem left_at {T s : ByteArray} {p : List UInt8} (hT : T.data.toList = p ++ s.data.toList) : (RdS.mk T p.length false).text (RdS.mk T p.length false).left = s := by
  have hs : T.size = p.length + s.size := by
    have := congrArg List.length hT
    simpa using this
  have hl : (RdS.mk T p.length false).left = s.size := by
    simp only [RdS.left]
    show T.size - p.length = s.size
    omega
  rw [hl]
  refine (end_of T p s hs ?_).1
  rw [← hT]
theorem num_in {n : Int} {k : Nat} (h0 : 0 ≤ n) (h : n < (256 ^ k : Nat)) : ((num (be n k) : Nat) : Int) = n := by
  rw [num_be]
  exact Int.emod_eq_of_lt h0 h

theorem rest_is {T : ByteArray} {p : List UInt8} (f g : Fr) (hT : T.data.toList = p ++ (f.kind ++ f.data.data.toList)) (hd : f.data.size ≤ 400) (hf : ftypeB f.typ = true) :
    Fr.rest ((RdS.mk T p.length false).take 2) ((RdS.mk T p.length false).get 2) { g with typ := 0 } = { g with typ := f.typ, data := f.data } := by
  simp only [ftypeB, decide_eq_true_eq] at hf
  by_cases h0 : f.typ = 0
  · have hk : f.kind = be (3 + f.data.size) 2 ++ [66, 66, 3] := by simp [Fr.kind, h0]
    rw [hk, List.append_assoc] at hT
    obtain ⟨e1, e2⟩ := get_at hT (z := 2) (by decide) (by simp [be_length])
    have hT2 : T.data.toList = (p ++ be (3 + f.data.size) 2) ++ ([66, 66, 3] ++ f.data.data.toList) := by rw [hT, List.append_assoc]
    obtain ⟨_, e4⟩ := get_at hT2 (z := 3) (by decide) (by simp)
    have hT3 : T.data.toList = ((p ++ be (3 + f.data.size) 2) ++ [66, 66, 3]) ++ f.data.data.toList := by rw [hT2]; simp
    have e5 := left_at hT3
    rw [e1, e2, num_in (by omega) (by show _ < (65536 : Int); omega)]
    have hl : lengthB (3 + f.data.size) = true := decide_eq_true (by omega)
    rw [Fr.rest, if_pos hl, e4, e5, h0]
  · have hk : f.kind = be f.typ 2 := by simp [Fr.kind, h0]
    rw [hk] at hT
    obtain ⟨e1, e2⟩ := get_at hT (z := 2) (by decide) (by simp [be_length])
    have hT3 : T.data.toList = (p ++ be f.typ 2) ++ f.data.data.toList := by rw [hT, List.append_assoc]
    have e5 := left_at hT3
    rw [e1, e2, num_in (by omega) (by show _ < (65536 : Int); omega)]
    have hl : ¬ lengthB f.typ = true := by simp [lengthB]; omega
    rw [Fr.rest, if_neg hl, e5]

/-- What can be is read of its own bytes. -/
theorem parse_raw {f : Fr} (h : f.good = true) : Fr.parse ⟨f.raw.toArray⟩ = f := by
  obtain ⟨dst, src, tagged, vid, prio, typ, data⟩ := f
  simp only [Fr.good, Bool.and_eq_true, decide_eq_true_eq, goodB, tagB] at h
  obtain ⟨⟨⟨⟨⟨hd, hs⟩, _⟩, ht⟩, hy⟩, hz⟩ := h
  obtain ⟨f, hf⟩ : ∃ f : Fr, f = ⟨dst, src, tagged, vid, prio, typ, data⟩ := ⟨_, rfl⟩
  obtain ⟨T, hT⟩ : ∃ T : ByteArray, T = ⟨f.raw.toArray⟩ := ⟨_, rfl⟩
  have hl : T.data.toList = f.raw := by rw [hT]
  rw [← hf, ← hT]
  have h0 : T.data.toList = [] ++ (be dst 6 ++ (be src 6 ++ (f.mark ++ (f.kind ++ data.data.toList)))) := by
    rw [hl, Fr.raw, Fr.head, hf]; simp
  obtain ⟨g1, t1⟩ := get_at h0 (z := 6) (by decide) (by simp [be_length])
  have h1 : T.data.toList = ([] ++ be dst 6) ++ (be src 6 ++ (f.mark ++ (f.kind ++ data.data.toList))) := by rw [h0]; simp
  obtain ⟨g2, t2⟩ := get_at h1 (z := 6) (by decide) (by simp [be_length])
  have h2 : T.data.toList = (([] ++ be dst 6) ++ be src 6) ++ (f.mark ++ (f.kind ++ data.data.toList)) := by rw [h1]; simp
  generalize hp : ([] ++ be dst 6) ++ be src 6 = p at *
  have e0 : (RdS.mk T 0 false) = (RdS.mk T ([] : List UInt8).length false) := rfl
  rw [num_in hd.1 (by show _ < (281474976710656 : Int); omega)] at g1
  rw [num_in hs.1 (by show _ < (281474976710656 : Int); omega)] at g2
  simp only [Fr.parse]
  rw [e0, t1, t2, g1, g2]
  cases tagged with
  | false =>
    have hm : f.mark = [] := by rw [hf]; rfl
    rw [hm, List.nil_append] at h2
    have hr := rest_is f ⟨dst, src, false, 0, 0, 0, ⟨#[]⟩⟩ (by rw [h2, hf]) (by rw [hf]; simp only; omega) (by rw [hf]; exact hy)
    have hk : (RdS.mk T p.length false).get 2 ≠ 33024 := by
      by_cases hy0 : typ = 0
      · have hk : f.kind = be (3 + data.size) 2 ++ [66, 66, 3] := by rw [hf]; simp [Fr.kind, hy0]
        rw [hk, List.append_assoc] at h2
        rw [(get_at h2 (z := 2) (by decide) (by simp [be_length])).1, num_in (by omega) (by show _ < (65536 : Int); omega)]
        omega
      · have hk : f.kind = be typ 2 := by rw [hf]; simp [Fr.kind, hy0]
        simp only [ftypeB, decide_eq_true_eq] at hy
        rw [hk] at h2
        rw [(get_at h2 (z := 2) (by decide) (by simp [be_length])).1, num_in (by omega) (by show _ < (65536 : Int); omega)]
        omega
    rw [if_neg hk]
    simp only [Bool.false_eq_true, if_false, decide_eq_true_eq] at ht
    rw [hf] at hr ⊢
    rw [hr]
    simp only [ht]
  | true =>
    simp only [if_true, decide_eq_true_eq] at ht
    have hm : f.mark = be 33024 2 ++ be (prio * 8192 + vid) 2 := by rw [hf]; rfl
    rw [hm, List.append_assoc] at h2
    obtain ⟨g3, t3⟩ := get_at h2 (z := 2) (by decide) (by simp [be_length])
    have h3 : T.data.toList = (p ++ be 33024 2) ++ (be (prio * 8192 + vid) 2 ++ (f.kind ++ data.data.toList)) := by rw [h2]; simp
    obtain ⟨g4, t4⟩ := get_at h3 (z := 2) (by decide) (by simp [be_length])
    have h4 : T.data.toList = ((p ++ be 33024 2) ++ be (prio * 8192 + vid) 2) ++ (f.kind ++ data.data.toList) := by rw [h3]; simp
    rw [num_in (by decide) (by decide)] at g3
    rw [num_in (by omega) (by show _ < (65536 : Int); omega)] at g4
    have hr := rest_is f ⟨dst, src, true, vid, prio, 0, ⟨#[]⟩⟩ (by rw [h4, hf]) (by rw [hf]; simp only; omega) (by rw [hf]; exact hy)
    rw [if_pos g3, t3, g4, t4]
    have v1 : (prio * 8192 + vid) % 4096 = vid := by omega
    have v2 : (prio * 8192 + vid) / 8192 = prio := by omega
    rw [v1, v2]
    rw [hf] at hr ⊢
    exact hr
theorem raw_inj {f g : Fr} (hf : f.good = true) (hg : g.good = true) (h : f.raw = g.raw) : f = g := by
  rw [← parse_raw hf, h, parse_raw hg]
end Go.Proofs.YthbnadohldiifaaDoor
