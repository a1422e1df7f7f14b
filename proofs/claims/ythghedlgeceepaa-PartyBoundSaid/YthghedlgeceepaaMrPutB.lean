/- mrpdu.Bytes. Its conditions: at most 1000 words and 1000 types, which lie below what is made anew. -/
import Derived.Test.YthghedlgeceepaaMrPutP
import Derived.Test.YthghedlgeceepaaMrFind
import Derived.Test.YthghedlgeceepaaMrWhole
import Derived.Test.YthghedlgeceepaaMrGood
namespace Go.Proofs.Ythghedlgeceepaa
open Go.RowKit
set_option maxRecDepth 100000

/-- The words whose type is still to come. -/
def leftW (m : Msg) : Nat → List Wd
  | 0 => m.ws
  | 1 => ofK 2 m.ws ++ ofK 3 m.ws
  | 2 => ofK 3 m.ws
  | _ => []
def tailB (m : Msg) : Nat → List UInt8
  | 0 => partBytes 1 (decide ((1 : Int) ∈ m.all)) (ofK 1 m.ws) ++ (partBytes 2 (decide ((2 : Int) ∈ m.all)) (ofK 2 m.ws) ++ (partBytes 3 (decide ((3 : Int) ∈ m.all)) (ofK 3 m.ws) ++ [0, 0]))
  | 1 => partBytes 2 (decide ((2 : Int) ∈ m.all)) (ofK 2 m.ws) ++ (partBytes 3 (decide ((3 : Int) ∈ m.all)) (ofK 3 m.ws) ++ [0, 0])
  | 2 => partBytes 3 (decide ((3 : Int) ∈ m.all)) (ofK 3 m.ws) ++ [0, 0]
  | _ => [0, 0]
theorem ws_parts {m : Msg} (h : m.Good) : m.ws = ofK 1 m.ws ++ (ofK 2 m.ws ++ ofK 3 m.ws) := by
  have := congrArg Msg.ws (Msg.parts h)
  simp only [Msg.app, Msg.none, List.nil_append, List.append_assoc] at this
  exact this.symm
theorem left_step {m : Msg} (h : m.Good) (j : Nat) (hj : j < 3) :
    leftW m j = ofK ((j : Int) + 1) m.ws ++ leftW m (j + 1) ∧ kindLen ((j : Int) + 1) (leftW m j) = (ofK ((j : Int) + 1) m.ws).length ∧
      tailB m j = partBytes ((j : Int) + 1) (decide (((j : Int) + 1) ∈ m.all)) (ofK ((j : Int) + 1) m.ws) ++ tailB m (j + 1) ∧ vs ((j : Int) + 1) ≠ 0 := by
  have k1 : ∀ b ∈ ofK 2 m.ws ++ ofK 3 m.ws, b.t ≠ 1 := fun b hb => by
    rcases List.mem_append.1 hb with hb | hb
    · have := (ofK_good h 2 b hb).2; omega
    · have := (ofK_good h 3 b hb).2; omega
  have k2 : ∀ b ∈ ofK 3 m.ws, b.t ≠ 2 := fun b hb => by have := (ofK_good h 3 b hb).2; omega
  have k3 : ∀ b ∈ ([] : List Wd), b.t ≠ 3 := fun b hb => by cases hb
  have g1 := fun a ha => (ofK_good h 1 a ha).2
  have g2 := fun a ha => (ofK_good h 2 a ha).2
  have g3 := fun a ha => (ofK_good h 3 a ha).2
  have hw := ws_parts h
  have hc : j = 0 ∨ j = 1 ∨ j = 2 := by omega
  rcases hc with rfl | rfl | rfl
  · refine ⟨hw, ?_, rfl, by decide⟩
    show kindLen 1 m.ws = (ofK 1 m.ws).length
    conv => lhs; rw [hw]
    exact kindLen_app g1 k1
  · refine ⟨rfl, ?_, rfl, by decide⟩
    exact kindLen_app g2 k2
  · refine ⟨(List.append_nil _).symm, ?_, rfl, by decide⟩
    show kindLen 3 (ofK 3 m.ws) = (ofK 3 m.ws).length
    have := kindLen_app g3 k3
    rw [List.append_nil] at this
    exact this
theorem partBytes_length (k : Int) (all : Bool) (l : List Wd) : (partBytes k all l).length ≤ 200 + 100 * l.length := by
  unfold partBytes
  split
  · simp
  · have := vecs_length k l.length all l (Nat.le_refl _)
    simp only [List.length_append, be_length, List.length_cons, List.length_nil]
    omega
theorem ofK_length (k : Int) (l : List Wd) : (ofK k l).length ≤ l.length := List.length_filter_le _ _
theorem mbytes_length (m : Msg) : m.bytes.length ≤ 1000 + 300 * m.ws.length := by
  have h1 := partBytes_length 1 (decide ((1 : Int) ∈ m.all)) (ofK 1 m.ws)
  have h2 := partBytes_length 2 (decide ((2 : Int) ∈ m.all)) (ofK 2 m.ws)
  have h3 := partBytes_length 3 (decide ((3 : Int) ∈ m.all)) (ofK 3 m.ws)
  have e1 := ofK_length 1 m.ws
  have e2 := ofK_length 2 m.ws
  have e3 := ofK_length 3 m.ws
  unfold Msg.bytes
  simp only [List.length_append, List.length_cons, List.length_nil]
  omega

/-- Where the writing of a message stands, ahead of type j + 1. -/
structure BLoop (m : Msg) (A A' : Option Addr) (c c' : Nat) (w wr : World) (g gi : Nat) (j : Nat) (A1 : Option Addr) (c1 : Nat) (v : Value) (X : List UInt8) : Prop where
  box : Blk wr w.heap.size 32 #[.slice A m.all.length c, .slice A' m.ws.length c']
  ints : Blk wr gi 3 #[.int .i64 1, .int .i64 2, .int .i64 3]
  ia : IntsAt wr w.heap.size A m.all
  at_ : WordsAt wr g A1 (leftW m j)
  cap : (leftW m j).length ≤ c1
  isw : IsW wr g v X
  own : OwnFrom g v
  far : v.ownBlock ≠ some gi
  lt : w.heap.size < g ∧ g < gi
  bel : Below w.heap.size w wr
  rest : X ++ tailB m j = m.bytes
theorem BLoop.drew {m : Msg} {A A' : Option Addr} {c c' : Nat} {w wr : World} {g gi j : Nat} {A1 : Option Addr} {c1 : Nat} {v : Value} {X : List UInt8} (h : BLoop m A A' c c' w wr g gi j A1 c1 v X) : BLoop m A A' c c' w wr.drew g gi j A1 c1 v X :=
  ⟨h.box, h.ints, h.ia, h.at_, h.cap, ⟨h.isw.blk, h.isw.own⟩, h.own, h.far, h.lt, ⟨h.bel.os, h.bel.tape, h.bel.output, h.bel.size, h.bel.block⟩, h.rest⟩
theorem left_length {m : Msg} (h : m.Good) (j : Nat) : (leftW m j).length ≤ m.ws.length := by
  have hw := congrArg List.length (ws_parts h)
  simp only [List.length_append] at hw
  match j with
  | 0 => exact Nat.le_refl _
  | 1 => simp only [leftW, List.length_append]; omega
  | 2 => simp only [leftW]; omega
  | j + 3 => simp [leftW]
theorem BLoop.part {m : Msg} {A A' : Option Addr} {c c' : Nat} {w wr : World} {g gi j n : Nat} {A1 : Option Addr} {c1 : Nat} {v : Value} {X : List UInt8} (h : BLoop m A A' c c' w wr g gi j A1 c1 v X) (hg : m.Good) (hw : m.ws.length ≤ 400000) (hj : j < 3) (hn : kindLen ((j : Int) + 1) (leftW m j) = n) :
    Calls Try.prog 40 #[.pointer (some ⟨g, 0, none⟩), .int .i64 ((j : Int) + 1), .bool (decide (((j : Int) + 1) ∈ m.all)), .slice A1 n c1] wr fun e w' => e = .returned (.tuple #[]) ∧
      ∃ v', BLoop m A A' c c' w w' g gi (j + 1) (if c1 = n then A1 else A1.map (fun x => x.add (n * 4))) (c1 - n) v' (X ++ partBytes ((j : Int) + 1) (decide (((j : Int) + 1) ∈ m.all)) (ofK ((j : Int) + 1) m.ws)) := by
  obtain ⟨s1, s2, s3, s4⟩ := left_step hg j hj
  have hlen : (ofK ((j : Int) + 1) m.ws).length = n := by rw [← s2, hn]
  have htake : (leftW m j).take n = ofK ((j : Int) + 1) m.ws := by rw [s1, ← hlen, List.take_left]
  have hdrop : (leftW m j).drop n = leftW m (j + 1) := by rw [s1, ← hlen, List.drop_left]
  have hall : (leftW m j).length = n + (leftW m (j + 1)).length := by rw [s1, List.length_append, hlen]
  have hX : X.length ≤ m.bytes.length := by rw [← h.rest, List.length_append]; omega
  have hml := mbytes_length m
  have hcap := h.cap
  have hll := left_length hg j
  have hp := putPart_any g v X A1 c1 ((j : Int) + 1) (decide (((j : Int) + 1) ∈ m.all)) (ofK ((j : Int) + 1) m.ws) wr h.isw h.own (by omega) (by rw [← htake]; exact h.at_.take n) (by omega) (by omega) s4 (ofK_good hg _)
  rw [hlen] at hp
  refine hp.mono ?_
  rintro e w' ⟨rfl, v', h1, h2, h3, h4, h5⟩
  have hgi := h.ints.lt
  have hlt := h.lt
  refine ⟨rfl, v', h.box.below h3 (by omega), h.ints.touch h4 ?_, h.ia.below (h3.mono (by omega)), ?_, by omega, h1, h2, ?_, h.lt, h.bel.trans (h3.mono (by omega)), by rw [List.append_assoc, ← s3, h.rest]⟩
  · rintro (e | e)
    · omega
    · exact h.far e
  · split
    · rename_i hc
      rw [show leftW m (j + 1) = [] from List.eq_nil_of_length_eq_zero (by omega)]
      exact WordsAt.nil _ _ _
    · rw [← hdrop]
      exact (h.at_.drop n).below h3
  · rcases h5 with h5 | ⟨q, hq, h5⟩
    · rw [h5]; exact h.far
    · rw [h5]; intro e; injection e with e; omega
end Go.Proofs.Ythghedlgeceepaa
