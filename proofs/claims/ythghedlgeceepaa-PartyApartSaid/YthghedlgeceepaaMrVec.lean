/- mrpdu.readVector: what one vector says. Its condition: the type is one, the number is one of two bytes. -/
import Derived.Test.YthghedlgeceepaaMrAsk
import Derived.Laws.MakeOwn
import Derived.Laws.ResultCell
namespace Go.Proofs.Ythghedlgeceepaa
open Go.RowKit
set_option maxRecDepth 100000

theorem pdu_info : (Try.prog.info? 32).map (·.size) = some 2 := by kernel_rfl
theorem word_info : (Try.prog.info? 52).map (fun i => (i.zero, i.size, i.bytes)) = some (some (.agg #[.int .i64 0, .int .i64 0, .int .i64 0, .int .i64 0]), 4, 32) := by kernel_rfl
theorem presults_pair {fn : Func} {p u : Tmp} (h : fn.results = #[.cell p 32, .tmp u]) (tmps : Array Value) (w : World) (g : Nat) (t : TypeId) (cs : Array Value)
    (hp : tmps.getD p undef = .pointer (some ⟨g, 0, none⟩)) (hg : Blk w g t cs) (hc : cs.size = 2) :
    (results fn tmps).run Try.prog w = .ok (.tuple #[.agg cs, tmps.getD u undef]) w := by
  have hl := run_loadVar_row w g t 32 cs (0, 0) _ hg Try.underlying32 rfl (by rw [pdu_info, hc])
  rw [results_cell_tmp h, hp]
  show ((loadVar 32 ⟨g, 0, none⟩).run Try.prog w).andThen _ = _
  rw [hl]
  rfl

/-- The block of the words being laid: the first k are those of f. -/
def WRow (w : World) (g n : Nat) (f : Nat → Wd) (k : Nat) : Prop :=
  ∃ cs, Blk w g 52 cs ∧ cs.size = n * 4 ∧ ∀ i, i < k → cs[i * 4]? = some (.int .i64 (f i).t) ∧ cs[i * 4 + 1]? = some (.int .i64 (f i).v) ∧ cs[i * 4 + 2]? = some (.int .i64 (f i).e) ∧ cs[i * 4 + 3]? = some (.int .i64 (f i).b)
theorem WRow.free {w : World} {g n k : Nat} {f : Nat → Wd} (h : WRow w g n f k) (j : Nat) (hj : j < n * 4) : (∃ u, w.cell? ⟨g, j, none⟩ = some u) ∧ w.frozen? ⟨g, j, none⟩ = false := by
  obtain ⟨cs, hb, hs, _⟩ := h
  exact ⟨⟨cs[j], by rw [hb.cell j, Array.getElem?_eq_getElem (by omega)]⟩, hb.frozen j⟩
theorem WRow.step {w : World} {g n k : Nat} {f : Nat → Wd} (h : WRow w g n f k) (hk : k < n) {a b c d : Int} (ha : (f k) = ⟨a, b, c, d⟩) :
    WRow ((((w.setCell ⟨g, k * 4, none⟩ (.int .i64 a)).setCell ⟨g, k * 4 + 1, none⟩ (.int .i64 b)).setCell ⟨g, k * 4 + 2, none⟩ (.int .i64 c)).setCell ⟨g, k * 4 + 3, none⟩ (.int .i64 d)) g n f (k + 1) := by
  obtain ⟨cs, hb, hs, hi⟩ := h
  refine ⟨_, Blk.set_ (Blk.set_ (Blk.set_ (Blk.set_ hb (k * 4) _) (k * 4 + 1) _) (k * 4 + 2) _) (k * 4 + 3) _, by simp [hs], fun i hik => ?_⟩
  simp only [Array.getElem?_setIfInBounds, Array.size_setIfInBounds]
  by_cases e : i = k
  · subst e
    rw [ha]
    refine ⟨?_, ?_, ?_, ?_⟩
    · rw [if_neg (by omega), if_neg (by omega), if_neg (by omega), if_pos rfl, if_pos (by omega)]
    · rw [if_neg (by omega), if_neg (by omega), if_pos rfl, if_pos (by omega)]
    · rw [if_neg (by omega), if_pos rfl, if_pos (by omega)]
    · rw [if_pos rfl, if_pos (by omega)]
  · obtain ⟨h0, h1, h2, h3⟩ := hi i (by omega)
    refine ⟨?_, ?_, ?_, ?_⟩
    · rw [if_neg (by omega), if_neg (by omega), if_neg (by omega), if_neg (by omega), h0]
    · rw [if_neg (by omega), if_neg (by omega), if_neg (by omega), if_neg (by omega), h1]
    · rw [if_neg (by omega), if_neg (by omega), if_neg (by omega), if_neg (by omega), h2]
    · rw [if_neg (by omega), if_neg (by omega), if_neg (by omega), if_neg (by omega), h3]
theorem WRow.at_ {w : World} {g n : Nat} {f : Nat → Wd} (h : WRow w g n f n) : WordsAt w w.heap.size (some ⟨g, 0, none⟩) ((List.range n).map f) := by
  obtain ⟨cs, hb, hs, hi⟩ := h
  intro k hk
  have hk' : k < n := by simpa using hk
  have e : ((List.range n).map f).getD k wd0 = f k := by
    rw [List.getD_eq_getElem?_getD, List.getElem?_eq_getElem (by simpa using hk')]
    simp
  obtain ⟨h0, h1, h2, h3⟩ := hi k hk'
  rw [e]
  refine ⟨g, 0, rfl, hb.lt, ?_, ?_, ?_, ?_⟩
  · rw [show (0 : Nat) + k * 4 = k * 4 from by omega, hb.cell, h0]
  · rw [show (0 : Nat) + k * 4 + 1 = k * 4 + 1 from by omega, hb.cell, h1]
  · rw [show (0 : Nat) + k * 4 + 2 = k * 4 + 2 from by omega, hb.cell, h2]
  · rw [show (0 : Nat) + k * 4 + 3 = k * 4 + 3 from by omega, hb.cell, h3]
theorem WRow.keep {w w' : World} {g n k : Nat} {f : Nat → Wd} (h : WRow w g n f k) (hb : w'.heap[g]? = w.heap[g]?) : WRow w' g n f k := by
  obtain ⟨cs, hc, h2⟩ := h
  exact ⟨cs, hb.trans hc, h2⟩

theorem one_at {w : World} {g : Nat} {k : Int} (h : Blk w g 3 #[.int .i64 k]) : IntsAt w w.heap.size (some ⟨g, 0, none⟩) [k] := by
  intro q hq
  obtain rfl : q = 0 := by simpa using hq
  exact ⟨g, 0, rfl, h.lt, h.cell 0⟩

/-- How a vector's reading ends. -/
def VecEnd (lo : Nat) (u : Msg) (ok : Prop) (e : Ending) (w' : World) : Prop :=
  (ok ∧ ∃ A A' c c', e = .returned (.tuple #[.agg #[.slice A u.all.length c, .slice A' u.ws.length c'], .bool true]) ∧ IntsAt w' w'.heap.size A u.all ∧ WordsAt w' w'.heap.size A' u.ws ∧ (A = none → c = 0) ∧ (A' = none → c' = 0) ∧ ∀ x, A' = some x → lo ≤ x.block) ∨
  (¬ ok ∧ e = .returned (.tuple #[.agg #[.slice none 0 0, .slice none 0 0], .bool false]))


/-- The world's blocks but the reader's stay. -/
theorem Touch.to {g : Nat} {w w1 w2 : World} (h : Touch (· = g) w w1) (h' : Touch (· = g) w1 w2) : Touch (· = g) w w2 := h.trans h'

end Go.Proofs.Ythghedlgeceepaa
