/- Timers as they lie in memory: rows of two cells, of the program's own. No condition but bounds on lengths. -/
import Derived.Test.YtogghcbijdljkaaOwn
namespace Go.Proofs.Ytogghcbijdljkaa
open Go.RowKit
set_option maxRecDepth 100000

structure Tm where
  due : Int
  key : Int
instance : Inhabited Tm := ⟨⟨0, 0⟩⟩
def tm0 : Tm := ⟨0, 0⟩
theorem Tm.eq {a b : Tm} (h1 : a.due = b.due) (h2 : a.key = b.key) : a = b := by
  cases a; cases b; simp_all
def Tm.cells (t : Tm) : List Value := [.int .i64 t.due, .int .i64 t.key]
def tmL : List Tm → List Value
  | [] => []
  | a :: l => a.cells ++ tmL l
theorem tmL_append (l m : List Tm) : tmL (l ++ m) = tmL l ++ tmL m := by
  induction l with
  | nil => rfl
  | cons a l ih => simp [tmL, ih]
theorem tmL_length (l : List Tm) : (tmL l).length = l.length * 2 := by
  induction l with
  | nil => rfl
  | cons a l ih => simp [tmL, ih, Tm.cells]; omega
theorem tmL_at (l : List Tm) (k : Nat) (h : k < l.length) (j : Nat) (hj : j < 2) : (tmL l)[k * 2 + j]? = (l.getD k tm0).cells[j]? := by
  induction l generalizing k with
  | nil => simp at h
  | cons a l ih =>
    cases k with
    | zero =>
      simp only [tmL]
      rw [List.getElem?_append_left (by simp [Tm.cells]; omega)]
      simp
    | succ k =>
      simp only [tmL]
      rw [List.getElem?_append_right (by simp [Tm.cells]; omega)]
      have e : (k + 1) * 2 + j - a.cells.length = k * 2 + j := by simp [Tm.cells]; omega
      rw [e, ih k (by simpa using h)]
      simp
theorem tmL_one (l : List Tm) : ∀ u ∈ tmL l, u.oneCell' = true := by
  induction l with
  | nil => simp [tmL]
  | cons a l ih =>
    intro u hu
    simp only [tmL, List.mem_append, Tm.cells] at hu
    rcases hu with hu | hu
    · simp only [List.mem_cons, List.not_mem_nil, or_false] at hu
      rcases hu with rfl | rfl <;> rfl
    · exact ih u hu
theorem tmL_drop (l : List Tm) (i : Nat) : tmL (l.drop i) = (tmL l).drop (i * 2) := by
  induction l generalizing i with
  | nil => simp [tmL]
  | cons a l ih =>
    cases i with
    | zero => simp
    | succ i =>
      rw [List.drop_succ_cons, ih, tmL, show (i + 1) * 2 = a.cells.length + i * 2 by simp [Tm.cells]; omega, List.drop_append]
      simp [Nat.add_sub_cancel_left]
theorem tmL_take (l : List Tm) (i : Nat) : tmL (l.take i) = (tmL l).take (i * 2) := by
  induction l generalizing i with
  | nil => simp [tmL]
  | cons a l ih =>
    cases i with
    | zero => simp [tmL]
    | succ i =>
      rw [List.take_succ_cons, tmL, ih, tmL, show (i + 1) * 2 = a.cells.length + i * 2 by simp [Tm.cells]; omega, List.take_append]
      simp [Nat.add_sub_cancel_left]
      exact (List.take_of_length_le (by omega)).symm

/-- Timers in a row of the program's own. -/
def OwnT (w : World) (base : Nat) (A : Option Addr) (c : Nat) (l : List Tm) : Prop := w.ownsRow base 46 2 (.slice A l.length c) l.length (tmL l)
/-- The timers l lie at A, in a block below B. -/
def TmAt (w : World) (B : Nat) (A : Option Addr) (l : List Tm) : Prop :=
  ∀ k, k < l.length → ∃ b off, A = some ⟨b, off, none⟩ ∧ b < B ∧ w.cell? ⟨b, off + k * 2, none⟩ = some (.int .i64 (l.getD k tm0).due) ∧ w.cell? ⟨b, off + k * 2 + 1, none⟩ = some (.int .i64 (l.getD k tm0).key)
theorem OwnT.at_ {w : World} {base c : Nat} {A : Option Addr} {l : List Tm} (h : OwnT w base A c l) : TmAt w w.heap.size A l := fun k hk => by
  obtain ⟨b, rfl, hl, hc⟩ := own_at h (by omega)
  refine ⟨b, 0, rfl, hl, ?_, ?_⟩ <;> rw [Nat.zero_add]
  · exact hc _ _ (by rw [show k * 2 = k * 2 + 0 from rfl, tmL_at l k hk 0 (by omega)]; rfl)
  · exact hc _ _ (by rw [tmL_at l k hk 1 (by omega)]; rfl)
theorem TmAt.below {w w' : World} {B : Nat} {A : Option Addr} {l : List Tm} (h : TmAt w B A l) (hb : Below B w w') : TmAt w' B A l := fun k hk => by
  obtain ⟨b, off, e, hl, h0, h1⟩ := h k hk
  exact ⟨b, off, e, hl, (hb.cell (p := ⟨b, off + k * 2, none⟩) hl).trans h0, (hb.cell (p := ⟨b, off + k * 2 + 1, none⟩) hl).trans h1⟩
theorem TmAt.more {w : World} {B B' : Nat} {A : Option Addr} {l : List Tm} (h : TmAt w B A l) (hB : B ≤ B') : TmAt w B' A l := fun k hk => by
  obtain ⟨b, off, e, hl, h0⟩ := h k hk
  exact ⟨b, off, e, by omega, h0⟩
theorem OwnT.alloc {w : World} {B c : Nat} {a : Option Addr} {r : List Tm} (h : OwnT w B a c r) (o : Obj) : OwnT (w.alloc o) B a c r := World.ownsRow.alloc h o
theorem OwnT.drewN {w : World} {B c : Nat} {a : Option Addr} {r : List Tm} (h : OwnT w B a c r) (n : Nat) : OwnT (w.drewN n) B a c r := h
theorem tm_info : (Try.prog.info? 46).map (fun i => (i.zero, i.size, i.bytes)) = some (some (.agg #[.int .i64 0, .int .i64 0]), 2, 16) := by kernel_rfl
theorem append_tms (w : World) (base : Nat) (A0 : Option Addr) (c0 : Nat) (l : List Tm) (hown : OwnT w base A0 c0 l) (A : Option Addr) (c B : Nat) (m : List Tm) (hnone : A = none → c = 0) (hsrc : TmAt w B A m) (hn : l.length + m.length ≤ 1048576) (hbase : base ≤ w.heap.size) :
    ∃ a' c' w', (Builtin.append_ #[38, 38] 38 #[.slice A0 l.length c0, .slice A m.length c]).run Try.prog w = .ok (.slice a' (l ++ m).length c') w' ∧ OwnT w' base a' c' (l ++ m) ∧ w.grownBy w' (Value.slice A0 l.length c0).ownBlock ∧ Moved w (.slice A0 l.length c0) (.slice a' (l ++ m).length c') ∧ (∀ k, (Value.slice A0 l.length c0).ownBlock = some k → (Value.slice a' (l ++ m).length c').ownBlock ≠ some k → w'.heap[k]? = w.heap[k]?) := by
  obtain ⟨i0, hi0, hz0, hz1, hz2⟩ := info_parts tm_info
  have := append_src w base 38 38 46 i0 _ 2 16 Try.underlying38 hi0 hz0 hz1 hz2 rfl (by decide) _ l.length (tmL l) hown A m.length c (tmL m) (by rw [tmL_length]) hnone
    (fun h0 => by
      obtain ⟨b, off, rfl, _, _⟩ := hsrc 0 h0
      refine ⟨b, off, rfl, fun j u hu => ?_⟩
      have hj : j < m.length * 2 := by have := (List.getElem?_eq_some_iff.1 hu).1; rwa [tmL_length] at this
      obtain ⟨b', off', e, _, q0, q1⟩ := hsrc (j / 2) (by omega)
      injection e with e
      injection e with e1 e2
      subst e1 e2
      have hjj : j / 2 * 2 + j % 2 = j := by omega
      have hu' := tmL_at m (j / 2) (by omega) (j % 2) (by omega)
      rw [hjj, hu] at hu'
      rcases (show j % 2 = 0 ∨ j % 2 = 1 from by omega) with h | h <;> rw [h] at hu' hjj
      · rw [show off + j = off + j / 2 * 2 from by omega, q0]; exact hu'.symm
      · rw [show off + j = off + j / 2 * 2 + 1 from by omega, q1]; exact hu'.symm)
    (tmL_one m) (by unfold maxLen; omega) (by omega) hbase
  unfold OwnT
  rw [tmL_append, List.length_append]
  exact this
end Go.Proofs.Ytogghcbijdljkaa
