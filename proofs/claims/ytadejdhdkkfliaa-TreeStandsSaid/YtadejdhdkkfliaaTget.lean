/- What a bridge's part answers when it is asked: Role, State, Best, Root, Id, Ports, has; of a nil one too. Its condition: ticks far from an int's ends. -/
import Derived.Test.YtadejdhdkkfliaaTmem
namespace Go.Proofs.Ytadejdhdkkfliaa
open Go.RowKit
set_option maxRecDepth 100000

section
variable {w : World} {g gp m : Nat} {f : Nat → Pt} {fw : Nat → Bool} {id rt ch : Int} {bv : Vec}
theorem has_any (h : TreeAt w g gp id m f fw bv rt ch) (i : Int) :
    Calls Try.prog 38 #[.pointer (some ⟨g, 0, none⟩), .int .i64 i] w fun e w' => e = .returned (.bool (decide (0 ≤ i ∧ i < m))) ∧ w = w' := by
  have t1 := h.t1
  clear h
  by_cases h0 : 0 ≤ i
  · rw [show decide (0 ≤ i ∧ i < m) = decide (i < m) from decide_eq_decide.2 ⟨fun h => h.2, fun h => ⟨h0, h⟩⟩]
    go_enter Try.func38, Try.ntmps38
    go_wp2_with fail
    go_ret
    exact ⟨rfl, rfl⟩
  · rw [show decide (0 ≤ i ∧ i < m) = false from decide_eq_false fun h => h0 h.1]
    have d0 : decide (0 ≤ i) = false := decide_eq_false h0
    clear h0
    go_enter Try.func38, Try.ntmps38
    go_wp2_with fail
    go_ret
    exact ⟨rfl, rfl⟩
theorem has_nil (i : Int) (w : World) : Calls Try.prog 38 #[.pointer none, .int .i64 i] w fun e w' => e = .returned (.bool false) ∧ w = w' := by
  go_enter Try.func38, Try.ntmps38
  go_wp2_with fail
  go_ret
  exact ⟨rfl, rfl⟩
theorem role_out (h : TreeAt w g gp id m f fw bv rt ch) (i : Int) (hi : ¬ (0 ≤ i ∧ i < m)) :
    Calls Try.prog 15 #[.pointer (some ⟨g, 0, none⟩), .int .i64 i] w fun e w' => e = .returned (.int .i64 0) ∧ w = w' := by
  have HH := has_any h i
  rw [decide_eq_false hi] at HH
  have HH := Lib.hid HH
  clear h hi
  go_enter Try.func15, Try.ntmps15
  go_wp2_with (go_at_call 38; refine HH.out.mono ?_; rintro e w' ⟨rfl, rfl⟩)
  go_ret
  exact ⟨rfl, rfl⟩
theorem role_in (h : TreeAt w g gp id m f fw bv rt ch) (i : Nat) (hi : i < m) :
    Calls Try.prog 15 #[.pointer (some ⟨g, 0, none⟩), .int .i64 i] w fun e w' => e = .returned (.int .i64 (f i).role) ∧ w = w' := by
  have HH := has_any h i
  rw [decide_eq_true (show (0 : Int) ≤ i ∧ (i : Int) < m by omega)] at HH
  have HH := Lib.hid HH
  have t1 := h.t1
  have c0 := (h.ports.cells hi).c0
  have HR := Lib.hid (fun w => prole_any gp (i * 12) (f i).role w)
  have j1 : (i : Int) < m := by omega
  have j0 : (0 : Int) ≤ i := by omega
  clear h hi
  go_enter Try.func15, Try.ntmps15
  go_wp2_with (first | (go_at_call 38; refine HH.out.mono ?_; rintro e w' ⟨rfl, rfl⟩) | (go_at_call 44; refine (HR.out _ c0).mono ?_; rintro e w' ⟨rfl, rfl⟩))
  go_ret
  exact ⟨rfl, rfl⟩
theorem tstate_out (h : TreeAt w g gp id m f fw bv rt ch) (i now : Int) (hi : ¬ (0 ≤ i ∧ i < m)) :
    Calls Try.prog 16 #[.pointer (some ⟨g, 0, none⟩), .int .i64 i, .int .i64 now] w fun e w' => e = .returned (.int .i64 0) ∧ w = w' := by
  have HH := has_any h i
  rw [decide_eq_false hi] at HH
  have HH := Lib.hid HH
  clear h hi
  go_enter Try.func16, Try.ntmps16
  go_wp2_with (go_at_call 38; refine HH.out.mono ?_; rintro e w' ⟨rfl, rfl⟩)
  go_ret
  exact ⟨rfl, rfl⟩
theorem stateP_I (p : Pt) (now : Int) : stateP p now = stateI p.role p.since now := rfl
theorem tstate_in (h : TreeAt w g gp id m f fw bv rt ch) (i : Nat) (now : Int) (hi : i < m) (hw : wrap64 (now - (f i).since) = now - (f i).since) :
    Calls Try.prog 16 #[.pointer (some ⟨g, 0, none⟩), .int .i64 i, .int .i64 now] w fun e w' => e = .returned (.int .i64 (stateP (f i) now)) ∧ w = w' := by
  rw [stateP_I]
  have HH := has_any h i
  rw [decide_eq_true (show (0 : Int) ≤ i ∧ (i : Int) < m by omega)] at HH
  have HH := Lib.hid HH
  have t1 := h.t1
  have c0 := (h.ports.cells hi).c0
  have c1 := (h.ports.cells hi).c1
  have HR := Lib.hid (fun w => state_any gp (i * 12) (f i).role (f i).since now hw w)
  obtain ⟨st, hst⟩ : ∃ st, stateI (f i).role (f i).since now = st := ⟨_, rfl⟩
  rw [hst] at HR ⊢
  have j1 : (i : Int) < m := by omega
  have j0 : (0 : Int) ≤ i := by omega
  clear h hi hw hst
  go_enter Try.func16, Try.ntmps16
  go_wp2_with (first | (go_at_call 38; refine HH.out.mono ?_; rintro e w' ⟨rfl, rfl⟩) | (go_at_call 45; refine (HR.out _ c0 c1).mono ?_; rintro e w' ⟨rfl, rfl⟩))
  go_ret
  exact ⟨rfl, rfl⟩
theorem root_any (h : TreeAt w g gp id m f fw bv rt ch) : Calls Try.prog 19 #[.pointer (some ⟨g, 0, none⟩)] w fun e w' => e = .returned (.int .i64 rt) ∧ w = w' := by
  have t6 := h.t6
  clear h
  go_enter Try.func19, Try.ntmps19
  go_wp2_with fail
  go_ret
  exact ⟨rfl, rfl⟩
theorem tid_any (h : TreeAt w g gp id m f fw bv rt ch) : Calls Try.prog 17 #[.pointer (some ⟨g, 0, none⟩)] w fun e w' => e = .returned (.int .i64 id) ∧ w = w' := by
  have t0 := h.t0
  clear h
  go_enter Try.func17, Try.ntmps17
  go_wp2_with fail
  go_ret
  exact ⟨rfl, rfl⟩
theorem ports_any (h : TreeAt w g gp id m f fw bv rt ch) : Calls Try.prog 18 #[.pointer (some ⟨g, 0, none⟩)] w fun e w' => e = .returned (.int .i64 m) ∧ w = w' := by
  have t1 := h.t1
  clear h
  go_enter Try.func18, Try.ntmps18
  go_wp2_with fail
  go_ret
  exact ⟨rfl, rfl⟩
theorem tbest_any (h : TreeAt w g gp id m f fw bv rt ch) : Calls Try.prog 20 #[.pointer (some ⟨g, 0, none⟩)] w fun e w' => e = .returned bv.v ∧ Below w.heap.size w w' := by
  have h' := h.alloc (.cells #[.int .i64 0, .int .i64 0, .int .i64 0, .int .i64 0] 32)
  have t2 := h'.t2
  have t3 := h'.t3
  have t4 := h'.t4
  have t5 := h'.t5
  clear h'
  clear h
  obtain ⟨r, c, b, p⟩ := bv
  simp only [Vec.v, Vec.arr]
  go_enter Try.func20, Try.ntmps20
  go_wp2_with fail
  exact bodyPost_ret (results_cell_row rfl _ _ w.heap.size 32 _ (0, 0) _ rfl (Blk.new w 32 #[.int .i64 r, .int .i64 c, .int .i64 b, .int .i64 p]) Try.underlying32 rfl vec_size) rfl ⟨rfl, bel_alloc _ _⟩
end
theorem role_nil (i : Int) (w : World) : Calls Try.prog 15 #[.pointer none, .int .i64 i] w fun e w' => e = .returned (.int .i64 0) ∧ w = w' := by
  have HH := Lib.hid (has_nil i w)
  go_enter Try.func15, Try.ntmps15
  go_wp2_with (go_at_call 38; refine HH.out.mono ?_; rintro e w' ⟨rfl, rfl⟩)
  go_ret
  exact ⟨rfl, rfl⟩
theorem tstate_nil (i now : Int) (w : World) : Calls Try.prog 16 #[.pointer none, .int .i64 i, .int .i64 now] w fun e w' => e = .returned (.int .i64 0) ∧ w = w' := by
  have HH := Lib.hid (has_nil i w)
  go_enter Try.func16, Try.ntmps16
  go_wp2_with (go_at_call 38; refine HH.out.mono ?_; rintro e w' ⟨rfl, rfl⟩)
  go_ret
  exact ⟨rfl, rfl⟩
theorem root_nil (w : World) : Calls Try.prog 19 #[.pointer none] w fun e w' => e = .returned (.int .i64 (-1)) ∧ w = w' := by
  go_enter Try.func19, Try.ntmps19
  go_wp2_with fail
  go_ret
  exact ⟨rfl, rfl⟩
theorem tid_nil (w : World) : Calls Try.prog 17 #[.pointer none] w fun e w' => e = .returned (.int .i64 0) ∧ w = w' := by
  go_enter Try.func17, Try.ntmps17
  go_wp2_with fail
  go_ret
  exact ⟨rfl, rfl⟩
theorem ports_nil (w : World) : Calls Try.prog 18 #[.pointer none] w fun e w' => e = .returned (.int .i64 0) ∧ w = w' := by
  go_enter Try.func18, Try.ntmps18
  go_wp2_with fail
  go_ret
  exact ⟨rfl, rfl⟩
theorem tbest_nil (w : World) : Calls Try.prog 20 #[.pointer none] w fun e w' => e = .returned (Vec.v ⟨0, 0, 0, 0⟩) ∧ Below w.heap.size w w' := by
  simp only [Vec.v, Vec.arr]
  go_enter Try.func20, Try.ntmps20
  go_wp2_with fail
  exact bodyPost_ret (results_cell_row rfl _ _ w.heap.size 32 _ (0, 0) _ rfl (Blk.new w 32 #[.int .i64 0, .int .i64 0, .int .i64 0, .int .i64 0]) Try.underlying32 rfl vec_size) rfl ⟨rfl, bel_alloc _ _⟩
end Go.Proofs.Ytadejdhdkkfliaa



