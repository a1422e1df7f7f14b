/- What is sent, in a row of one's own that grows: eight cells each. No condition but bounds on lengths. -/
import Derived.Test.YtnhnllkcnpbgoaaRlMem
namespace Go.Proofs.Ytnhnllkcnpbgoaa
open Go.Joins Go.ChangeShapes Go.WideShapes Go.ChangeAt Go.RowKit Go.Deep
set_option maxRecDepth 100000

def Se.cells (x : Se) : List Value := [.int .i64 x.p, .int .i64 x.f.dst, .int .i64 x.f.src, .bool x.f.tagged, .int .i64 x.f.vid, .int .i64 x.f.prio, .int .i64 x.f.typ, .string x.f.data]
theorem se8_len (x : Se) : x.cells.length = 8 := rfl
def cellsSe : List Se → List Value
  | [] => []
  | x :: l => x.cells ++ cellsSe l
theorem cellsSe_app (l l' : List Se) : cellsSe (l ++ l') = cellsSe l ++ cellsSe l' := by
  induction l with
  | nil => rfl
  | cons x l ih =>
    show x.cells ++ cellsSe (l ++ l') = (x.cells ++ cellsSe l) ++ cellsSe l'
    rw [ih, List.append_assoc]
theorem cellsSe_at (l : List Se) (i : Nat) (hi : i < l.length) (k : Nat) (hk : k < 8) : (cellsSe l)[i * 8 + k]? = (l.getD i se0).cells[k]? := by
  induction l generalizing i with
  | nil => simp at hi
  | cons x l ih =>
    unfold cellsSe
    cases i with
    | zero => rw [Nat.zero_mul, Nat.zero_add, List.getElem?_append_left (by rw [se8_len]; exact hk)]; rfl
    | succ i =>
      rw [List.getElem?_append_right (by rw [se8_len]; omega), se8_len, show (i + 1) * 8 + k - 8 = i * 8 + k from by omega]
      exact ih i (by simpa using hi)
def OwnSe (T : TypeId) (w : World) (base : Nat) (A : Option Addr) (c : Nat) (l : List Se) : Prop := w.ownsRow base T 8 (.slice A l.length c) l.length (cellsSe l)
theorem OwnSe.at_ {T : TypeId} {w : World} {base c : Nat} {A : Option Addr} {l : List Se} (h : OwnSe T w base A c l) : SeAt w w.heap.size A l := fun k hk => by
  obtain ⟨b, rfl, hl, hc⟩ := own_at h (by omega)
  have hj : ∀ j, j < 8 → ∀ u, (l.getD k se0).cells[j]? = some u → w.cell? ⟨b, k * 8 + j, none⟩ = some u := fun j hj u hu => hc _ _ ((cellsSe_at l k hk j hj).trans hu)
  refine ⟨b, 0, rfl, hl, ?_⟩
  rw [Nat.zero_add]
  exact ⟨hj 0 (by omega) _ rfl, hj 1 (by omega) _ rfl, hj 2 (by omega) _ rfl, hj 3 (by omega) _ rfl, hj 4 (by omega) _ rfl, hj 5 (by omega) _ rfl, hj 6 (by omega) _ rfl, hj 7 (by omega) _ rfl⟩
theorem append_se (T TS : TypeId) (hT : Try.prog.underlying TS = some (.slice T)) (hI : (Try.prog.info? T).map (fun i => (i.zero, i.size, i.bytes)) = some (some (.agg #[.int .i64 0, .int .i64 0, .int .i64 0, .bool false, .int .i64 0, .int .i64 0, .int .i64 0, .string ⟨#[]⟩]), 8, 72)) (w : World) (base : Nat) (A0 : Option Addr) (c0 n0 : Nat) (l : List Se) (hl0 : l.length = n0) (hown : OwnSe T w base A0 c0 l) (g : Nat) (x : Se) (hg : Blk w g T x.cells.toArray) (hn : (l.length + 1) * 72 ≤ 140737488355328) (hbase : base ≤ w.heap.size) :
    ∃ a' c' w', (Builtin.append_ #[TS, TS] TS #[.slice A0 n0 c0, .slice (some ⟨g, 0, none⟩) 1 1]).run Try.prog w = .ok (.slice a' (n0 + 1) c') w' ∧ OwnSe T w' base a' c' (l ++ [x]) ∧ w.grownBy w' (Value.slice A0 n0 c0).ownBlock ∧ Moved w (.slice A0 n0 c0) (.slice a' (n0 + 1) c') := by
  subst hl0
  obtain ⟨i0, hi0, hz0, hz1, hz2⟩ := info_parts hI
  obtain ⟨a', c', w', hr, ho, hgr, hmv, _⟩ := append_src w base TS TS T i0 _ 8 72 hT hi0 hz0 hz1 hz2 rfl (by decide) _ l.length _ hown (some ⟨g, 0, none⟩) 1 1 (cellsSe [x]) rfl (fun h => by cases h)
    (fun _ => ⟨g, 0, rfl, fun j u hu => by
      rw [Nat.zero_add, hg.cell, ← hu]
      simp [cellsSe]⟩)
    (fun u hu => by
      simp only [cellsSe, Se.cells, List.append_nil, List.mem_cons, List.not_mem_nil, or_false] at hu
      rcases hu with rfl | rfl | rfl | rfl | rfl | rfl | rfl | rfl <;> rfl) (by unfold maxLen; omega) (by omega) hbase
  refine ⟨a', c', w', hr, ?_, hgr, hmv⟩
  unfold OwnSe
  rw [cellsSe_app, List.length_append]
  exact ho
theorem sent_info : (Try.prog.info? 35).map (fun i => (i.zero, i.size, i.bytes)) = some (some (.agg #[.int .i64 0, .int .i64 0, .int .i64 0, .bool false, .int .i64 0, .int .i64 0, .int .i64 0, .string ⟨#[]⟩]), 8, 72) := by kernel_rfl
end Go.Proofs.Ytnhnllkcnpbgoaa
