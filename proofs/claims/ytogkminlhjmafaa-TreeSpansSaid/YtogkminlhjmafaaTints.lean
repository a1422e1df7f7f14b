/- Own rows of numbers: what lies in them, append of one. No condition but the bound on lengths. -/
import Derived.Test.YtogkminlhjmafaaOwn
namespace Go.Proofs.Ytogkminlhjmafaa
open Go.RowKit
set_option maxRecDepth 100000

def OwnI (w : World) (base : Nat) (A : Option Addr) (c : Nat) (l : List Int) : Prop := w.ownsRow base 3 1 (.slice A l.length c) l.length (l.map fun n => .int .i64 n)
theorem OwnI.at_ {w : World} {base c : Nat} {A : Option Addr} {l : List Int} (h : OwnI w base A c l) {k : Nat} (hk : k < l.length) : ∃ b, A = some ⟨b, 0, none⟩ ∧ base ≤ b ∧ b < w.heap.size ∧ w.cell? ⟨b, k, none⟩ = some (.int .i64 (l.getD k 0)) := by
  obtain ⟨b, rfl, hl, hc⟩ := own_at h (by omega)
  exact ⟨b, rfl, (World.ownsRow.lt h b rfl).1, hl, hc k _ (by rw [List.getElem?_map, List.getD_eq_getElem?_getD, List.getElem?_eq_getElem hk]; rfl)⟩
theorem append_int (w : World) (base : Nat) (A0 : Option Addr) (c0 n0 : Nat) (l : List Int) (hl0 : l.length = n0) (hown : OwnI w base A0 c0 l) (g : Nat) (s : Int) (hg : Blk w g 3 #[.int .i64 s]) (hn : l.length ≤ 1048576) (hbase : base ≤ w.heap.size) :
    ∃ a' c' w', (Builtin.append_ #[47, 47] 47 #[.slice A0 n0 c0, .slice (some ⟨g, 0, none⟩) 1 1]).run Try.prog w = .ok (.slice a' (n0 + 1) c') w' ∧ OwnI w' base a' c' (l ++ [s]) ∧ w.grownBy w' (Value.slice A0 n0 c0).ownBlock := by
  subst hl0
  obtain ⟨i0, hi0, hz0, hz1, hz2⟩ := info_parts int_info
  obtain ⟨a', c', w', hr, ho, hgr, _, _⟩ := append_src w base 47 47 3 i0 _ 1 8 Try.underlying47 hi0 hz0 hz1 hz2 rfl (by decide) _ l.length _ hown (some ⟨g, 0, none⟩) 1 1 [.int .i64 s] rfl (fun h => by cases h)
    (fun _ => ⟨g, 0, rfl, fun j u hu => by
      rw [Nat.zero_add, hg.cell, ← hu]
      simp⟩)
    (fun u hu => by simp only [List.mem_cons, List.not_mem_nil, or_false] at hu; subst hu; rfl) (by unfold maxLen; omega) (by omega) hbase
  refine ⟨a', c', w', hr, ?_, hgr⟩
  unfold OwnI
  rw [List.map_append, List.length_append]
  exact ho
end Go.Proofs.Ytogkminlhjmafaa
