/- Lists of what was heard: one more, and the same for the document (plain). Its condition: fewer than 2^20 ports. -/
import Derived.Test.YtogkminlhjmafaaVplain
namespace Go.Proofs.Ytogkminlhjmafaa
open Go.RowKit
set_option maxRecDepth 100000

theorem append_hd (ts te : TypeId) (hts : Try.prog.underlying ts = some (.slice te)) (hte : (Try.prog.info? te).map (fun i => (i.zero, i.size, i.bytes)) = some (some (.agg #[.int .i64 0, .int .i64 0, .int .i64 0, .int .i64 0, .int .i64 0, .int .i64 0, .bool false]), 7, 56))
    (w : World) (base : Nat) (A0 : Option Addr) (c0 n0 : Nat) (l : List Hd) (hl0 : l.length = n0) (hown : OwnH te w base A0 c0 l) (A : Option Addr) (c n1 B : Nat) (m : List Hd) (hl1 : m.length = n1) (hnone : A = none → c = 0) (hsrc : HdAt w B A m) (hn : l.length + m.length ≤ 1048576) (hbase : base ≤ w.heap.size) :
    ∃ a' c' w', (Builtin.append_ #[ts, ts] ts #[.slice A0 n0 c0, .slice A n1 c]).run Try.prog w = .ok (.slice a' (n0 + n1) c') w' ∧ OwnH te w' base a' c' (l ++ m) ∧ w.grownBy w' (Value.slice A0 n0 c0).ownBlock := by
  subst hl0
  subst hl1
  obtain ⟨i0, hi0, hz0, hz1, hz2⟩ := info_parts hte
  obtain ⟨a', c', w', hr, ho, hg, _, _⟩ := append_src w base ts ts te i0 _ 7 56 hts hi0 hz0 hz1 hz2 rfl (by decide) _ l.length (hdL l) hown A m.length c (hdL m) (by rw [hdL_length]) hnone (fun h0 => hsrc.flat h0)
    (hdL_one m) (by unfold maxLen; omega) (by omega) hbase
  refine ⟨a', c', w', hr, ?_, hg⟩
  unfold OwnH
  rw [hdL_append, List.length_append]
  exact ho
theorem hd_one {w : World} {g : Nat} {t : TypeId} {B : Nat} (x : Hd) (h : Blk w g t x.arr) (hB : g < B) : HdAt w B (some ⟨g, 0, none⟩) [x] := fun q hq => by
  obtain rfl : q = 0 := by simpa using hq
  exact ⟨g, 0, rfl, hB, h.cell 0, h.cell 1, h.cell 2, h.cell 3, h.cell 4, h.cell 5, h.cell 6⟩
theorem take_one (l : List Hd) (j : Nat) (hj : j < l.length) : l.take (j + 1) = l.take j ++ [l.getD j hd0] := by
  have e : l.getD j hd0 = l[j] := by simp [List.getD_eq_getElem?_getD, List.getElem?_eq_getElem hj]
  rw [List.take_succ_eq_append_getElem hj, e]
end Go.Proofs.Ytogkminlhjmafaa

