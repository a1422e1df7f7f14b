/- Lists of what was heard: one more, and the same for the document (plain). Its condition: fewer than 2^20 ports. -/
import Derived.Test.YtogghcbijdljkaaVplain
namespace Go.Proofs.Ytogghcbijdljkaa
open Go.RowKit
set_option maxRecDepth 100000

theorem append_hd (ts te : TypeId) (hts : Try.prog.underlying ts = some (.slice te)) (hte : (Try.prog.info? te).map (fun i => (i.zero, i.size, i.bytes)) = some (some (.agg #[.int .i64 0, .int .i64 0, .int .i64 0, .int .i64 0, .int .i64 0, .int .i64 0, .bool false]), 7, 56))
    (w : World) (base : Nat) (A0 : Option Addr) (c0 n0 : Nat) (l : List Hd) (hl0 : l.length = n0) (hown : OwnH te w base A0 c0 l) (A : Option Addr) (c n1 B : Nat) (m : List Hd) (hl1 : m.length = n1) (hnone : A = none → c = 0) (hsrc : HdAt w B A m) (hn : l.length + m.length ≤ 1048576) (hbase : base ≤ w.heap.size) :
    ∃ a' c' w', (Builtin.append_ #[ts, ts] ts #[.slice A0 n0 c0, .slice A n1 c]).run Try.prog w = .ok (.slice a' (n0 + n1) c') w' ∧ OwnH te w' base a' c' (l ++ m) ∧ w.grownBy w' (Value.slice A0 n0 c0).ownBlock := by
  subst hl0
  subst hl1
  obtain ⟨i0, hi0, hz0, hz1, hz2⟩ := info_parts hte
  obtain ⟨a', c', w', hr, ho, hg, _, _⟩ := append_src w base ts ts te i0 _ 7 56 hts hi0 hz0 hz1 hz2 rfl (by decide) _ l.length (hdL l) hown A m.length c (hdL m) (by rw [hdL_length]) hnone (fun h0 => hsrc.flat h0)
    (hdL_one m) (by unfold maxLen; omega) (by omega) hbase
  refine ⟨a', c', w', hr, ?_, hg⟩
  unfold OwnH
  rw [hdL_append, List.length_append]
  exact ho
theorem hd_one {w : World} {g : Nat} {t : TypeId} {B : Nat} (x : Hd) (h : Blk w g t x.arr) (hB : g < B) : HdAt w B (some ⟨g, 0, none⟩) [x] := fun q hq => by
  obtain rfl : q = 0 := by simpa using hq
  exact ⟨g, 0, rfl, hB, h.cell 0, h.cell 1, h.cell 2, h.cell 3, h.cell 4, h.cell 5, h.cell 6⟩
theorem take_one (l : List Hd) (j : Nat) (hj : j < l.length) : l.take (j + 1) = l.take j ++ [l.getD j hd0] := by
  have e : l.getD j hd0 = l[j] := by simp [List.getD_eq_getElem?_getD, List.getElem?_eq_getElem hj]
  rw [List.take_succ_eq_append_getElem hj, e]
set_option maxHeartbeats 4000000 in
theorem plain_any (A : Option Addr) (c : Nat) (l : List Hd) (w : World) (h : HdAt w w.heap.size A l) (hn : l.length ≤ 1048000) :
    Calls Try.prog 35 #[.slice A l.length c] w fun e w' => ∃ A' c', e = .returned (.slice A' l.length c') ∧ HdAt w' w'.heap.size A' l ∧ Below w.heap.size w w' := by
  obtain ⟨n, hnn⟩ : ∃ n, l.length = n := ⟨_, rfl⟩
  have HN := Lib.hid (And.intro hnn hn)
  have HA := Lib.hid h
  rw [hnn]
  clear h hn hnn
  go_enter Try.func35, Try.ntmps35
  go_wp2_with fail
  go_loopw [3, 8] (fun pv iv wr => ∃ (j : Nat) (A1 : Option Addr) (c1 : Nat), j ≤ n ∧ iv = .int .i64 j ∧ pv = .slice A1 j c1 ∧ Hid (OwnH 89 wr w.heap.size A1 c1 (l.take j) ∧ Below w.heap.size w wr)) (fun _ iv _ => n - (intOf iv).toNat)
  case atStart => exact ⟨0, none, 0, Nat.zero_le _, rfl, rfl, Lib.hid ⟨World.ownsRow_nil _ _ _ _, Below.refl _ _⟩⟩
  case round =>
    obtain ⟨j, A1, c1, hj, rfl, rfl, hS⟩ := hrel
    by_cases hlt : j < n
    · have hj' : j < l.length := by rw [HN.out.1]; exact hlt
      have htk := take_one l j hj'
      obtain ⟨b, off, rfl, hbl, hc⟩ := HA.out j hj'
      have hc := hc.below hS.out.2 hbl
      obtain ⟨x, hx⟩ : ∃ x, l.getD j hd0 = x := ⟨_, rfl⟩
      rw [hx] at hc htk
      obtain ⟨q0, q1, q2, q3, q4, q5, q6⟩ := hc
      have hlen : (l.take j).length = j := by rw [List.length_take]; omega
      have o1 : OwnH 89 (wr.alloc (.cells x.arr 71)) w.heap.size A1 c1 (l.take j) := World.ownsRow.alloc hS.out.1 _
      have o2 : OwnH 89 ((wr.alloc (.cells x.arr 71)).alloc (.cells x.arr 89)) w.heap.size A1 c1 (l.take j) := World.ownsRow.alloc o1 _
      have z2 : Blk ((wr.alloc (.cells x.arr 71)).alloc (.cells x.arr 89)) (wr.heap.size + 1) 89 x.arr := by
        have := Blk.new (wr.alloc (.cells x.arr 71)) 89 x.arr
        rwa [show (wr.alloc (.cells x.arr 71)).heap.size = wr.heap.size + 1 by simp] at this
      have hsz : w.heap.size ≤ ((wr.alloc (.cells x.arr 71)).alloc (.cells x.arr 89)).heap.size := Nat.le_trans hS.out.2.size (bel_alloc2 wr _ _).size
      obtain ⟨a', c', w3, hr, ho3, hg3⟩ := append_hd 61 89 Try.underlying61 rhd_info ((wr.alloc (.cells x.arr 71)).alloc (.cells x.arr 89)) w.heap.size A1 c1 j (l.take j) hlen o2
        (some ⟨wr.heap.size + 1, 0, none⟩) 1 1 (wr.heap.size + 2) [x] rfl (fun h => by cases h) (hd_one x z2 (Nat.lt_succ_self _)) (by rw [hlen]; simp only [List.length_singleton]; have := HN.out.2; have := HN.out.1; omega) hsz
      have hb3 : Below w.heap.size w w3 := (hS.out.2.trans ((bel_alloc2 wr _ _).mono hS.out.2.size)).trans (by have ho := o2; unfold OwnH at ho; rw [hlen] at ho; exact bel_own ho hg3 (Nat.le_refl _) hsz)
      rw [← htk] at ho3
      have HR := Lib.hid hr
      have HEND := Lib.hid (And.intro ho3 hb3)
      simp only [Hd.arr] at HR
      have j1 : (j : Int) < n := by omega
      have j0 : (0 : Int) ≤ j := by omega
      have HJ := Lib.hid (show wrap64 ((j : Int) + 1) = (j : Int) + 1 from IntWalk.wrap64_in _ (by have := HN.out.2; have := HN.out.1; omega))
      clear hj' htk hbl hx hlen o1 o2 z2 hsz hr ho3 hg3 hb3
      go_wp2_with (at_builtin; refine Lib.wpList_append_run _ rfl _ _ _ _ rfl _ _ rfl rfl _ _ HR.out ?_)
      go_roundw
      case rel =>
        rw [HJ.out]
        exact ⟨j + 1, a', c', hlt, by rw [Int.natCast_add]; rfl, rfl, HEND⟩
      case measure =>
        rw [HJ.out]
        show n - ((j : Int) + 1).toNat < n - ((j : Int)).toNat
        omega
    · obtain rfl : n = j := by omega
      have htk : l.take n = l := List.take_of_length_le (by rw [HN.out.1]; exact Nat.le_refl _)
      rw [htk] at hS
      clear htk
      go_wp2_with fail
      go_ret
      exact ⟨A1, c1, rfl, hS.out.1.at_, hS.out.2⟩
end Go.Proofs.Ytogghcbijdljkaa
