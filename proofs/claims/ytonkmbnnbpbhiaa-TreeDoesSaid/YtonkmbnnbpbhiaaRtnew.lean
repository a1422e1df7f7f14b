/- The document's new part of a bridge. Its condition: one to six ports. -/
import Derived.Test.YtonkmbnnbpbhiaaRtbest
namespace Go.Proofs.Ytonkmbnnbpbhiaa
open Go.RowKit
set_option maxRecDepth 100000

def pnL : Nat → List Value
  | 0 => []
  | j + 1 => pnL j ++ [.bool false, .int .i64 0, .int .i64 0, .int .i64 0, .int .i64 0, .int .i64 0, .int .i64 0, .int .i64 0, .bool true, .int .i64 0, .slice none 0 0]
theorem pnL_length (j : Nat) : (pnL j).length = j * 11 := by
  induction j with
  | zero => rfl
  | succ j ih => simp [pnL, ih]; omega
theorem pnL_at (j i : Nat) (h : i < j) (k : Nat) (hk : k < 11) : (pnL j)[i * 11 + k]? = (rArr ptN (.slice none 0 0))[k]? := by
  induction j with
  | zero => omega
  | succ j ih =>
    rw [pnL]
    by_cases e : i = j
    · subst e
      rw [List.getElem?_append_right (by rw [pnL_length]; omega), pnL_length]
      have e2 : i * 11 + k - i * 11 = k := by omega
      rw [e2]
      rcases (show k = 0 ∨ k = 1 ∨ k = 2 ∨ k = 3 ∨ k = 4 ∨ k = 5 ∨ k = 6 ∨ k = 7 ∨ k = 8 ∨ k = 9 ∨ k = 10 from by omega) with rfl | rfl | rfl | rfl | rfl | rfl | rfl | rfl | rfl | rfl | rfl <;> rfl
    · rw [List.getElem?_append_left (by rw [pnL_length]; omega)]
      exact ih (by omega)
theorem rport_info : (Try.prog.info? 79).map (fun i => (i.zero, i.size, i.bytes)) = some (some (.agg #[.bool false, .int .i64 0, .int .i64 0, .int .i64 0, .int .i64 0, .int .i64 0, .int .i64 0, .int .i64 0, .bool false, .int .i64 0, .slice none 0 0]), 11, 104) := by kernel_rfl
theorem bool_info : (Try.prog.info? 4).map (fun i => (i.zero, i.size, i.bytes)) = some (some (.bool false), 1, 1) := by kernel_rfl
theorem made_bools {w : World} {base gp n : Nat} (h : w.ownsRow base 4 1 (.slice (some ⟨gp, 0, none⟩) n n) n (madeCells (Value.bool false).cells (n * 1)).toList) : OpenAt w gp n (fun _ => false) := by
  rcases h.2 with ⟨e0, _⟩ | ⟨g', cap', cur, e0, _, hg', _, _, hs', ht⟩
  · cases e0
  · injection e0 with e1 _ e3
    injection e1 with e1
    injection e1 with e1
    subst e1 e3
    refine ⟨cur, hg', by omega, fun i hi => ?_⟩
    have hlt : i < n * 1 := by omega
    have e1 : cur[i]? = (cur.toList.take (n * 1))[i]? := by
      rw [List.getElem?_take_of_lt hlt]
      simp
    rw [e1, ht]
    simp [madeCells, Value.cells] at hlt ⊢
    exact ⟨i, by rw [List.getElem?_range hi], by rw [Nat.mod_one]; rfl⟩
/-- A part as its ports are made. -/
structure NewAt (w : World) (base d go : Nat) (id : Int) (n j : Nat) (A : Option Addr) (c : Nat) : Prop where
  top : Blk w d 74 #[.int .i64 id, .slice A j c, .int .i64 (-1), .slice (some ⟨go, 0, none⟩) n n]
  open_ : OpenAt w go n (fun _ => false)
  row : w.ownsRow base 79 11 (.slice A j c) j (pnL j)
  bd : base ≤ d
  bo : base ≤ go
theorem NewAt.done {w : World} {base d go n : Nat} {id : Int} {A : Option Addr} {c : Nat} (h : NewAt w base d go id n n A c) (hn : 1 ≤ n) : ∃ gp, DocAt w base d gp go c id n (fun _ => ptN) (fun _ => []) (fun _ => none) (fun _ => 0) (fun _ => false) (-1) := by
  rcases h.row.2 with ⟨e0, _⟩ | ⟨g', cap', cur, e0, hb', hg', hle, _, hs', ht⟩
  · injection e0 with _ e2
    omega
  · injection e0 with e1 _ e3
    subst e1 e3
    refine ⟨g', h.top, hle, ⟨cur, hg', by omega, fun i hi k hk => ?_⟩, h.open_, fun i hi => World.ownsRow_nil _ _ _ _, fun i j hi hj hne k hk => ?_, fun i hi => rfl, h.bd, hb', h.bo⟩
    · have hlt : i * 11 + k < n * 11 := by omega
      have e1 : cur[i * 11 + k]? = (cur.toList.take (n * 11))[i * 11 + k]? := by
        rw [List.getElem?_take_of_lt hlt]
        simp
      rw [e1, ht, pnL_at n i hi k hk]
      rfl
    · simp [slT, Value.ownBlock] at hk
set_option maxHeartbeats 4000000 in
theorem rtnew_ok (id : Int) (n : Nat) (h1 : 1 ≤ n) (h6 : n ≤ 6) (w : World) :
    Calls Try.prog 21 #[.int .i64 id, .int .i64 n] w fun e w' => ∃ d gp go cap, e = .returned (.pointer (some ⟨d, 0, none⟩)) ∧ DocAt w' w.heap.size d gp go cap id n (fun _ => ptN) (fun _ => []) (fun _ => none) (fun _ => 0) (fun _ => false) (-1) ∧ Below w.heap.size w w' := by
  have HN := Lib.hid (And.intro h1 h6)
  have n0 : (0 : Int) ≤ n := by omega
  obtain ⟨i0, hi0, hz0, hz1, hz2⟩ := info_parts bool_info
  have hms := fun (w : World) => run_makeSlice_full (P := Try.prog) (w := w) w.heap.size 69 4 i0 _ 1 Try.underlying69 hi0 hz0 hz1 .i64 .i64 n (by omega) (by rw [hz2]; omega) (by unfold maxLen; omega) (Nat.le_refl _)
  clear h1 h6
  go_enter Try.func21, Try.ntmps21
  obtain ⟨wa, hma, hra, hga⟩ := hms w
  have hop : OpenAt wa w.heap.size n (fun _ => false) := made_bools hra
  have HOP := Lib.hid (And.intro hop (bel_made hga))
  clear hra hms hop hga
  go_wp2_with fail
  have hst : NewAt (wa.alloc (.cells #[.int .i64 id, .slice none 0 0, .int .i64 (-1), .slice (some ⟨w.heap.size, 0, none⟩) n n] 74)) w.heap.size wa.heap.size w.heap.size id n 0 none 0 :=
    ⟨Blk.new wa _ _, HOP.out.1.block (Below.heap_alloc wa _ _ HOP.out.1.lt), World.ownsRow_nil _ _ _ _, HOP.out.2.size, Nat.le_refl _⟩
  have HST := Lib.hid (And.intro hst (HOP.out.2.alloc HOP.out.2.size (.cells #[.int .i64 id, .slice none 0 0, .int .i64 (-1), .slice (some ⟨w.heap.size, 0, none⟩) n n] 74)))
  clear hma HOP hst hi0 hz0 hz1 hz2
  generalize wa.alloc (.cells #[.int .i64 id, .slice none 0 0, .int .i64 (-1), .slice (some ⟨w.heap.size, 0, none⟩) n n] 74) = W1 at HST ⊢
  generalize wa.heap.size = d at HST ⊢
  go_loopw [6] (fun iv wr => ∃ (j : Nat) (A : Option Addr) (c : Nat), j ≤ n ∧ iv = .int .i64 j ∧ Hid (NewAt wr w.heap.size d w.heap.size id n j A c ∧ Below w.heap.size w wr)) (fun iv _ => n - (intOf iv).toNat)
  case atStart => exact ⟨0, none, 0, Nat.zero_le _, rfl, HST⟩
  case round =>
    obtain ⟨j, A, c, hj, rfl, hS⟩ := hrel
    by_cases hlt : j < n
    · have j1 : (j : Int) < n := by omega
      have j0 : (0 : Int) ≤ j := by omega
      have HJ := Lib.hid (show wrap64 ((j : Int) + 1) = (j : Int) + 1 from IntWalk.wrap64_in _ (by have := HN.out.2; omega))
      have hap : ∃ a' c' w3, (Builtin.append_ #[72, 72] 72 #[.slice A j c, .slice (some ⟨wr.heap.size, 0, none⟩) 1 1]).run Try.prog (wr.alloc (.cells #[.bool false, .int .i64 0, .int .i64 0, .int .i64 0, .int .i64 0, .int .i64 0, .int .i64 0, .int .i64 0, .bool true, .int .i64 0, .slice none 0 0] 79)) = .ok (.slice a' (j + 1) c') w3 ∧
          Blk w3 d 74 #[.int .i64 id, .slice A j c, .int .i64 (-1), .slice (some ⟨w.heap.size, 0, none⟩) n n] ∧
          Hid (NewAt (w3.setCell ⟨d, 1, none⟩ (.slice a' (j + 1) c')) w.heap.size d w.heap.size id n (j + 1) a' c' ∧ Below w.heap.size w (w3.setCell ⟨d, 1, none⟩ (.slice a' (j + 1) c'))) := by
        obtain ⟨i1, hi1, hy0, hy1, hy2⟩ := info_parts rport_info
        have hnb := Blk.new wr 79 #[.bool false, .int .i64 0, .int .i64 0, .int .i64 0, .int .i64 0, .int .i64 0, .int .i64 0, .int .i64 0, .bool true, .int .i64 0, .slice none 0 0]
        have hbe : Below wr.heap.size wr (wr.alloc (.cells #[.bool false, .int .i64 0, .int .i64 0, .int .i64 0, .int .i64 0, .int .i64 0, .int .i64 0, .int .i64 0, .bool true, .int .i64 0, .slice none 0 0] 79)) := bel_alloc wr _
        obtain ⟨W, hW⟩ : ∃ W, wr.alloc (.cells #[.bool false, .int .i64 0, .int .i64 0, .int .i64 0, .int .i64 0, .int .i64 0, .int .i64 0, .int .i64 0, .bool true, .int .i64 0, .slice none 0 0] 79) = W := ⟨_, rfl⟩
        rw [hW] at hnb hbe ⊢
        have hrow : W.ownsRow w.heap.size 79 11 (.slice A j c) j (pnL j) := own_heap hS.out.1.row fun k hk => hbe.block k (World.ownsRow.lt hS.out.1.row k hk).2
        have hsz := hbe.size
        have hws := hS.out.2.size
        obtain ⟨a', c', w3, hr, ho, hg, hmv, _⟩ := append_src W w.heap.size 72 72 79 i1 _ 11 104 Try.underlying72 hi1 hy0 hy1 hy2 rfl (by decide) _ j (pnL j) hrow (some ⟨wr.heap.size, 0, none⟩) 1 1
          [.bool false, .int .i64 0, .int .i64 0, .int .i64 0, .int .i64 0, .int .i64 0, .int .i64 0, .int .i64 0, .bool true, .int .i64 0, .slice none 0 0] rfl (fun h => by cases h)
          (fun _ => ⟨wr.heap.size, 0, rfl, fun q u hu => by
            rw [Nat.zero_add]
            refine (hnb.cell q).trans ?_
            rw [← hu]
            simp⟩)
          (fun u hu => by simp only [List.mem_cons, List.not_mem_nil, or_false] at hu; rcases hu with rfl | rfl | rfl | rfl | rfl | rfl | rfl | rfl | rfl | rfl | rfl <;> rfl) (by have := HN.out.2; unfold maxLen; omega) (by have := HN.out.2; omega) (by omega)
        have htop : Blk W d 74 #[.int .i64 id, .slice A j c, .int .i64 (-1), .slice (some ⟨w.heap.size, 0, none⟩) n n] := Blk.below hS.out.1.top hbe hS.out.1.top.lt
        have htop3 := blk_grown htop hrow (by decide) hg
        obtain ⟨ocs, hob, hoc⟩ := hS.out.1.open_
        have hob3 := blk_grown (Blk.below hob hbe hob.lt) hrow (by decide) hg
        have hdne : w.heap.size ≠ d := fun e => by
          subst e
          exact absurd (blk_type hob3 htop3) (by decide)
        have hown3 : ∀ k, (Value.slice a' (j + 1) c').ownBlock = some k → k ≠ d := fun k hk e => by
          subst e
          rcases hmv with e | ⟨q, hq, e⟩
          · rw [e] at hk
            exact own_ne hrow htop (by decide) hk
          · rw [e] at hk
            injection hk with hk
            have := htop.lt
            omega
        have hbw : Below w.heap.size w w3 := (hS.out.2.trans (hbe.mono hws)).trans (bel_own hrow hg (Nat.le_refl _) (by omega))
        refine ⟨a', c', w3, hr, htop3, Lib.hid ⟨⟨htop3.set_ 1 _, ⟨ocs, hob3.far hdne _, hoc⟩, own_heap ho fun k hk => Below.heap_setCell _ _ _ k (hown3 k hk), hS.out.1.bd, hS.out.1.bo⟩, ?_⟩⟩
        exact ⟨hbw.os, hbw.tape, hbw.output, by simpa [World.setCell] using hbw.size, fun k hk => (Below.heap_setCell _ _ _ k (by have := hS.out.1.bd; show k ≠ d; omega)).trans (hbw.block k hk)⟩
      obtain ⟨a', c', w3, hr, ht3, HE3⟩ := hap
      have HR := Lib.hid hr
      have k1 : w3.cell? ⟨d, 1, none⟩ = some (.slice A j c) := ht3.cell 1
      have f1 := ht3.frozen 1
      have t1 : wr.cell? ⟨d, 1, none⟩ = some (.slice A j c) := hS.out.1.top.cell 1
      have hdl : d < wr.heap.size := hS.out.1.top.lt
      have ca : ∀ o : Obj, (wr.alloc o).cell? ⟨d, 1, none⟩ = some (.slice A j c) := fun o => (World.cell?_of_block (Below.heap_alloc wr o d hdl)).trans t1
      clear hr ht3 hj hdl hS
      go_wp2_with (at_builtin; refine Lib.wpList_append_run _ rfl _ _ _ _ rfl _ _ rfl rfl _ _ HR.out ?_)
      all_goals
        go_roundw
        case rel =>
          rw [HJ.out]
          exact ⟨j + 1, a', c', hlt, by rw [Int.natCast_add]; rfl, HE3⟩
        case measure =>
          rw [HJ.out]
          show n - ((j : Int) + 1).toNat < n - ((j : Int)).toNat
          omega
    · obtain rfl : n = j := by omega
      obtain ⟨gp, hd⟩ := hS.out.1.done HN.out.1
      have HD := Lib.hid hd
      clear hd
      go_wp2_with fail
      go_ret
      exact ⟨d, gp, _, c, rfl, HD.out, hS.out.2⟩
end Go.Proofs.Ytonkmbnnbpbhiaa
