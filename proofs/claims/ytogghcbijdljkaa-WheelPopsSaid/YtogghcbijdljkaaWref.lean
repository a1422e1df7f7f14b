/- The document's wheel: two rows of numbers, keys and when they are due. Its condition: fewer than 2^20 keys. -/
import Derived.Test.YtogghcbijdljkaaWcalls
namespace Go.Proofs.Ytogghcbijdljkaa
open Go.RowKit
set_option maxRecDepth 100000

def keysL (m : List Tm) : List Int := m.map (·.key)
def duesL (m : List Tm) : List Int := m.map (·.due)
def stopT (key : Int) (m : List Tm) : List Tm := m.filter fun t => decide (t.key ≠ key)
def blkOf (A : Option Addr) : Option Nat := A.map (·.block)
theorem own_blk (A : Option Addr) (n c : Nat) : (Value.slice A n c).ownBlock = blkOf A := by cases A <;> rfl
/-- Two rows of numbers of the program's own that lie apart. -/
structure Pair (w : World) (base : Nat) (A : Option Addr) (c : Nat) (ks : List Int) (A' : Option Addr) (c' : Nat) (ds : List Int) : Prop where
  k : OwnN w base A c ks
  d : OwnN w base A' c' ds
  ne : ∀ q, blkOf A = some q → blkOf A' ≠ some q
theorem Pair.swap {w : World} {base c c' : Nat} {A A' : Option Addr} {ks ds : List Int} (h : Pair w base A c ks A' c' ds) : Pair w base A' c' ds A c ks := ⟨h.d, h.k, fun q h1 h2 => h.ne q h2 h1⟩
theorem OwnN.lt {w : World} {base c : Nat} {A : Option Addr} {l : List Int} (h : OwnN w base A c l) {q : Nat} (hq : blkOf A = some q) : base ≤ q ∧ q < w.heap.size := World.ownsRow.lt h q ((own_blk A l.length c).trans hq)
theorem Pair.heap {w w' : World} {base c c' : Nat} {A A' : Option Addr} {ks ds : List Int} (h : Pair w base A c ks A' c' ds) (hk : ∀ q, blkOf A = some q → w'.heap[q]? = w.heap[q]?) (hd : ∀ q, blkOf A' = some q → w'.heap[q]? = w.heap[q]?) : Pair w' base A c ks A' c' ds :=
  ⟨own_heap h.k fun q hq => hk q ((own_blk A _ c).symm.trans hq), own_heap h.d fun q hq => hd q ((own_blk A' _ c').symm.trans hq), h.ne⟩
theorem Pair.below {w w' : World} {base c c' : Nat} {A A' : Option Addr} {ks ds : List Int} (h : Pair w base A c ks A' c' ds) (hb : Below w.heap.size w w') : Pair w' base A c ks A' c' ds :=
  h.heap (fun q hq => hb.block q (h.k.lt hq).2) (fun q hq => hb.block q (h.d.lt hq).2)
theorem numL_app (l m : List Int) : numL (l ++ m) = numL l ++ numL m := List.map_append
theorem Pair.push {w : World} {base c c' n : Nat} {A A' : Option Addr} {ks ds : List Int} (h : Pair w base A c ks A' c' ds) (hn : ks.length = n) (hfew : n ≤ 1048000) (hb : base ≤ w.heap.size) (x : Int) :
    ∃ a1 c1 w1, (Builtin.append_ #[27, 27] 27 #[.slice A n c, .slice (some ⟨w.heap.size, 0, none⟩) 1 1]).run Try.prog (w.alloc (.cells #[.int .i64 x] 3)) = .ok (.slice a1 (n + 1) c1) w1 ∧ Pair w1 base a1 c1 (ks ++ [x]) A' c' ds ∧ Below base w w1 ∧ w.heap.size ≤ w1.heap.size ∧ ∀ q cs t, Blk w q t cs → t ≠ 3 → Blk w1 q t cs := by
  subst hn
  have hk1 : OwnN (w.alloc (.cells #[.int .i64 x] 3)) base A c ks := World.ownsRow.alloc h.k _
  have hd1 : OwnN (w.alloc (.cells #[.int .i64 x] 3)) base A' c' ds := World.ownsRow.alloc h.d _
  have hz := Blk.new w 3 #[.int .i64 x]
  obtain ⟨i0, hi0, hz0, hz1, hz2⟩ := info_parts int_info'
  obtain ⟨a1, c1, w1, hr, ho, hg, hm, _⟩ := append_src (w.alloc (.cells #[.int .i64 x] 3)) base 27 27 3 i0 _ 1 8 Try.underlying27 hi0 hz0 hz1 hz2 rfl (by decide) _ ks.length (numL ks) hk1 (some ⟨w.heap.size, 0, none⟩) 1 1 [.int .i64 x] rfl (fun h => by cases h)
    (fun _ => ⟨w.heap.size, 0, rfl, fun j u hu => by
      have hj : j = 0 := by have := (List.getElem?_eq_some_iff.1 hu).1; simpa using this
      subst hj
      exact (hz.cell 0).trans hu⟩) (fun u hu => by rw [List.mem_singleton.1 hu]; rfl) (by unfold maxLen; omega) (by omega) (Nat.le_trans hb (by simp))
  have hs : (w.alloc (.cells #[.int .i64 x] 3)).heap.size = w.heap.size + 1 := by simp
  refine ⟨a1, c1, w1, hr, ⟨?_, ?_, ?_⟩, ?_, Nat.le_trans (by omega) hg.size, ?_⟩
  · unfold OwnN
    rw [numL_app, List.length_append]
    exact ho
  · refine own_heap hd1 fun q hq => hg.block q (World.ownsRow.lt hd1 q hq).2 (fun e => ?_)
    rw [own_blk] at e hq
    exact h.ne q e.symm hq
  · intro q hq hq'
    rcases hm with e | ⟨z, hz', e⟩
    · rw [own_blk, own_blk, hq] at e
      exact h.ne q e.symm hq'
    · rw [own_blk, hq] at e
      injection e with e
      have := (h.d.lt hq').2
      omega
  · exact ((Below.refl _ _).alloc hb _).trans (bel_own hk1 hg (Nat.le_refl _) (by omega))
  · intro q cs t hq ht
    exact blk_grown (hq.alloc _) hk1 ht hg
/-- The document's wheel in block g; its rows lie at lo, or above. -/
def RefAt (w : World) (g : Nat) (m : List Tm) (lo : Nat) : Prop := ∃ A c A' c', Blk w g 29 #[.slice A m.length c, .slice A' m.length c'] ∧ Pair w lo A c (keysL m) A' c' (duesL m)
theorem keysL_at (m : List Tm) (j : Nat) (hj : j < m.length) : (numL (keysL m))[j]? = some (.int .i64 (m.getD j tm0).key) := by
  unfold numL keysL
  rw [List.getElem?_map, List.getElem?_map, List.getElem?_eq_getElem hj, List.getD_eq_getElem?_getD, List.getElem?_eq_getElem hj]; rfl
theorem duesL_at (m : List Tm) (j : Nat) (hj : j < m.length) : (numL (duesL m))[j]? = some (.int .i64 (m.getD j tm0).due) := by
  unfold numL duesL
  rw [List.getElem?_map, List.getElem?_map, List.getElem?_eq_getElem hj, List.getD_eq_getElem?_getD, List.getElem?_eq_getElem hj]; rfl
theorem keys_len (m : List Tm) : (keysL m).length = m.length := by unfold keysL; rw [List.length_map]
theorem dues_len (m : List Tm) : (duesL m).length = m.length := by unfold duesL; rw [List.length_map]
/-- Its cells: the two rows, and their j-th numbers. -/
theorem RefAt.open_ {w : World} {g lo : Nat} {m : List Tm} (h : RefAt w g m lo) : g < w.heap.size ∧ ∃ A c A' c', Blk w g 29 #[.slice A m.length c, .slice A' m.length c'] ∧ Pair w lo A c (keysL m) A' c' (duesL m) ∧
    (∀ j, j < m.length → ∃ b, A = some ⟨b, 0, none⟩ ∧ b < w.heap.size ∧ w.cell? ⟨b, j, none⟩ = some (.int .i64 (m.getD j tm0).key)) ∧ (∀ j, j < m.length → ∃ b, A' = some ⟨b, 0, none⟩ ∧ b < w.heap.size ∧ w.cell? ⟨b, j, none⟩ = some (.int .i64 (m.getD j tm0).due)) := by
  obtain ⟨A, c, A', c', hb, hp⟩ := h
  refine ⟨hb.lt, A, c, A', c', hb, hp, fun j hj => ?_, fun j hj => ?_⟩
  · have hk := hp.k
    unfold OwnN at hk
    rw [keys_len] at hk
    obtain ⟨b, e, hl, hc⟩ := own_at hk (by omega)
    exact ⟨b, e, hl, hc j _ (keysL_at m j hj)⟩
  · have hk := hp.d
    unfold OwnN at hk
    rw [dues_len] at hk
    obtain ⟨b, e, hl, hc⟩ := own_at hk (by omega)
    exact ⟨b, e, hl, hc j _ (duesL_at m j hj)⟩
theorem stop_take (key : Int) (m : List Tm) (j : Nat) (hj : j < m.length) : stopT key (m.take (j + 1)) = stopT key (m.take j) ++ if (m.getD j tm0).key = key then [] else [m.getD j tm0] := by
  have e : m.getD j tm0 = m[j] := by simp [List.getD_eq_getElem?_getD, List.getElem?_eq_getElem hj]
  rw [List.take_succ_eq_append_getElem hj, e]
  unfold stopT
  rw [List.filter_append]
  congr 1
  by_cases h : m[j].key = key <;> simp [h]
theorem stop_len (key : Int) (m : List Tm) : (stopT key m).length ≤ m.length := List.length_filter_le _ _
structure StopSt (w wr : World) (A1 : Option Addr) (c1 : Nat) (A2 : Option Addr) (c2 : Nat) (m : List Tm) : Prop where
  pair : Pair wr w.heap.size A1 c1 (keysL m) A2 c2 (duesL m)
  bel : Below w.heap.size w wr
set_option maxHeartbeats 4000000 in
theorem rstop_any (g : Nat) (m : List Tm) (lo : Nat) (key : Int) (w : World) (h : RefAt w g m lo) (hfew : m.length ≤ 1047000) :
    Calls Try.prog 19 #[.pointer (some ⟨g, 0, none⟩), .int .i64 key] w fun e w' => e = .returned (.tuple #[]) ∧ RefAt w' g (stopT key m) w.heap.size ∧ Touch (fun k => k = g) w w' := by
  obtain ⟨hgl, A, c, A', c', hb, hp, hkc, hdc⟩ := h.open_
  obtain ⟨n, hnn⟩ : ∃ n, m.length = n := ⟨_, rfl⟩
  have c0 : w.cell? ⟨g, 0, none⟩ = some (.slice A n c) := by rw [← hnn]; exact hb.cell 0
  rw [hnn] at hb hkc hdc
  have HN := Lib.hid (And.intro hnn hfew)
  have HO := Lib.hid (And.intro hb (And.intro hkc (And.intro hdc hgl)))
  clear h hb hp hkc hdc hnn hfew hgl
  go_enter Try.func19, Try.ntmps19
  go_wp2_with fail
  clear c0
  go_loopw [4, 5, 13] (fun kv dv iv wr => ∃ (j : Nat) (A1 : Option Addr) (c1 : Nat) (A2 : Option Addr) (c2 L : Nat), j ≤ n ∧ iv = .int .i64 j ∧ kv = .slice A1 L c1 ∧ dv = .slice A2 L c2 ∧ Hid ((stopT key (m.take j)).length = L ∧ StopSt w wr A1 c1 A2 c2 (stopT key (m.take j)))) (fun _ _ iv _ => n - (intOf iv).toNat)
  case atStart => exact ⟨0, none, 0, none, 0, 0, Nat.zero_le _, rfl, rfl, rfl, Lib.hid ⟨rfl, ⟨World.ownsRow_nil _ _ _ _, World.ownsRow_nil _ _ _ _, fun q h => by cases h⟩, Below.refl _ _⟩⟩
  case round =>
    obtain ⟨j, A1, c1, A2, c2, L, hj, rfl, rfl, rfl, hS⟩ := hrel
    by_cases hlt : j < n
    · obtain ⟨bk, rfl, hbk, pk⟩ := HO.out.2.1 j hlt
      obtain ⟨bd, rfl, hbd, pd⟩ := HO.out.2.2.1 j hlt
      have htk := stop_take key m j (by rw [HN.out.1]; exact hlt)
      obtain ⟨x, hx⟩ : ∃ x, m.getD j tm0 = x := ⟨_, rfl⟩
      rw [hx] at pk pd htk
      have qk : wr.cell? ⟨bk, j, none⟩ = some (.int .i64 x.key) := (hS.out.2.bel.cell (p := ⟨bk, j, none⟩) hbk).trans pk
      have j1 : (j : Int) < n := by omega
      have j0 : (0 : Int) ≤ j := by omega
      have HJ := Lib.hid (show wrap64 ((j : Int) + 1) = (j : Int) + 1 from IntWalk.wrap64_in _ (by have := HN.out; omega))
      by_cases hxk : x.key = key
      · rw [if_pos hxk, List.append_nil] at htk
        have d1 : (x.key != key) = false := by simpa using hxk
        have HTK := Lib.hid htk
        clear hx pk pd htk hxk hj
        go_wp2_with fail
        go_roundw
        case rel =>
          rw [HJ.out]
          exact ⟨j + 1, A1, c1, A2, c2, L, hlt, by rw [Int.natCast_add]; rfl, rfl, rfl, by rw [HTK.out]; exact hS⟩
        case measure =>
          rw [HJ.out]
          show n - ((j : Int) + 1).toNat < n - ((j : Int)).toNat
          omega
      · rw [if_neg hxk] at htk
        have d1 : (x.key != key) = true := by simpa using hxk
        have hL : L ≤ 1047000 := by rw [← hS.out.1]; exact Nat.le_trans (stop_len _ _) (by rw [List.length_take]; have := HN.out; omega)
        obtain ⟨a1, d1', w1, hr1, hp1, hb1, hs1, hq1⟩ := hS.out.2.pair.push (n := L) (by rw [keys_len]; exact hS.out.1) (by omega) hS.out.2.bel.size x.key
        have hbel1 := hS.out.2.bel.trans hb1
        have r1 : w1.cell? ⟨g, 1, none⟩ = some (.slice (some ⟨bd, 0, none⟩) n c') := ((hbel1.cell (p := ⟨g, 1, none⟩) HO.out.2.2.2).trans (HO.out.1.cell 1))
        have r2 : w1.cell? ⟨bd, j, none⟩ = some (.int .i64 x.due) := (hbel1.cell (p := ⟨bd, j, none⟩) hbd).trans pd
        obtain ⟨a2, d2', w2, hr2, hp2, hb2, hs2, hq2⟩ := hp1.swap.push (n := L) (by rw [dues_len]; exact hS.out.1) (by omega) (Nat.le_trans hS.out.2.bel.size hs1) x.due
        have hend : (stopT key (m.take (j + 1))).length = L + 1 ∧ StopSt w w2 a1 d1' a2 d2' (stopT key (m.take (j + 1))) := by
          rw [htk]
          refine ⟨by rw [List.length_append, hS.out.1]; rfl, ?_, hbel1.trans hb2⟩
          have e1 : keysL (stopT key (m.take j) ++ [x]) = keysL (stopT key (m.take j)) ++ [x.key] := by unfold keysL; rw [List.map_append]; rfl
          have e2 : duesL (stopT key (m.take j) ++ [x]) = duesL (stopT key (m.take j)) ++ [x.due] := by unfold duesL; rw [List.map_append]; rfl
          rw [e1, e2]
          exact hp2.swap
        have HR1 := Lib.hid hr1
        have HR2 := Lib.hid hr2
        have HEND := Lib.hid hend
        clear hx pk pd htk hxk hj hr1 hp1 hb1 hs1 hq1 hbel1 hr2 hp2 hb2 hs2 hq2 hend hL
        go_wp2_with (at_builtin; first | refine Lib.wpList_append_run _ rfl _ _ _ _ rfl _ _ rfl rfl _ _ HR1.out ?_ | refine Lib.wpList_append_run _ rfl _ _ _ _ rfl _ _ rfl rfl _ _ HR2.out ?_)
        go_roundw
        case rel =>
          rw [HJ.out]
          exact ⟨j + 1, a1, d1', a2, d2', L + 1, hlt, by rw [Int.natCast_add]; rfl, rfl, rfl, HEND⟩
        case measure =>
          rw [HJ.out]
          show n - ((j : Int) + 1).toNat < n - ((j : Int)).toNat
          omega
    · obtain rfl : n = j := by omega
      have htk : m.take n = m := List.take_of_length_le (by rw [HN.out.1]; exact Nat.le_refl _)
      rw [htk] at hS
      have hbg : Blk wr g 29 #[.slice A n c, .slice A' n c'] := HO.out.1.below hS.out.2.bel HO.out.2.2.2
      have c0 : wr.cell? ⟨g, 0, none⟩ = some (.slice A n c) := hbg.cell 0
      have c1' : wr.cell? ⟨g, 1, none⟩ = some (.slice A' n c') := hbg.cell 1
      have f0 := hbg.frozen 0
      have f1 := hbg.frozen 1
      have hpair := hS.out.2.pair
      have hset : Blk ((wr.setCell ⟨g, 0, none⟩ (.slice A1 L c1)).setCell ⟨g, 1, none⟩ (.slice A2 L c2)) g 29 #[.slice A1 L c1, .slice A2 L c2] := (hbg.set_ 0 _).set_ 1 _
      have hp2 : Pair ((wr.setCell ⟨g, 0, none⟩ (.slice A1 L c1)).setCell ⟨g, 1, none⟩ (.slice A2 L c2)) w.heap.size A1 c1 (keysL (stopT key m)) A2 c2 (duesL (stopT key m)) := by
        have hnk : ∀ q, (blkOf A1 = some q ∨ blkOf A2 = some q) → g ≠ q := fun q hq e => by
          have := HO.out.2.2.2
          rcases hq with h | h
          · have := (hpair.k.lt h).1; omega
          · have := (hpair.d.lt h).1; omega
        exact hpair.heap (fun q hq => (Below.heap_setCell _ ⟨g, 1, none⟩ _ q (fun e => hnk q (.inl hq) e.symm)).trans (Below.heap_setCell wr ⟨g, 0, none⟩ _ q (fun e => hnk q (.inl hq) e.symm))) (fun q hq => (Below.heap_setCell _ ⟨g, 1, none⟩ _ q (fun e => hnk q (.inr hq) e.symm)).trans (Below.heap_setCell wr ⟨g, 0, none⟩ _ q (fun e => hnk q (.inr hq) e.symm)))
      have hfin : RefAt ((wr.setCell ⟨g, 0, none⟩ (.slice A1 L c1)).setCell ⟨g, 1, none⟩ (.slice A2 L c2)) g (stopT key m) w.heap.size ∧ Touch (fun k => k = g) w ((wr.setCell ⟨g, 0, none⟩ (.slice A1 L c1)).setCell ⟨g, 1, none⟩ (.slice A2 L c2)) :=
        ⟨⟨A1, c1, A2, c2, by rw [hS.out.1]; exact hset, hp2⟩, (((show Touch (fun k => k = g) w wr from (Below.touch hS.out.2.bel).mono (fun k hk h => absurd hk (by omega))).set_ (a := ⟨g, 0, none⟩) (fun _ => rfl) _).set_ (a := ⟨g, 1, none⟩) (fun _ => rfl) _)⟩
      have HF := Lib.hid hfin
      clear htk hbg hset hp2 hpair hfin
      go_wp2_with fail
      (try simp only [Exit.inBlock, Exit.then])
      exact bodyPost_end (results_none rfl _ _ _) rfl ⟨rfl, HF.out⟩
end Go.Proofs.Ytogghcbijdljkaa
