/- slices.Insert of one timer: at the end, in place where there is room, else in a new row. Its condition: fewer than 2^20 timers. -/
import Derived.Test.YtogghcbijdljkaaWfind
import Derived.Lib.AppendZerosOnto
import Derived.Lib.Overlaps
import Derived.Laws.Externs
import Derived.Laws.IdiomCopy
import Derived.Shelf.RegionOpenPlain
namespace Go.Proofs.Ytogghcbijdljkaa
open Go.RowKit
set_option maxRecDepth 100000

/-- A copy of elements of k cells. -/
theorem run_copy_k {P : Program} (w : World) (dT sT ty elem : TypeId) (k : Nat) (b o dLen dCap : Nat) (a : Addr) (sLen sCap : Nat) (cs : List Value)
    (hu : P.underlying dT = some (.slice elem)) (hs : (P.info? elem).map (·.size) = some k) (hn : cs.length = Nat.min sLen dLen * k)
    (hsrc : ∀ j v, cs[j]? = some v → w.cell? (a.add j) = some v) (hc : ∀ j, j < cs.length → (w.cell? ⟨b, o + j, none⟩).isSome = true) (hf : ∀ j, j < cs.length → w.frozen? ⟨b, o + j, none⟩ = false) (h1 : ∀ v ∈ cs, v.oneCell' = true) :
    (Builtin.copy_ #[dT, sT] ty #[.slice (some ⟨b, o, none⟩) dLen dCap, .slice (some a) sLen sCap]).run P w = .ok (goInt (Nat.min sLen dLen)) (w.setCells b o cs) := by
  have hl := run_loadCells_list (P := P) w a cs hsrc
  have hst := run_storeCells_cells (P := P) b o cs 0 w (by simpa using hc) (by simpa using hf) h1
  cases hq : P.info? elem with
  | none => simp [hq] at hs
  | some i =>
    have hi : i.size = k := by simpa [hq] using hs
    simp [Builtin.copy_, run_underlying hu, Builtin.lenOf, Builtin.firstCells, sizeOf, typeInfo, hq, hi, ← hn, hl, hst]
/-- A run of stores leaves a block a block. -/
theorem setCells_blk {t : TypeId} (b : Nat) : ∀ (vs : List Value) (o : Nat) (w : World) (cur : Array Value), w.heap[b]? = some (.cells cur t (0, 0)) → ∃ cur', (w.setCells b o vs).heap[b]? = some (.cells cur' t (0, 0)) ∧ cur'.size = cur.size
  | [], _, _, cur, h => ⟨cur, h, rfl⟩
  | v :: r, o, w, cur, h => by
    obtain ⟨c2, h2, h3⟩ := setCells_blk b r (o + 1) (w.setCell ⟨b, o, none⟩ v) (cur.setIfInBounds o v) (Blk.set_ (show Blk w b t cur from h) o v)
    exact ⟨c2, h2, by simpa using h3⟩
theorem setCells_heap (b : Nat) : ∀ (vs : List Value) (o : Nat) (w : World) (k : Nat), k ≠ b → (w.setCells b o vs).heap[k]? = w.heap[k]?
  | [], _, _, _, _ => rfl
  | v :: r, o, w, k, h => (setCells_heap b r (o + 1) (w.setCell ⟨b, o, none⟩ v) k h).trans (Below.heap_setCell w ⟨b, o, none⟩ v k h)
theorem setCells_size (b : Nat) : ∀ (vs : List Value) (o : Nat) (w : World), (w.setCells b o vs).heap.size = w.heap.size
  | [], _, _ => rfl
  | v :: r, o, w => (setCells_size b r (o + 1) (w.setCell ⟨b, o, none⟩ v)).trans (by simp [World.setCell])
theorem setCells_rest (b : Nat) : ∀ (vs : List Value) (o : Nat) (w : World), (w.setCells b o vs).os = w.os ∧ (w.setCells b o vs).tape = w.tape ∧ (w.setCells b o vs).output = w.output
  | [], _, _ => ⟨rfl, rfl, rfl⟩
  | v :: r, o, w => setCells_rest b r (o + 1) (w.setCell ⟨b, o, none⟩ v)
theorem setCells_touch (b : Nat) (vs : List Value) (o : Nat) (w : World) : Touch (· = b) w (w.setCells b o vs) :=
  ⟨(setCells_rest b vs o w).1, (setCells_rest b vs o w).2.1, (setCells_rest b vs o w).2.2, by rw [setCells_size]; exact Nat.le_refl _, fun k _ hk => setCells_heap b vs o w k hk⟩
theorem isSome_set {b o : Nat} {vs : List Value} {w : World} (h : ∀ j, j < vs.length → (w.cell? ⟨b, o + j, none⟩).isSome = true) (k : Nat) (hk : (w.cell? ⟨b, k, none⟩).isSome = true) : ((w.setCells b o vs).cell? ⟨b, k, none⟩).isSome = true := by
  by_cases hin : o ≤ k ∧ k < o + vs.length
  · have := World.cell?_setCells_in b vs o w h (k - o) (by omega)
    rw [show o + (k - o) = k by omega] at this
    rw [this]; rfl
  · rw [World.cell?_setCells_out b vs o w ⟨b, k, none⟩ (fun _ _ => by show k < o ∨ o + vs.length ≤ k; omega)]
    exact hk
/-- A row of the program's own, off its cells. -/
theorem own_of_cells {w : World} {base g n c k : Nat} {e : TypeId} {cur : Array Value} {xs : List Value} (hg : w.heap[g]? = some (.cells cur e (0, 0))) (hb : base ≤ g) (hs : cur.size = c * k) (hn : n ≤ c) (hm : c ≤ maxLen) (hx : xs.length = n * k) (hc : ∀ j u, xs[j]? = some u → w.cell? ⟨g, j, none⟩ = some u) :
    w.ownsRow base e k (.slice (some ⟨g, 0, none⟩) n c) n xs := by
  refine ⟨hx, .inr ⟨g, c, cur, rfl, hb, hg, hn, hm, hs, ?_⟩⟩
  have hle : n * k ≤ cur.size := by rw [hs]; exact Nat.mul_le_mul_right _ hn
  apply List.ext_getElem?
  intro j
  rw [List.getElem?_take]
  by_cases hj : j < n * k
  · rw [if_pos hj]
    have h1 := hc j xs[j] (List.getElem?_eq_getElem (by omega))
    have h2 : w.cell? ⟨g, j, none⟩ = cur[j]? := Blk.cell (show Blk w g e cur from hg) j
    rw [List.getElem?_eq_getElem (show j < xs.length by omega), ← h1, h2, Array.getElem?_toList]
  · rw [if_neg hj, List.getElem?_eq_none (by omega)]

/-- A timer among others. -/
def insT (l : List Tm) (i : Nat) (x : Tm) : List Tm := l.take i ++ x :: l.drop i
theorem insT_length (l : List Tm) (i : Nat) (x : Tm) (h : i ≤ l.length) : (insT l i x).length = l.length + 1 := by simp [insT]; omega
theorem insT_end (l : List Tm) (x : Tm) : insT l l.length x = l ++ [x] := by simp [insT]
theorem insT_cells (l : List Tm) (i : Nat) (x : Tm) : tmL (insT l i x) = (tmL l).take (i * 2) ++ (x.cells ++ (tmL l).drop (i * 2)) := by
  unfold insT
  rw [tmL_append, tmL, tmL_take, tmL_drop]
/-- The cells of a row with one timer more. -/
theorem ins_cell {l : List Tm} {i : Nat} {x : Tm} (hi : i ≤ l.length) {j : Nat} {u : Value} (h : (tmL (insT l i x))[j]? = some u) :
    (j < i * 2 ∧ (tmL l)[j]? = some u) ∨ (i * 2 ≤ j ∧ j < (i + 1) * 2 ∧ x.cells[j - i * 2]? = some u) ∨ ((i + 1) * 2 ≤ j ∧ ((tmL l).drop (i * 2))[j - (i + 1) * 2]? = some u) := by
  have hl : ((tmL l).take (i * 2)).length = i * 2 := by rw [List.length_take, tmL_length]; omega
  rw [insT_cells] at h
  by_cases h1 : j < i * 2
  · rw [List.getElem?_append_left (by omega), List.getElem?_take, if_pos h1] at h
    exact .inl ⟨h1, h⟩
  · rw [List.getElem?_append_right (by omega), hl] at h
    by_cases h2 : j < (i + 1) * 2
    · rw [List.getElem?_append_left (by simp [Tm.cells]; omega)] at h
      exact .inr (.inl ⟨by omega, h2, h⟩)
    · rw [List.getElem?_append_right (by simp [Tm.cells]; omega)] at h
      refine .inr (.inr ⟨by omega, ?_⟩)
      rw [show j - i * 2 - x.cells.length = j - (i + 1) * 2 by simp [Tm.cells]; omega] at h
      exact h
theorem block_any (A : Option Addr) (n c n' c' : Nat) : (Value.slice A n c).ownBlock = (Value.slice A n' c').ownBlock := by cases A <;> rfl
theorem tm_size : (Try.prog.info? 46).map (·.size) = some 2 := by kernel_rfl

set_option maxRecDepth 100000 in
set_option maxHeartbeats 2000000 in
/-- At the end. -/
theorem insert_end (A : Option Addr) (c : Nat) (l : List Tm) (x : Tm) (vb base : Nat) (w : World) (h : OwnT w base A c l) (hn : l.length ≤ 1048000) (hv : Blk w vb 46 #[.int .i64 x.due, .int .i64 x.key]) (hb : base ≤ w.heap.size) :
    Calls Try.prog 40 #[.slice A l.length c, .int .i64 (l.length : Int), .slice (some ⟨vb, 0, none⟩) 1 1] w fun e w' =>
      ∃ a' c', e = .returned (.slice a' (insT l l.length x).length c') ∧ OwnT w' base a' c' (insT l l.length x) ∧ w.grownBy w' (Value.slice A l.length c).ownBlock ∧ ((Value.slice a' 0 0).ownBlock = (Value.slice A 0 0).ownBlock ∨ ∃ k, w.heap.size ≤ k ∧ (Value.slice a' 0 0).ownBlock = some k) := by
  obtain ⟨a', c', w', hr, ho, hg, hmv, _⟩ := append_tms w base A c l h (some ⟨vb, 0, none⟩) 1 w.heap.size [x] (fun h => by cases h)
    (fun q hq => by
      obtain rfl : q = 0 := by simpa using hq
      exact ⟨vb, 0, rfl, hv.lt, hv.cell 0, hv.cell 1⟩) (by simp; omega) hb
  have HMV : Hid ((Value.slice a' 0 0).ownBlock = (Value.slice A 0 0).ownBlock ∨ ∃ k, w.heap.size ≤ k ∧ (Value.slice a' 0 0).ownBlock = some k) := Lib.hid (by
    rcases hmv with hm | ⟨k, hk, hm⟩
    · exact .inl ((block_any _ _ _ _ _).trans (hm.trans (block_any _ _ _ _ _)))
    · exact .inr ⟨k, hk, (block_any _ _ _ _ _).trans hm⟩)
  clear hmv
  rw [insT_end]
  obtain ⟨N, hN⟩ : ∃ N, (l ++ [x]).length = N := ⟨_, rfl⟩
  obtain ⟨n, hnn⟩ : ∃ n, l.length = n := ⟨_, rfl⟩
  have hcap := (own_cap h).1
  rw [hnn] at hr hg hcap
  rw [hnn]
  rw [hN] at hr
  rw [hN]
  have HR := Lib.hid hr
  have HO := Lib.hid ho
  have HG := Lib.hid (fun n2 c2 => (show w.grownBy w' (Value.slice A n2 c2).ownBlock from block_any A n c n2 c2 ▸ hg))
  have hi0 : (0 : Int) ≤ n := by omega
  clear hr ho hg hN hnn h hn hv hb
  go_enter Try.func40, Try.ntmps40
  go_wp2_with (at_builtin; refine Lib.wpList_append_run _ rfl _ _ _ _ rfl _ _ rfl rfl _ _ HR.out ?_)
  all_goals
    go_ret
    exact ⟨a', c', rfl, HO.out, HG.out _ _, HMV.out⟩
end Go.Proofs.Ytogghcbijdljkaa
