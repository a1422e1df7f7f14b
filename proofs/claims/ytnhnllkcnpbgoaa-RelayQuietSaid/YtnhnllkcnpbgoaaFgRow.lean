/- slices.Insert of one place into a row of one's own, and slices.Delete of one. Its condition: fewer than 2^20 places. -/
import Derived.Test.YtnhnllkcnpbgoaaPlMem
import Derived.Test.YtnhnllkcnpbgoaaFbS
import Derived.Lib.AppendZerosOnto
import Derived.Lib.Overlaps
import Derived.Laws.Externs
import Derived.Laws.IdiomCopy
import Derived.Shelf.RegionOpenPlain
import Derived.Deep.RegionLaw
namespace Go.Proofs.Ytnhnllkcnpbgoaa
open Go.RowKit
set_option maxRecDepth 100000

theorem fpl_info : (Try.prog.info? 49).map (fun i => (i.zero, i.size, i.bytes)) = some (some (.agg #[.int .i64 0, .int .i64 0, .int .i64 0, .int .i64 0, .bool false]), 5, 40) := by kernel_rfl
theorem fpl_size : (Try.prog.info? 49).map (·.size) = some 5 := by kernel_rfl
theorem plL_drop (l : List Pl) (i : Nat) : plL (l.drop i) = (plL l).drop (i * 5) := by
  induction l generalizing i with
  | nil => simp [plL]
  | cons a l ih =>
    cases i with
    | zero => simp
    | succ i =>
      rw [List.drop_succ_cons, ih, plL, show (i + 1) * 5 = a.cells.length + i * 5 by simp [Pl.cells]; omega, List.drop_append]
      simp [Nat.add_sub_cancel_left]
theorem plL_take (l : List Pl) (i : Nat) : plL (l.take i) = (plL l).take (i * 5) := by
  induction l generalizing i with
  | nil => simp [plL]
  | cons a l ih =>
    cases i with
    | zero => simp [plL]
    | succ i =>
      rw [List.take_succ_cons, plL, ih, plL, show (i + 1) * 5 = a.cells.length + i * 5 by simp [Pl.cells]; omega, List.take_append]
      simp [Nat.add_sub_cancel_left]
      exact (List.take_of_length_le (by rw [pl5_len]; omega)).symm
/-- Something is appended to a row of the program's places. -/
theorem append_f (w : World) (base : Nat) (A0 : Option Addr) (c0 : Nat) (l : List Pl) (hown : OwnL 49 w base A0 c0 l) (A : Option Addr) (c B : Nat) (m : List Pl) (hnone : A = none → c = 0) (hsrc : PlsAt w B A m) (hn : l.length + m.length ≤ 1048576) (hbase : base ≤ w.heap.size) :
    ∃ a' c' w', (Builtin.append_ #[25, 25] 25 #[.slice A0 l.length c0, .slice A m.length c]).run Try.prog w = .ok (.slice a' (l ++ m).length c') w' ∧ OwnL 49 w' base a' c' (l ++ m) ∧ w.grownBy w' (Value.slice A0 l.length c0).ownBlock ∧ Moved w (.slice A0 l.length c0) (.slice a' (l ++ m).length c') ∧ (∀ k, (Value.slice A0 l.length c0).ownBlock = some k → (Value.slice a' (l ++ m).length c').ownBlock ≠ some k → w'.heap[k]? = w.heap[k]?) := by
  obtain ⟨i0, hi0, hz0, hz1, hz2⟩ := info_parts fpl_info
  have := append_src w base 25 25 49 i0 _ 5 40 Try.underlying25 hi0 hz0 hz1 hz2 rfl (by decide) _ l.length (plL l) hown A m.length c (plL m) (plL_len m) hnone hsrc.src (plL_one m) (by unfold maxLen; omega) (by omega) hbase
  unfold OwnL
  rw [plL_app, List.length_append]
  exact this

/-- A copy of elements of k cells. -/
theorem run_copy_k {P : Program} (w : World) (dT sT ty elem : TypeId) (k : Nat) (b o dLen dCap : Nat) (a : Addr) (sLen sCap : Nat) (cs : List Value)
    (hu : P.underlying dT = some (.slice elem)) (hs : (P.info? elem).map (·.size) = some k) (hn : cs.length = Nat.min sLen dLen * k)
    (hsrc : ∀ j v, cs[j]? = some v → w.cell? (a.add j) = some v) (hc : ∀ j, j < cs.length → (w.cell? ⟨b, o + j, none⟩).isSome = true) (hf : ∀ j, j < cs.length → w.frozen? ⟨b, o + j, none⟩ = false) (h1 : ∀ v ∈ cs, v.oneCell' = true) :
    (Builtin.copy_ #[dT, sT] ty #[.slice (some ⟨b, o, none⟩) dLen dCap, .slice (some a) sLen sCap]).run P w = .ok (goInt (Nat.min sLen dLen)) (w.setCells b o cs) := by
  have hl := run_loadCells_list (P := P) w a cs hsrc
  have hst := run_storeCells_cells (P := P) b o cs 0 w (by simpa using hc) (by simpa using hf) h1
  cases hq : P.info? elem with
  | none => simp [hq] at hs
  | some i =>
    have hi : i.size = k := by simpa [hq] using hs
    simp [Builtin.copy_, run_underlying hu, Builtin.lenOf, Builtin.firstCells, sizeOf, typeInfo, hq, hi, ← hn, hl, hst]
/-- A run of stores leaves a block a block. -/
theorem setCells_blk {t : TypeId} (b : Nat) : ∀ (vs : List Value) (o : Nat) (w : World) (cur : Array Value), w.heap[b]? = some (.cells cur t (0, 0)) → ∃ cur', (w.setCells b o vs).heap[b]? = some (.cells cur' t (0, 0)) ∧ cur'.size = cur.size
  | [], _, _, cur, h => ⟨cur, h, rfl⟩
  | v :: r, o, w, cur, h => by
    obtain ⟨c2, h2, h3⟩ := setCells_blk b r (o + 1) (w.setCell ⟨b, o, none⟩ v) (cur.setIfInBounds o v) (Blk.set_ (show Blk w b t cur from h) o v)
    exact ⟨c2, h2, by simpa using h3⟩
theorem setCells_heap (b : Nat) : ∀ (vs : List Value) (o : Nat) (w : World) (k : Nat), k ≠ b → (w.setCells b o vs).heap[k]? = w.heap[k]?
  | [], _, _, _, _ => rfl
  | v :: r, o, w, k, h => (setCells_heap b r (o + 1) (w.setCell ⟨b, o, none⟩ v) k h).trans (Below.heap_setCell w ⟨b, o, none⟩ v k h)
theorem setCells_size (b : Nat) : ∀ (vs : List Value) (o : Nat) (w : World), (w.setCells b o vs).heap.size = w.heap.size
  | [], _, _ => rfl
  | v :: r, o, w => (setCells_size b r (o + 1) (w.setCell ⟨b, o, none⟩ v)).trans (by simp [World.setCell])
theorem setCells_rest (b : Nat) : ∀ (vs : List Value) (o : Nat) (w : World), (w.setCells b o vs).os = w.os ∧ (w.setCells b o vs).tape = w.tape ∧ (w.setCells b o vs).output = w.output
  | [], _, _ => ⟨rfl, rfl, rfl⟩
  | v :: r, o, w => setCells_rest b r (o + 1) (w.setCell ⟨b, o, none⟩ v)
theorem setCells_touch (b : Nat) (vs : List Value) (o : Nat) (w : World) : Touch (· = b) w (w.setCells b o vs) :=
  ⟨(setCells_rest b vs o w).1, (setCells_rest b vs o w).2.1, (setCells_rest b vs o w).2.2, by rw [setCells_size]; exact Nat.le_refl _, fun k _ hk => setCells_heap b vs o w k hk⟩
theorem isSome_set {b o : Nat} {vs : List Value} {w : World} (h : ∀ j, j < vs.length → (w.cell? ⟨b, o + j, none⟩).isSome = true) (k : Nat) (hk : (w.cell? ⟨b, k, none⟩).isSome = true) : ((w.setCells b o vs).cell? ⟨b, k, none⟩).isSome = true := by
  by_cases hin : o ≤ k ∧ k < o + vs.length
  · have := World.cell?_setCells_in b vs o w h (k - o) (by omega)
    rw [show o + (k - o) = k by omega] at this
    rw [this]; rfl
  · rw [World.cell?_setCells_out b vs o w ⟨b, k, none⟩ (fun _ _ => by show k < o ∨ o + vs.length ≤ k; omega)]
    exact hk
/-- A row of the program's own, off its cells. -/
theorem own_of_cells {w : World} {base g n c k : Nat} {e : TypeId} {cur : Array Value} {xs : List Value} (hg : w.heap[g]? = some (.cells cur e (0, 0))) (hb : base ≤ g) (hs : cur.size = c * k) (hn : n ≤ c) (hm : c ≤ maxLen) (hx : xs.length = n * k) (hc : ∀ j u, xs[j]? = some u → w.cell? ⟨g, j, none⟩ = some u) :
    w.ownsRow base e k (.slice (some ⟨g, 0, none⟩) n c) n xs := by
  refine ⟨hx, .inr ⟨g, c, cur, rfl, hb, hg, hn, hm, hs, ?_⟩⟩
  have hle : n * k ≤ cur.size := by rw [hs]; exact Nat.mul_le_mul_right _ hn
  apply List.ext_getElem?
  intro j
  rw [List.getElem?_take]
  by_cases hj : j < n * k
  · rw [if_pos hj]
    have h1 := hc j xs[j] (List.getElem?_eq_getElem (by omega))
    have h2 : w.cell? ⟨g, j, none⟩ = cur[j]? := Blk.cell (show Blk w g e cur from hg) j
    rw [List.getElem?_eq_getElem (show j < xs.length by omega), ← h1, h2, Array.getElem?_toList]
  · rw [if_neg hj, List.getElem?_eq_none (by omega)]

/-- A slot among others. -/
def insK (l : List Pl) (i : Nat) (x : Pl) : List Pl := l.take i ++ x :: l.drop i
theorem insK_length (l : List Pl) (i : Nat) (x : Pl) (h : i ≤ l.length) : (insK l i x).length = l.length + 1 := by simp [insK]; omega
theorem insK_end (l : List Pl) (x : Pl) : insK l l.length x = l ++ [x] := by simp [insK]
theorem insK_cells (l : List Pl) (i : Nat) (x : Pl) : plL (insK l i x) = (plL l).take (i * 5) ++ (x.cells ++ (plL l).drop (i * 5)) := by
  unfold insK
  rw [plL_app, plL, plL_take, plL_drop]
/-- The cells of a row with one slot more. -/
theorem ins_cell {l : List Pl} {i : Nat} {x : Pl} (hi : i ≤ l.length) {j : Nat} {u : Value} (h : (plL (insK l i x))[j]? = some u) :
    (j < i * 5 ∧ (plL l)[j]? = some u) ∨ (i * 5 ≤ j ∧ j < (i + 1) * 5 ∧ x.cells[j - i * 5]? = some u) ∨ ((i + 1) * 5 ≤ j ∧ ((plL l).drop (i * 5))[j - (i + 1) * 5]? = some u) := by
  have hl : ((plL l).take (i * 5)).length = i * 5 := by rw [List.length_take, plL_len]; omega
  rw [insK_cells] at h
  by_cases h1 : j < i * 5
  · rw [List.getElem?_append_left (by omega), List.getElem?_take, if_pos h1] at h
    exact .inl ⟨h1, h⟩
  · rw [List.getElem?_append_right (by omega), hl] at h
    by_cases h2 : j < (i + 1) * 5
    · rw [List.getElem?_append_left (by simp [Pl.cells]; omega)] at h
      exact .inr (.inl ⟨by omega, h2, h⟩)
    · rw [List.getElem?_append_right (by simp [Pl.cells]; omega)] at h
      refine .inr (.inr ⟨by omega, ?_⟩)
      rw [show j - i * 5 - x.cells.length = j - (i + 1) * 5 by simp [Pl.cells]; omega] at h
      exact h
theorem block_any (A : Option Addr) (n c n' c' : Nat) : (Value.slice A n c).ownBlock = (Value.slice A n' c').ownBlock := by cases A <;> rfl

set_option maxRecDepth 100000 in
set_option maxHeartbeats 2000000 in
/-- At the end. -/
theorem insert_end (A : Option Addr) (c : Nat) (l : List Pl) (x : Pl) (vb base : Nat) (w : World) (h : OwnL 49 w base A c l) (hn : l.length ≤ 1048000) (hv : Blk w vb 49 #[.int .i64 x.v, .int .i64 x.m, .int .i64 x.p, .int .i64 x.s, .bool x.st]) (hb : base ≤ w.heap.size) :
    Calls Try.prog 34 #[.slice A l.length c, .int .i64 (l.length : Int), .slice (some ⟨vb, 0, none⟩) 1 1] w fun e w' =>
      ∃ a' c', e = .returned (.slice a' (insK l l.length x).length c') ∧ OwnL 49 w' base a' c' (insK l l.length x) ∧ w.grownBy w' (Value.slice A l.length c).ownBlock ∧ ((Value.slice a' 0 0).ownBlock = (Value.slice A 0 0).ownBlock ∨ ∃ k, w.heap.size ≤ k ∧ (Value.slice a' 0 0).ownBlock = some k) := by
  obtain ⟨a', c', w', hr, ho, hg, hmv, _⟩ := append_f w base A c l h (some ⟨vb, 0, none⟩) 1 w.heap.size [x] (fun h => by cases h)
    (fun q hq => by
      obtain rfl : q = 0 := by simpa using hq
      exact ⟨vb, 0, rfl, hv.lt, ⟨hv.cell 0, hv.cell 1, hv.cell 2, hv.cell 3, hv.cell 4⟩⟩) (by simp; omega) hb
  have HMV : Hid ((Value.slice a' 0 0).ownBlock = (Value.slice A 0 0).ownBlock ∨ ∃ k, w.heap.size ≤ k ∧ (Value.slice a' 0 0).ownBlock = some k) := Lib.hid (by
    rcases hmv with hm | ⟨k, hk, hm⟩
    · exact .inl ((block_any _ _ _ _ _).trans (hm.trans (block_any _ _ _ _ _)))
    · exact .inr ⟨k, hk, (block_any _ _ _ _ _).trans hm⟩)
  clear hmv
  rw [insK_end]
  obtain ⟨N, hN⟩ : ∃ N, (l ++ [x]).length = N := ⟨_, rfl⟩
  obtain ⟨n, hnn⟩ : ∃ n, l.length = n := ⟨_, rfl⟩
  have hcap := (own_cap h).1
  rw [hnn] at hr hg hcap
  rw [hnn]
  rw [hN] at hr
  rw [hN]
  have HR := Lib.hid hr
  have HO := Lib.hid ho
  have HG := Lib.hid (fun n2 c2 => (show w.grownBy w' (Value.slice A n2 c2).ownBlock from block_any A n c n2 c2 ▸ hg))
  have hi0 : (0 : Int) ≤ n := by omega
  clear hr ho hg hN hnn h hn hv hb
  go_enter Try.func34, Try.ntmps34
  go_wp2_with (at_builtin; refine Lib.wpList_append_run _ rfl _ _ _ _ rfl _ _ rfl rfl _ _ HR.out ?_)
  all_goals
    go_ret
    exact ⟨a', c', rfl, HO.out, HG.out _ _, HMV.out⟩
/-- A copy in a region that draws. -/
theorem step_copy_run2 {P : Program} {ops : Array Oper} {o : Oper} {a : Act} {w : World} {K : Act → World → Prop} {Q : Exit → Act → World → Prop} {E : Prop}
    (hg : o.guard = none) (d x : Operand) (dT sT : TypeId) (hop : o.op = Op.call { callee := Callee.builtin Builtin.copy, args := #[d, x], argTypes := #[dT, sT] })
    (v u : Value) (hd : a.eval d = v) (hx : a.eval x = u) {v' : Value} {w' : World} (hr : (Builtin.copy_ #[dT, sT] o.type #[v, u]).run P w = .ok v' w') (hK : K (a.put o.dst v') w') :
    if Region.wanted o (yielded ops a.tmps) = true then Oper.wp P o a w K Q else E := by
  have hw : Region.wanted o (yielded ops a.tmps) = true := by simp [Region.wanted, hg]
  rw [if_pos hw]
  unfold Oper.wp
  simp [execOp, hop, resolve, invoke, builtin, hd, hx, hr, Result.andThen]
  exact hK
theorem wpList_copy_run2 {P : Program} (w : World) {ops : Array Oper} {rest : List Oper} {o : Oper} {a : Act} {Q : Exit → Act → World → Prop} (hgd : o.guard = none) (d s : Operand) (t t' : TypeId)
    (ho : o.op = .call { callee := .builtin .copy, args := #[d, s], argTypes := #[t, t'] }) (v u : Value) (hd : a.eval d = v) (hs : a.eval s = u) {v' : Value} {w' : World}
    (hr : (Builtin.copy_ #[t, t'] o.type #[v, u]).run P w = .ok v' w') (h : wpList P ops Q rest (a.put o.dst v') w') : wpList P ops Q (o :: rest) a w :=
  wpList_plain hgd fun _ hK => by
    unfold Oper.wp execOp
    simp only [ho, resolve, invoke, builtin, Sem.run_bind, Sem.run_pure, Result.andThen_ok, List.map_toArray, List.map_cons, List.map_nil, hd, hs, hr]
    exact hK _ _ h
set_option maxRecDepth 100000 in
set_option maxHeartbeats 2000000 in
theorem insert_room (g c i vb : Nat) (l : List Pl) (x : Pl) (base : Nat) (w : World) (h : OwnL 49 w base (some ⟨g, 0, none⟩) c l) (hn : l.length ≤ 1048000) (hv : Blk w vb 49 #[.int .i64 x.v, .int .i64 x.m, .int .i64 x.p, .int .i64 x.s, .bool x.st]) (hvg : vb ≠ g) (hi : i < l.length) (hroom : l.length + 1 ≤ c) :
    Calls Try.prog 34 #[.slice (some ⟨g, 0, none⟩) l.length c, .int .i64 (i : Int), .slice (some ⟨vb, 0, none⟩) 1 1] w fun e w' =>
      e = .returned (.slice (some ⟨g, 0, none⟩) (insK l i x).length c) ∧ OwnL 49 w' base (some ⟨g, 0, none⟩) c (insK l i x) ∧ w.grownBy w' (some g) := by
  obtain ⟨cur, hg0, hb0, hm0, hs0⟩ : ∃ cur, w.heap[g]? = some (.cells cur 49 (0, 0)) ∧ base ≤ g ∧ c ≤ maxLen ∧ cur.size = c * 5 := by
    rcases h.2 with ⟨e0, _⟩ | ⟨g', cap', cur, e0, hb, hg, hn', hm, hs, ht⟩
    · cases e0
    · injection e0 with e1 _ e3
      injection e1 with e1
      injection e1 with e1
      subst e1 e3
      exact ⟨cur, hg, hb, hm, hs⟩
  have hblk : Blk w g 49 cur := hg0
  have hold : ∀ j u, (plL l)[j]? = some u → w.cell? ⟨g, j, none⟩ = some u := fun j u hu => by
    have := h.cells (g := g) rfl j u hu
    rwa [Addr.add_lit, Nat.zero_add] at this
  have hsome : ∀ j, j < c * 5 → (w.cell? ⟨g, j, none⟩).isSome = true := fun j hj => by rw [hblk.cell, Array.getElem?_eq_getElem (by omega)]; rfl
  have hfz : ∀ j, w.frozen? ⟨g, j, none⟩ = false := fun j => hblk.frozen j
  have hdl : ((plL l).drop (i * 5)).length = (l.length - i) * 5 := by rw [List.length_drop, plL_len]; omega
  have hov : ∀ lb cb, (callFunc 39 #[.slice (some ⟨vb, 0, none⟩) 1 1, .slice (some ⟨g, (i + 1) * 5, none⟩) lb cb]).run Try.prog w = .ok (.value (.bool false)) w := fun lb cb => by
    rw [run_callFunc_extern Try.func39 (by kernel_rfl) (by kernel_rfl) (by kernel_rfl) (e := Extern.SlicesOverlaps.overlaps #[25, 25] #[4]) (by kernel_rfl),
      Lib.run_overlaps_apart w 25 4 49 Try.underlying25 5 Try.sizeOf49 ⟨vb, 0, none⟩ ⟨g, (i + 1) * 5, none⟩ 1 1 lb cb hvg 49 49 5 (c * 5)
        (by unfold Blk at hv; simp [World.shape?, hv]) (by simp [World.shape?, hg0, hs0]) (by omega) (hv.frozen 0) (hv.frozen 5)]
    rfl
  -- the first copy, then the second
  have hcp1 : ∀ ty dc sc, (Builtin.copy_ #[25, 25] ty #[.slice (some ⟨g, (i + 1) * 5, none⟩) (l.length - i) dc, .slice (some ⟨g, i * 5, none⟩) (l.length + 1 - i) sc]).run Try.prog w.drew = .ok (goInt (Nat.min (l.length + 1 - i) (l.length - i))) (w.drew.setCells g ((i + 1) * 5) ((plL l).drop (i * 5))) := fun ty dc sc =>
    run_copy_k w.drew _ _ ty 49 5 g ((i + 1) * 5) (l.length - i) dc ⟨g, i * 5, none⟩ (l.length + 1 - i) sc ((plL l).drop (i * 5)) Try.underlying25 fpl_size
      (by rw [hdl]; simp only [Nat.min_def]; split <;> omega)
      (fun j v hj => by rw [Addr.add_lit]; exact hold (i * 5 + j) v (by rwa [List.getElem?_drop] at hj))
      (fun j hj => hsome _ (by rw [hdl] at hj; omega)) (fun j _ => hfz _) (fun v hv => plL_one l v (List.mem_of_mem_drop hv))
  obtain ⟨W1, hW1⟩ : ∃ W1, W1 = w.drew.setCells g ((i + 1) * 5) ((plL l).drop (i * 5)) := ⟨_, rfl⟩
  have hs1 : ∀ j, j < c * 5 → (W1.cell? ⟨g, j, none⟩).isSome = true := fun j hj => by
    rw [hW1]
    exact isSome_set (w := w.drew) (fun j hj => hsome _ (by rw [hdl] at hj; omega)) _ (hsome j hj)
  have hcp2 : ∀ ty dc, (Builtin.copy_ #[25, 25] ty #[.slice (some ⟨g, i * 5, none⟩) (l.length + 1 - i) dc, .slice (some ⟨vb, 0, none⟩) 1 1]).run Try.prog W1 = .ok (goInt (Nat.min 1 (l.length + 1 - i))) (W1.setCells g (i * 5) x.cells) := fun ty dc =>
    run_copy_k W1 _ _ ty 49 5 g (i * 5) (l.length + 1 - i) dc ⟨vb, 0, none⟩ 1 1 x.cells Try.underlying25 fpl_size
      (by simp only [Nat.min_def]; split <;> simp [Pl.cells] <;> omega)
      (fun j v hj => by
        rw [Addr.add_lit, Nat.zero_add, hW1, World.cell?_setCells_out g _ _ _ _ (fun h _ => absurd h hvg)]
        exact (hv.drew.cell j).trans (by simpa [Pl.cells] using hj))
      (fun j hj => hs1 _ (by simp [Pl.cells] at hj; omega)) (fun j _ => by rw [hW1, World.frozen?_setCells]; exact hfz _) (fun v hv => by simp [Pl.cells] at hv; rcases hv with rfl | rfl | rfl | rfl | rfl <;> rfl)
  -- what lies there then
  have hfin : OwnL 49 (W1.setCells g (i * 5) x.cells) base (some ⟨g, 0, none⟩) c (insK l i x) := by
    obtain ⟨c1, h1, z1⟩ := setCells_blk g ((plL l).drop (i * 5)) ((i + 1) * 5) w.drew cur hg0
    rw [← hW1] at h1
    obtain ⟨c2, h2, z2⟩ := setCells_blk g x.cells (i * 5) W1 c1 h1
    refine own_of_cells h2 hb0 (by omega) (by rw [insK_length l i x (by omega)]; exact hroom) hm0 (by rw [plL_len]) (fun j u hu => ?_)
    rcases ins_cell (by omega) hu with ⟨q1, q2⟩ | ⟨q1, q2, q3⟩ | ⟨q1, q2⟩
    · rw [World.cell?_setCells_out g _ _ _ _ (fun _ _ => Or.inl q1), hW1, World.cell?_setCells_out g _ _ _ _ (fun _ _ => Or.inl (by show j < _; omega))]
      exact hold j u q2
    · have hlt := (List.getElem?_eq_some_iff.1 q3).1
      have := World.cell?_setCells_in g x.cells (i * 5) W1 (fun j hj => hs1 _ (by simp [Pl.cells] at hj; omega)) (j - i * 5) hlt
      rw [show i * 5 + (j - i * 5) = j by omega] at this
      rw [this, ← (List.getElem?_eq_some_iff.1 q3).2]
    · have hlt := (List.getElem?_eq_some_iff.1 q2).1
      have := World.cell?_setCells_in g ((plL l).drop (i * 5)) ((i + 1) * 5) w.drew (fun j hj => hsome _ (by rw [hdl] at hj; omega)) (j - (i + 1) * 5) hlt
      rw [show (i + 1) * 5 + (j - (i + 1) * 5) = j by omega] at this
      rw [World.cell?_setCells_out g _ _ _ _ (fun _ _ => Or.inr (by show i * 5 + _ ≤ j; simp [Pl.cells]; omega)), hW1, this, ← (List.getElem?_eq_some_iff.1 q2).2]
  have hgrow : w.grownBy (W1.setCells g (i * 5) x.cells) (some g) := by
    have t1 : Touch (· = g) w.drew W1 := by rw [hW1]; exact setCells_touch g _ _ _
    have t2 := t1.trans (setCells_touch g x.cells (i * 5) W1)
    exact ⟨t2.os, t2.tape, t2.output, t2.size, fun k hk hne => t2.block k hk (fun e => hne (by rw [e]))⟩
  rw [insK_length l i x (by omega)]
  have hm1 : c ≤ 9223372036854775807 := by unfold maxLen at hm0; omega
  obtain ⟨n, hnn⟩ : ∃ n, l.length = n := ⟨_, rfl⟩
  rw [hnn] at hcp1 hcp2 hi hroom hn
  rw [hnn]
  have HFIN := Lib.hid (And.intro hfin hgrow)
  have HC1 := Lib.hid hcp1
  have HC2 := Lib.hid hcp2
  have HW1 := Lib.hid hW1
  have w1 : IntKind.i64.wrap ((i : Int) + 1) = (i : Int) + 1 := IntWalk.i64_in _ (by omega)
  have w2 : IntKind.i64.wrap ((n : Int) + 1) = (n : Int) + 1 := IntWalk.i64_in _ (by omega)
  have b1 : (0 : Int) ≤ i := by omega
  have b2 : ¬ ((i : Int) = (n : Int)) := by omega
  have b3 : ((i : Int) == (n : Int)) = false := by rw [beq_eq_false_iff_ne]; exact b2
  have b4 : ¬ ((c : Int) < (n : Int) + 1) := by omega
  have b5 : (i : Int) ≤ n := by omega
  have b6 : ¬ (c = i) := by omega
  have b7 : ¬ (c = i + 1) := by omega
  have b8 : (0 : Int) ≤ (i : Int) + 1 := by omega
  have b9 : (i : Int) + 1 ≤ (n : Int) + 1 := by omega
  have b10 : ((i : Int) + 1).toNat = i + 1 := by omega
  have b11 : ((n : Int) + 1).toNat = n + 1 := by omega
  have b12 : (n : Int) + 1 ≤ c := by omega
  have b13 : (i : Int) ≤ (n : Int) + 1 := by omega
  clear hcp1 hcp2 hfin hgrow hW1 h hn hv hvg hnn hg0 hb0 hm0 hs0 hblk hold hsome hfz hdl hs1 hroom hi
  go_enter Try.func34, Try.ntmps34
  go_wp2_with (simp only [hov])
  clear hov
  have hc1 := HC1.out 3 (c - (i + 1)) (c - i)
  rw [← HW1.out] at hc1
  go_region_law (fail)
  go_wp2_with (with_reducible refine wpList_copy_run2 _ rfl (.tmp 80) (.tmp 81) 25 25 rfl _ _ rfl rfl (HC2.out _ _) ?_)
  go_ret
  exact ⟨rfl, HFIN.out.1, HFIN.out.2⟩
theorem zero_size (k : Nat) : (Builtin.zeroCells (Value.agg #[.int .i64 0, .int .i64 0, .int .i64 0, .int .i64 0, .bool false]).cells k).size = k * 5 := by
  simp [Builtin.zeroCells, Value.cells]
set_option maxRecDepth 100000 in
set_option maxHeartbeats 4000000 in
theorem insert_grow (g c i vb : Nat) (l : List Pl) (x : Pl) (base : Nat) (w : World) (h : OwnL 49 w base (some ⟨g, 0, none⟩) c l) (hn : l.length ≤ 1048000) (hv : Blk w vb 49 #[.int .i64 x.v, .int .i64 x.m, .int .i64 x.p, .int .i64 x.s, .bool x.st]) (hi : i < l.length) (hroom : c < l.length + 1) (hbase : base ≤ w.heap.size) :
    Calls Try.prog 34 #[.slice (some ⟨g, 0, none⟩) l.length c, .int .i64 (i : Int), .slice (some ⟨vb, 0, none⟩) 1 1] w fun e w' =>
      ∃ a' c', e = .returned (.slice a' (insK l i x).length c') ∧ OwnL 49 w' base a' c' (insK l i x) ∧ Below w.heap.size w w' ∧ (Value.slice a' 0 0).ownBlock = some w.heap.size := by
  have hcap := (own_cap h).1
  have hgl := (World.ownsRow.lt h g rfl).2
  have hold : ∀ j u, (plL l)[j]? = some u → w.cell? ⟨g, j, none⟩ = some u := fun j u hu => by
    have := h.cells (g := g) rfl j u hu
    rwa [Addr.add_lit, Nat.zero_add] at this
  have hdl : ((plL l).drop (i * 5)).length = (l.length - i) * 5 := by rw [List.length_drop, plL_len]; omega
  obtain ⟨i0, hi0, hz0, hz1, hz2⟩ := info_parts fpl_info
  have hfc : (Builtin.firstCells i0.size i (.slice (some ⟨g, 0, none⟩) i c)).run Try.prog w.drew = .ok (plL (l.take i)).toArray w.drew := by
    rw [hz1]
    exact run_firstCells_some w.drew 5 i ⟨g, 0, none⟩ i c (plL (l.take i)) (by rw [plL_len, List.length_take]; omega) (fun j v hj => by
      rw [Addr.add_lit, Nat.zero_add]
      rw [plL_take, List.getElem?_take] at hj
      split at hj
      · exact hold j v hj
      · cases hj)
  have hik : i + (l.length + 1 - i) = l.length + 1 := by omega
  have hrz : ∀ ty, (Builtin.append_ #[25, 3] ty #[.slice (some ⟨g, 0, none⟩) i c, .int .i64 ((l.length : Int) + 1 - (i : Int))]).run Try.prog w =
      .ok (.slice (some ⟨w.heap.size, 0, none⟩) (l.length + 1) (grownCap w (l.length + 1) c 49)) (w.drew.alloc (.cells ((plL (l.take i)).toArray ++ Builtin.zeroCells (Value.agg #[.int .i64 0, .int .i64 0, .int .i64 0, .int .i64 0, .bool false]).cells (l.length + 1 - i) ++ Builtin.zeroCells (Value.agg #[.int .i64 0, .int .i64 0, .int .i64 0, .int .i64 0, .bool false]).cells (grownCap w (l.length + 1) c 49 - (l.length + 1))) 49)) := fun ty => by
    have h := Lib.run_append_grow_zeros w 25 3 ty 49 i0 _ .i64 .i64 Try.underlying25 Try.underlying3 hi0 hz0 (some ⟨g, 0, none⟩) i c _ hfc (l.length + 1 - i) (by omega) (by omega) (by omega) (by omega) (by rw [hz2]; omega) (by rw [hz2, hik]; exact growslice_fits hroom (by omega))
    rw [hik] at h
    rw [show (l.length : Int) + 1 - (i : Int) = ((l.length + 1 - i : Nat) : Int) by omega]
    exact h
  obtain ⟨G, hG⟩ : ∃ G, G = grownCap w (l.length + 1) c 49 := ⟨_, rfl⟩
  obtain ⟨ROW, hROW⟩ : ∃ ROW : Array Value, ROW = (plL (l.take i)).toArray ++ Builtin.zeroCells (Value.agg #[.int .i64 0, .int .i64 0, .int .i64 0, .int .i64 0, .bool false]).cells (l.length + 1 - i) ++ Builtin.zeroCells (Value.agg #[.int .i64 0, .int .i64 0, .int .i64 0, .int .i64 0, .bool false]).cells (G - (l.length + 1)) := ⟨_, rfl⟩
  rw [← hG, ← hROW] at hrz
  have hGn : l.length + 1 ≤ G := by rw [hG]; exact grownCap_ge w _ _ _
  have hGm : G ≤ maxLen := by rw [hG]; exact grownCap_le_maxLen w _ _ _ (by unfold maxLen; omega)
  have hRs : ROW.size = G * 5 := by
    rw [hROW, Array.size_append, Array.size_append, zero_size, zero_size]
    simp only [List.size_toArray, plL_len, List.length_take]
    omega
  have hRold : ∀ j u, j < i * 5 → (plL l)[j]? = some u → ROW[j]? = some u := fun j u hj hu => by
    rw [hROW, Array.getElem?_append_left (by simp only [Array.size_append, List.size_toArray, plL_len, List.length_take]; omega), Array.getElem?_append_left (by simp only [List.size_toArray, plL_len, List.length_take]; omega)]
    rw [List.getElem?_toArray, plL_take, List.getElem?_take, if_pos hj]
    exact hu
  have hnb := Blk.new w 49 ROW
  have hvb := hv.alloc (.cells ROW 49)
  obtain ⟨N, hN⟩ : ∃ N, w.heap.size = N := ⟨_, rfl⟩
  have hoW : ∀ j u, (plL l)[j]? = some u → (w.alloc (.cells ROW 49)).cell? ⟨g, j, none⟩ = some u := fun j u hu => (World.cell?_of_block (Below.heap_alloc w _ g hgl)).trans (hold j u hu)
  have bW := (Below.refl w.heap.size w).alloc (Nat.le_refl _) (.cells ROW 49)
  rw [hN] at hnb hrz hgl hbase
  obtain ⟨W1, hW1⟩ : ∃ W1, w.alloc (.cells ROW 49) = W1 := ⟨_, rfl⟩
  rw [hW1] at hnb hvb hoW bW
  have hW1d : w.drew.alloc (.cells ROW 49) = W1.drew := by rw [← hW1]; rfl
  rw [hW1d] at hrz
  have hNs : ∀ j, j < (l.length + 1) * 5 → (W1.drew.cell? ⟨N, j, none⟩).isSome = true := fun j hj => by rw [hnb.drew.cell, Array.getElem?_eq_getElem (by omega)]; rfl
  have hvN : vb ≠ N := by have := hv.lt; omega
  have hcpA : ∀ ty dc, (Builtin.copy_ #[25, 25] ty #[.slice (some ⟨N, i * 5, none⟩) (l.length + 1 - i) dc, .slice (some ⟨vb, 0, none⟩) 1 1]).run Try.prog W1.drew = .ok (goInt (Nat.min 1 (l.length + 1 - i))) (W1.drew.setCells N (i * 5) x.cells) := fun ty dc =>
    run_copy_k W1.drew _ _ ty 49 5 N (i * 5) (l.length + 1 - i) dc ⟨vb, 0, none⟩ 1 1 x.cells Try.underlying25 fpl_size
      (by simp only [Nat.min_def]; split <;> simp [Pl.cells] <;> omega)
      (fun j v hj => by
        rw [Addr.add_lit, Nat.zero_add]
        exact (hvb.drew.cell j).trans (by simpa [Pl.cells] using hj))
      (fun j hj => hNs _ (by simp [Pl.cells] at hj; omega)) (fun j _ => hnb.frozen _) (fun v hv => by simp [Pl.cells] at hv; rcases hv with rfl | rfl | rfl | rfl | rfl <;> rfl)
  obtain ⟨W2, hW2⟩ : ∃ W2, W2 = W1.drew.setCells N (i * 5) x.cells := ⟨_, rfl⟩
  have hN2 : ∀ j, j < (l.length + 1) * 5 → (W2.cell? ⟨N, j, none⟩).isSome = true := fun j hj => by
    rw [hW2]
    exact isSome_set (w := W1.drew) (fun j hj => hNs _ (by simp [Pl.cells] at hj; omega)) _ (hNs j hj)
  have hcpB : ∀ ty dc sc, (Builtin.copy_ #[25, 25] ty #[.slice (some ⟨N, (i + 1) * 5, none⟩) (l.length - i) dc, .slice (some ⟨g, i * 5, none⟩) (l.length - i) sc]).run Try.prog W2.drew = .ok (goInt (Nat.min (l.length - i) (l.length - i))) (W2.drew.setCells N ((i + 1) * 5) ((plL l).drop (i * 5))) := fun ty dc sc =>
    run_copy_k W2.drew _ _ ty 49 5 N ((i + 1) * 5) (l.length - i) dc ⟨g, i * 5, none⟩ (l.length - i) sc ((plL l).drop (i * 5)) Try.underlying25 fpl_size
      (by rw [hdl]; simp only [Nat.min_def]; split <;> omega)
      (fun j v hj => by
        rw [Addr.add_lit]
        show W2.cell? _ = _
        rw [hW2, World.cell?_setCells_out N _ _ _ _ (fun h _ => absurd h (by show g ≠ N; omega))]
        exact hoW (i * 5 + j) v (by rwa [List.getElem?_drop] at hj))
      (fun j hj => hN2 _ (by rw [hdl] at hj; omega)) (fun j _ => by show W2.frozen? _ = _; rw [hW2, World.frozen?_setCells]; exact hnb.frozen _) (fun v hv => plL_one l v (List.mem_of_mem_drop hv))
  obtain ⟨W3, hW3⟩ : ∃ W3, W3 = W2.drew.setCells N ((i + 1) * 5) ((plL l).drop (i * 5)) := ⟨_, rfl⟩
  have hfin : OwnL 49 W3 base (some ⟨N, 0, none⟩) G (insK l i x) := by
    obtain ⟨c1, h1, z1⟩ := setCells_blk N x.cells (i * 5) W1.drew ROW hnb
    rw [← hW2] at h1
    obtain ⟨c2, h2, z2⟩ := setCells_blk N ((plL l).drop (i * 5)) ((i + 1) * 5) W2.drew c1 h1
    rw [← hW3] at h2
    refine own_of_cells h2 hbase (by omega) (by rw [insK_length l i x (by omega)]; exact hGn) hGm (by rw [plL_len]) (fun j u hu => ?_)
    rcases ins_cell (by omega) hu with ⟨q1, q2⟩ | ⟨q1, q2, q3⟩ | ⟨q1, q2⟩
    · rw [hW3, World.cell?_setCells_out N _ _ _ _ (fun _ _ => Or.inl (by show j < _; omega))]
      show W2.cell? _ = _
      rw [hW2, World.cell?_setCells_out N _ _ _ _ (fun _ _ => Or.inl q1)]
      exact (hnb.drew.cell j).trans (hRold j u q1 q2)
    · have hlt := (List.getElem?_eq_some_iff.1 q3).1
      have := World.cell?_setCells_in N x.cells (i * 5) W1.drew (fun j hj => hNs _ (by simp [Pl.cells] at hj; omega)) (j - i * 5) hlt
      rw [show i * 5 + (j - i * 5) = j by omega] at this
      rw [hW3, World.cell?_setCells_out N _ _ _ _ (fun _ _ => Or.inl (by show j < _; omega))]
      show W2.cell? _ = _
      rw [hW2, this, ← (List.getElem?_eq_some_iff.1 q3).2]
    · have hlt := (List.getElem?_eq_some_iff.1 q2).1
      have := World.cell?_setCells_in N ((plL l).drop (i * 5)) ((i + 1) * 5) W2.drew (fun j hj => hN2 _ (by rw [hdl] at hj; omega)) (j - (i + 1) * 5) hlt
      rw [show (i + 1) * 5 + (j - (i + 1) * 5) = j by omega] at this
      rw [hW3, this, ← (List.getElem?_eq_some_iff.1 q2).2]
  have hbel : Below N w W3 := by
    have t1 : Touch (· = N) W1.drew W2 := by rw [hW2]; exact setCells_touch N _ _ _
    have t2 : Touch (· = N) W2.drew W3 := by rw [hW3]; exact setCells_touch N _ _ _
    have t3 : Touch (· = N) W1 W3 := ⟨t2.os.trans t1.os, t2.tape.trans t1.tape, t2.output.trans t1.output, Nat.le_trans t1.size t2.size, fun k hk hp => (t2.block k (Nat.lt_of_lt_of_le hk t1.size) hp).trans (t1.block k hk hp)⟩
    rw [hN] at bW
    exact bW.trans (t3.below (by have := bW.size; omega) (fun k hk => by omega))
  rw [insK_length l i x (by omega)]
  obtain ⟨n, hnn⟩ : ∃ n, l.length = n := ⟨_, rfl⟩
  rw [hnn] at hrz hcpA hcpB hi hroom hcap hn hGn
  rw [hnn, hN]
  have HFIN := Lib.hid (And.intro hfin hbel)
  have HRZ := Lib.hid hrz
  have HCA := Lib.hid hcpA
  have HCB := Lib.hid hcpB
  have HW2 := Lib.hid hW2
  have HW3 := Lib.hid hW3
  have hcA := hcpA 3 (G - i)
  rw [← hW2] at hcA
  have hcB := hcpB 3 (G - (i + 1)) (c - i)
  rw [← hW3] at hcB
  have w1 : IntKind.i64.wrap ((i : Int) + 1) = (i : Int) + 1 := IntWalk.i64_in _ (by omega)
  have w2 : IntKind.i64.wrap ((n : Int) + 1) = (n : Int) + 1 := IntWalk.i64_in _ (by omega)
  have hG63 : G ≤ 9223372036854775807 := by unfold maxLen at hGm; omega
  have b1 : (0 : Int) ≤ i := by omega
  have b2 : ¬ ((i : Int) = (n : Int)) := by omega
  have b3 : ((i : Int) == (n : Int)) = false := by rw [beq_eq_false_iff_ne]; exact b2
  have b4 : (c : Int) < (n : Int) + 1 := by omega
  have b5 : (i : Int) ≤ n := by omega
  have b6 : ¬ (c = i) := by omega
  have b7 : ¬ (G = i) := by omega
  have b7' : ¬ (G = i + 1) := by omega
  have b8 : (0 : Int) ≤ (i : Int) + 1 := by omega
  have b9 : (i : Int) + 1 ≤ (n : Int) + 1 := by omega
  have b10 : ((i : Int) + 1).toNat = i + 1 := by omega
  have b11 : (i : Int) ≤ (n : Int) + 1 := by omega
  have b12 : (i : Int) ≤ c := by omega
  have b13 : (0 : Int) ≤ (n : Int) + 1 - i := by omega
  have w4 : IntKind.i64.wrap ((n : Int) + 1 - (i : Int)) = (n : Int) + 1 - (i : Int) := IntWalk.i64_in _ (by omega)
  have w3 : wrap64 ((n : Int) + 1 - (i : Int)) = (n : Int) + 1 - (i : Int) := IntWalk.wrap64_in _ (by omega)
  clear hrz hcpA hcpB hfin hbel hW1 hW1d hW2 hW3 h hn hv hvb hnb hoW bW hNs hN2 hvN hnn hold hdl hfc hik hG hROW hRs hRold hGm hi0 hz0 hz1 hz2 hroom hi hcap hgl hbase hN hGn
  go_enter Try.func34, Try.ntmps34
  go_wp2_with (at_builtin; refine Lib.wpList_append_run _ rfl _ _ _ _ rfl _ _ rfl rfl _ _ (HRZ.out 25) ?_)
  go_region_law (fail)
  go_wp2_with fail
  go_ret
  exact ⟨_, _, rfl, HFIN.out.1, HFIN.out.2, rfl⟩
theorem grown_below {w w' : World} {r : Option Nat} (h : Below w.heap.size w w') : w.grownBy w' r := ⟨h.os, h.tape, h.output, h.size, fun k hk _ => h.block k hk⟩
/-- Wherever. -/
theorem insert_any (A : Option Addr) (c i vb : Nat) (l : List Pl) (x : Pl) (base : Nat) (w : World) (h : OwnL 49 w base A c l) (hn : l.length ≤ 1048000) (hv : Blk w vb 49 #[.int .i64 x.v, .int .i64 x.m, .int .i64 x.p, .int .i64 x.s, .bool x.st]) (hvA : (Value.slice A l.length c).ownBlock ≠ some vb) (hi : i ≤ l.length) (hbase : base ≤ w.heap.size) :
    Calls Try.prog 34 #[.slice A l.length c, .int .i64 (i : Int), .slice (some ⟨vb, 0, none⟩) 1 1] w fun e w' =>
      ∃ a' c', e = .returned (.slice a' (insK l i x).length c') ∧ OwnL 49 w' base a' c' (insK l i x) ∧ w.grownBy w' (Value.slice A l.length c).ownBlock ∧ ((Value.slice a' 0 0).ownBlock = (Value.slice A 0 0).ownBlock ∨ ∃ k, w.heap.size ≤ k ∧ (Value.slice a' 0 0).ownBlock = some k) := by
  by_cases he : i = l.length
  · subst he
    exact insert_end A c l x vb base w h hn hv hbase
  · obtain ⟨g, cap, e, _, _⟩ := h.form (show 0 < l.length by omega)
    injection e with e1 _ e3
    subst e1 e3
    by_cases hr : l.length + 1 ≤ c
    · refine (insert_room g c i vb l x base w h hn hv (fun e => hvA (by rw [e]; rfl)) (by omega) hr).mono fun e w' hh => ?_
      exact ⟨_, _, hh.1, hh.2.1, hh.2.2, .inl rfl⟩
    · refine (insert_grow g c i vb l x base w h hn hv (by omega) (by omega) hbase).mono fun e w' hh => ?_
      obtain ⟨a', c', h1, h2, h3, h4⟩ := hh
      exact ⟨a', c', h1, h2, grown_below h3, .inr ⟨_, Nat.le_refl _, h4⟩⟩
end Go.Proofs.Ytnhnllkcnpbgoaa
