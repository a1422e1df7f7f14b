/- Rows of words in a row that grows, as the document's Bytes makes them: a new row, a word more in the last one. Its conditions: bounds on lengths. -/
import Derived.Test.YtoigapanhbmjlaaMrOwn
import Derived.Test.YtoigapanhbmjlaaMrRowsOf
namespace Go.Proofs.Ytoigapanhbmjlaa
open Go.RowKit

/-- The rows d lie as the slices cs, in blocks below B. -/
def RowsAt (w : World) (B : Nat) (cs : List Value) (d : List (List Wd)) : Prop :=
  cs.length = d.length ∧ ∀ i, i < d.length → ∃ a c, cs[i]? = some (.slice a (d.getD i []).length c) ∧ OwnW w 0 a c (d.getD i []) ∧ ∀ k, (Value.slice a (d.getD i []).length c).ownBlock = some k → k < B
def OwnO (w : World) (base : Nat) (A : Option Addr) (c : Nat) (cs : List Value) : Prop := w.ownsRow base 23 1 (.slice A cs.length c) cs.length cs
/-- Rows that the program makes: the last one can grow. -/
def RowsOwn (w : World) (base : Nat) (A : Option Addr) (c : Nat) (rs : List (List Wd)) : Prop :=
  (rs = [] ∧ A = none ∧ c = 0) ∨ ∃ d r cs a c' B1, rs = d ++ [r] ∧ OwnO w base A c (cs ++ [.slice a r.length c']) ∧ RowsAt w B1 cs d ∧ OwnW w B1 a c' r ∧ base ≤ B1 ∧ B1 ≤ w.heap.size

theorem own_heap {w w' : World} {base size n : Nat} {e : TypeId} {v : Value} {xs : List Value} (h : w.ownsRow base e size v n xs) (hk : ∀ k, v.ownBlock = some k → w'.heap[k]? = w.heap[k]?) : w'.ownsRow base e size v n xs := by
  refine ⟨h.1, ?_⟩
  rcases h.2 with hn | ⟨g, cap, cur, rfl, hb, hgg, rest⟩
  · exact .inl hn
  · exact .inr ⟨g, cap, cur, rfl, hb, by rw [hk g rfl]; exact hgg, rest⟩
theorem RowsAt.below {w w' : World} {B : Nat} {cs : List Value} {d : List (List Wd)} (h : RowsAt w B cs d) (hb : Below B w w') : RowsAt w' B cs d :=
  ⟨h.1, fun i hi => by obtain ⟨a, c, e, hw, hl⟩ := h.2 i hi; exact ⟨a, c, e, own_heap hw (fun k hk => hb.block k (hl k hk)), hl⟩⟩
theorem RowsAt.more {w : World} {B B' : Nat} {cs : List Value} {d : List (List Wd)} (h : RowsAt w B cs d) (hb : B ≤ B') : RowsAt w B' cs d :=
  ⟨h.1, fun i hi => by obtain ⟨a, c, e, hw, hl⟩ := h.2 i hi; exact ⟨a, c, e, hw, fun k hk => Nat.lt_of_lt_of_le (hl k hk) hb⟩⟩
theorem OwnW.zero {w : World} {B c : Nat} {a : Option Addr} {r : List Wd} (h : OwnW w B a c r) : OwnW w 0 a c r := by
  refine ⟨h.1, ?_⟩
  rcases h.2 with hn | ⟨g, cap, cur, e, hb, rest⟩
  · exact .inl hn
  · exact .inr ⟨g, cap, cur, e, Nat.zero_le _, rest⟩
theorem RowsAt.snoc {w : World} {B B1 : Nat} {cs : List Value} {d : List (List Wd)} (h : RowsAt w B cs d) {a : Option Addr} {c : Nat} {r : List Wd} (hw : OwnW w B1 a c r) (hB : w.heap.size ≤ B) : RowsAt w B (cs ++ [.slice a r.length c]) (d ++ [r]) := by
  have hl := h.1
  refine ⟨by simp [hl], fun i hi => ?_⟩
  by_cases hlt : i < d.length
  · obtain ⟨a', c', e, hw'⟩ := h.2 i hlt
    have e1 : (d ++ [r]).getD i [] = d.getD i [] := by simp [List.getD_eq_getElem?_getD, List.getElem?_append_left hlt]
    rw [e1]
    exact ⟨a', c', by rw [List.getElem?_append_left (by omega)]; exact e, hw'⟩
  · have hi' : i = d.length := by simp at hi; omega
    subst hi'
    have e1 : (d ++ [r]).getD d.length [] = r := by simp [List.getD_eq_getElem?_getD]
    rw [e1]
    exact ⟨a, c, by rw [List.getElem?_append_right (by omega), hl]; simp, hw.zero, fun k hk => Nat.lt_of_lt_of_le (World.ownsRow.lt hw k hk).2 hB⟩
theorem own_set {w : World} {base g n c : Nat} {e : TypeId} {xs : List Value} (h : w.ownsRow base e 1 (.slice (some ⟨g, 0, none⟩) n c) n xs) (j : Nat) (u : Value) : (w.setCell ⟨g, j, none⟩ u).ownsRow base e 1 (.slice (some ⟨g, 0, none⟩) n c) n (xs.set j u) := by
  refine ⟨by rw [List.length_set]; exact h.1, .inr ?_⟩
  rcases h.2 with ⟨h, _⟩ | ⟨g', cap, cur, he, hb, hg, hn, hm, hs, ht⟩
  · cases h
  · injection he with e1 e2 e3
    injection e1 with e1
    injection e1 with e1
    subst e1 e3
    refine ⟨g, c, cur.setIfInBounds j u, rfl, hb, ?_, hn, hm, by simpa using hs, ?_⟩
    · simp [World.setCell, Array.getElem?_modify, hg]
    · rw [Array.toList_setIfInBounds, List.take_set, ht]
theorem own_cells {w : World} {base g n c : Nat} {e : TypeId} {xs : List Value} (h : w.ownsRow base e 1 (.slice (some ⟨g, 0, none⟩) n c) n xs) (j : Nat) (u : Value) (hj : xs[j]? = some u) : w.cell? ⟨g, j, none⟩ = some u ∧ w.frozen? ⟨g, j, none⟩ = false := by
  have hlt : j < n := by
    have h1 := (List.getElem?_eq_some_iff.1 hj).1
    rw [h.1] at h1
    omega
  exact ⟨(h.cellAt (g := g) j (by omega)).trans hj, h.frozenAt j⟩
theorem bel_own {w w' : World} {base B size n : Nat} {e : TypeId} {v : Value} {xs : List Value} (h : w.ownsRow base e size v n xs) (hg : w.grownBy w' v.ownBlock) (hB : B ≤ base) (hs : B ≤ w.heap.size) : Below B w w' :=
  (Below.refl B w).grown hg hs (fun q hq => Nat.le_trans hB (World.ownsRow.lt h q hq).1)
theorem info_words : (Try.prog.info? 23).map (fun i => (i.zero, i.size, i.bytes)) = some (some (.slice none 0 0), 1, 24) := by kernel_rfl
theorem OwnW.alloc {w : World} {B c : Nat} {a : Option Addr} {r : List Wd} (h : OwnW w B a c r) (o : Obj) : OwnW (w.alloc o) B a c r := World.ownsRow.alloc h o
theorem OwnO.alloc {w : World} {B c : Nat} {a : Option Addr} {r : List Value} (h : OwnO w B a c r) (o : Obj) : OwnO (w.alloc o) B a c r := World.ownsRow.alloc h o
/-- A literal row of one word. -/
theorem own_one (w : World) (x : Wd) : OwnW (w.alloc (.cells (wcell x).toArray 43)) w.heap.size (some ⟨w.heap.size, 0, none⟩) 1 [x] :=
  ⟨rfl, .inr ⟨w.heap.size, 1, (wcell x).toArray, rfl, Nat.le_refl _, heap_alloc_new w _, Nat.le_refl _, by decide, rfl, rfl⟩⟩

/-- A new row of one word behind the others. -/
theorem rows_new {w : World} {base c : Nat} {A : Option Addr} {rs : List (List Wd)} (h : RowsOwn w base A c rs) (hb : base ≤ w.heap.size) (hn : rs.length ≤ 1048000) (x : Wd) :
    ∃ a' c' w', (Builtin.append_ #[59, 59] 59 #[.slice A rs.length c, .slice (some ⟨w.heap.size + 1, 0, none⟩) 1 1]).run Try.prog ((w.alloc (.cells #[.int .i64 x.t, .int .i64 x.v, .int .i64 x.e, .int .i64 x.b] 43)).alloc (.cells #[.slice (some ⟨w.heap.size, 0, none⟩) 1 1] 23)) = .ok (.slice a' (rs.length + 1) c') w' ∧
      RowsOwn w' base a' c' (rs ++ [[x]]) ∧ Below base w w' := by
  obtain ⟨i0, hi0, hz0, hz1, hz2⟩ := info_parts info_words
  obtain ⟨W, hW⟩ : ∃ W, (w.alloc (.cells #[.int .i64 x.t, .int .i64 x.v, .int .i64 x.e, .int .i64 x.b] 43)).alloc (.cells #[.slice (some ⟨w.heap.size, 0, none⟩) 1 1] 23) = W := ⟨_, rfl⟩
  have bW : Below w.heap.size w W := by rw [← hW]; exact ((Below.refl _ w).alloc (Nat.le_refl _) _).alloc (by simp) _
  have hsW : W.heap.size = w.heap.size + 2 := by rw [← hW]; simp
  have h1 : OwnW W w.heap.size (some ⟨w.heap.size, 0, none⟩) 1 [x] := by rw [← hW]; exact (own_one w x).alloc _
  have hc1 : W.cell? ⟨w.heap.size + 1, 0, none⟩ = some (.slice (some ⟨w.heap.size, 0, none⟩) 1 1) := by
    have := (Blk.new (w.alloc (.cells #[.int .i64 x.t, .int .i64 x.v, .int .i64 x.e, .int .i64 x.b] 43)) 23 #[.slice (some ⟨w.heap.size, 0, none⟩) 1 1]).cell 0
    rw [hW] at this
    simpa using this
  rw [hW]
  have hown : ∃ cs, cs.length = rs.length ∧ OwnO W base A c cs ∧ RowsAt W w.heap.size cs rs := by
    rcases h with ⟨rfl, rfl, rfl⟩ | ⟨d, r, cs, a, c', B1, rfl, ho, hd, hw, hbB, hB⟩
    · exact ⟨[], rfl, World.ownsRow_nil _ _ _ _, rfl, fun i hi => absurd hi (Nat.not_lt_zero _)⟩
    · refine ⟨cs ++ [.slice a r.length c'], by simp [hd.1], by rw [← hW]; exact (ho.alloc _).alloc _, ?_⟩
      exact ((hd.more hB).snoc hw (Nat.le_refl _)).below bW
  obtain ⟨cs, hl, ho, hat⟩ := hown
  have hr := append_src W base 59 59 23 i0 _ 1 24 Try.underlying59 hi0 hz0 hz1 hz2 rfl (by decide) _ cs.length cs ho (some ⟨w.heap.size + 1, 0, none⟩) 1 1 [.slice (some ⟨w.heap.size, 0, none⟩) 1 1] rfl (fun h => by cases h)
    (fun _ => ⟨w.heap.size + 1, 0, rfl, fun j u hu => by
      cases j with
      | zero => simp at hu; subst hu; rw [Nat.zero_add]; exact hc1
      | succ j => simp at hu⟩)
    (fun u hu => by rw [List.mem_singleton] at hu; subst hu; rfl) (by unfold maxLen; omega) (by omega) (by omega)
  obtain ⟨a', c', w', hrun, ho', hg, _, _⟩ := hr
  rw [hl] at hrun
  have hsz := hg.size
  refine ⟨a', c', w', hrun, .inr ⟨rs, [x], cs, some ⟨w.heap.size, 0, none⟩, 1, w.heap.size, rfl, ?_, ?_, ?_, hb, by omega⟩, (bW.mono hb).trans (bel_own ho hg (Nat.le_refl _) (by omega))⟩
  · unfold OwnO
    rw [List.length_append]
    exact ho'
  · refine ⟨hat.1, fun i hi => ?_⟩
    obtain ⟨a, c2, e, hw2, hl2⟩ := hat.2 i hi
    refine ⟨a, c2, e, own_heap hw2 fun k hk => hg.block k (by have := hl2 k hk; omega) (fun e2 => own_own ho hw2 (by decide) hk e2.symm), hl2⟩
  · exact World.ownsRow.kept h1 hg (.inr (fun e2 => own_own ho h1 (by decide) rfl e2.symm))
/-- One word more in the last row. -/
theorem rows_more {w : World} {base c : Nat} {A : Option Addr} {d : List (List Wd)} {r : List Wd} (h : RowsOwn w base A c (d ++ [r])) (hr : 0 < r.length) (hn : r.length ≤ 100000) :
    ∃ gO gI c', A = some ⟨gO, 0, none⟩ ∧ gO < w.heap.size ∧ gI < w.heap.size ∧ w.cell? ⟨gO, d.length, none⟩ = some (.slice (some ⟨gI, 0, none⟩) r.length c') ∧ WordsAt w w.heap.size (some ⟨gI, 0, none⟩) r ∧
      ∀ (W : World) (x : Wd), W.heap = w.heap → W.os = w.os → W.tape = w.tape → W.output = w.output →
        ∃ a2 c2 w3, (Builtin.append_ #[23, 23] 23 #[.slice (some ⟨gI, 0, none⟩) r.length c', .slice (some ⟨w.heap.size, 0, none⟩) 1 1]).run Try.prog (W.alloc (.cells #[.int .i64 x.t, .int .i64 x.v, .int .i64 x.e, .int .i64 x.b] 43)) = .ok (.slice a2 (r.length + 1) c2) w3 ∧
          w3.cell? ⟨gO, d.length, none⟩ = some (.slice (some ⟨gI, 0, none⟩) r.length c') ∧ w3.frozen? ⟨gO, d.length, none⟩ = false ∧
          RowsOwn (w3.setCell ⟨gO, d.length, none⟩ (.slice a2 (r.length + 1) c2)) base A c (d ++ [r ++ [x]]) ∧ Below base w (w3.setCell ⟨gO, d.length, none⟩ (.slice a2 (r.length + 1) c2)) := by
  rcases h with ⟨h, _⟩ | ⟨d', r', cs, a, c', B1, e, ho, hd, hw, hbB, hB⟩
  · simp at h
  · obtain ⟨e1, e2⟩ := List.append_inj' e rfl
    injection e2 with e2
    subst e1 e2
    obtain ⟨gI, capI, hI, _, hIl⟩ := hw.form hr
    injection hI with hI1 hI2 hI3
    subst hI1 hI3
    have hlO : (cs ++ [Value.slice (some ⟨gI, 0, none⟩) r.length c']).length = d.length + 1 := by simp [hd.1]
    obtain ⟨gO, capO, hO, _, hOl⟩ := ho.form (by rw [hlO]; omega)
    injection hO with hO1 hO2 hO3
    subst hO1 hO3
    have hj : (cs ++ [Value.slice (some ⟨gI, 0, none⟩) r.length c'])[d.length]? = some (.slice (some ⟨gI, 0, none⟩) r.length c') := by
      rw [List.getElem?_append_right (by have := hd.1; omega), hd.1]; simp
    refine ⟨gO, gI, c', rfl, hOl, hIl, (own_cells ho _ _ hj).1, hw.at_, fun W x h1 h2 h3 h4 => ?_⟩
    have bW : Below w.heap.size w (W.alloc (.cells #[.int .i64 x.t, .int .i64 x.v, .int .i64 x.e, .int .i64 x.b] 43)) :=
      ⟨h2, h3, h4, by show w.heap.size ≤ (W.heap.push _).size; rw [h1]; simp, fun k hk => by rw [← h1] at hk ⊢; exact Below.heap_alloc W _ k hk⟩
    have hnb := Blk.new W 43 #[.int .i64 x.t, .int .i64 x.v, .int .i64 x.e, .int .i64 x.b]
    have hs1 : (W.alloc (.cells #[.int .i64 x.t, .int .i64 x.v, .int .i64 x.e, .int .i64 x.b] 43)).heap.size = w.heap.size + 1 := by rw [← h1]; simp
    rw [h1] at hnb
    obtain ⟨W1, hW1⟩ : ∃ W1, W.alloc (.cells #[.int .i64 x.t, .int .i64 x.v, .int .i64 x.e, .int .i64 x.b] 43) = W1 := ⟨_, rfl⟩
    rw [hW1] at bW hnb hs1 ⊢
    have hin := fun (k : Nat) (hk : k < w.heap.size) => bW.block k hk
    have hw1 : OwnW W1 B1 (some ⟨gI, 0, none⟩) c' r := own_heap hw fun k hk => hin k (World.ownsRow.lt hw k hk).2
    have ho1 : OwnO W1 base (some ⟨gO, 0, none⟩) c (cs ++ [.slice (some ⟨gI, 0, none⟩) r.length c']) := own_heap ho fun k hk => hin k (World.ownsRow.lt ho k hk).2
    have hone : WordsAt W1 W1.heap.size (some ⟨w.heap.size, 0, none⟩) [x] := fun q hq => by
      obtain rfl : q = 0 := by simpa using hq
      exact ⟨w.heap.size, 0, rfl, hnb.lt, hnb.cell 0, hnb.cell 1, hnb.cell 2, hnb.cell 3⟩
    obtain ⟨a2, c2, w3, hr, hw2, hg, _, _⟩ := append_words W1 B1 (some ⟨gI, 0, none⟩) c' r hw1 (some ⟨w.heap.size, 0, none⟩) 1 W1.heap.size [x] (fun h => by cases h) hone (by simp; omega) (by omega)
    have hl2 : (r ++ [x]).length = r.length + 1 := by simp
    rw [hl2] at hr
    have ho2 : OwnO w3 base (some ⟨gO, 0, none⟩) c (cs ++ [.slice (some ⟨gI, 0, none⟩) r.length c']) := World.ownsRow.kept ho1 hg (.inr (fun e2 => own_own ho1 hw1 (by decide) rfl e2))
    have hc := own_cells ho2 _ _ hj
    have b3 : Below B1 w w3 := (bW.mono hB).trans (bel_own hw1 hg (Nat.le_refl _) (by omega))
    refine ⟨a2, c2, w3, hr, hc.1, hc.2, .inr ⟨d, r ++ [x], cs, a2, c2, B1, rfl, ?_, ?_, ?_, hbB, ?_⟩, ?_⟩
    · have := own_set ho2 d.length (.slice a2 (r.length + 1) c2)
      have hset : (cs ++ [Value.slice (some ⟨gI, 0, none⟩) r.length c']).set d.length (.slice a2 (r.length + 1) c2) = cs ++ [.slice a2 (r.length + 1) c2] := by
        rw [List.set_append_right _ _ (by have := hd.1; omega), hd.1]; simp
      rw [hset] at this
      unfold OwnO
      rw [hl2]
      simpa using this
    · have hd3 := hd.below b3
      refine ⟨hd3.1, fun i hi => ?_⟩
      obtain ⟨a, cc, e, hwi, hli⟩ := hd3.2 i hi
      exact ⟨a, cc, e, ownsRow_setCell_other (a := ⟨gO, d.length, none⟩) hwi (fun hk => own_own ho2 hwi (by decide) hk rfl) _, hli⟩
    · exact ownsRow_setCell_other (a := ⟨gO, d.length, none⟩) hw2 (fun hk => own_own ho2 hw2 (by decide) hk rfl) _
    · exact Nat.le_trans hB (Nat.le_trans b3.size (by simp [World.setCell]))
    · exact (b3.mono hbB).setCell (World.ownsRow.lt ho gO rfl).1 _
theorem RowsOwn.alloc {w : World} {base c : Nat} {A : Option Addr} {rs : List (List Wd)} (h : RowsOwn w base A c rs) (o : Obj) : RowsOwn (w.alloc o) base A c rs := by
  rcases h with h | ⟨d, r, cs, a, c', B1, e, ho, hd, hw, hbB, hB⟩
  · exact .inl h
  · exact .inr ⟨d, r, cs, a, c', B1, e, ho.alloc o, hd.below ((Below.refl _ w).alloc hB o), hw.alloc o, hbB, Nat.le_trans hB (by simp)⟩
theorem RowsOwn.drewN {w : World} {base c : Nat} {A : Option Addr} {rs : List (List Wd)} (h : RowsOwn w base A c rs) (n : Nat) : RowsOwn (w.drewN n) base A c rs := h
/-- All rows can be read, whatever grows above. -/
theorem RowsOwn.all {w : World} {base c : Nat} {A : Option Addr} {rs : List (List Wd)} (h : RowsOwn w base A c rs) (i : Nat) (hi : i < rs.length) :
    ∃ gO a c', A = some ⟨gO, 0, none⟩ ∧ gO < w.heap.size ∧ w.cell? ⟨gO, i, none⟩ = some (.slice a (rs.getD i []).length c') ∧ WordsAt w w.heap.size a (rs.getD i []) := by
  rcases h with ⟨rfl, _⟩ | ⟨d, r, cs, a, c', B1, rfl, ho, hd, hw, hbB, hB⟩
  · exact absurd hi (Nat.not_lt_zero _)
  · have hlO : (cs ++ [Value.slice a r.length c']).length = d.length + 1 := by simp [hd.1]
    obtain ⟨gO, capO, hO, _, hOl⟩ := ho.form (by rw [hlO]; omega)
    injection hO with hO1 hO2 hO3
    subst hO1 hO3
    have hs := (hd.more hB).snoc (c := c') hw (Nat.le_refl _)
    obtain ⟨a2, c2, e, hwi, _⟩ := hs.2 i hi
    exact ⟨gO, a2, c2, rfl, hOl, (own_cells ho _ _ e).1, hwi.at_⟩
/-- .. with the heap's size as the walk spells it. -/
theorem rows_new' {w : World} {base c N : Nat} {A : Option Addr} {rs : List (List Wd)} (hN : w.heap.size = N) (h : RowsOwn w base A c rs) (hb : base ≤ N) (hn : rs.length ≤ 1048000) (x : Wd) :
    ∃ a' c' w', (Builtin.append_ #[59, 59] 59 #[.slice A rs.length c, .slice (some ⟨N + 1, 0, none⟩) 1 1]).run Try.prog ((w.alloc (.cells #[.int .i64 x.t, .int .i64 x.v, .int .i64 x.e, .int .i64 x.b] 43)).alloc (.cells #[.slice (some ⟨N, 0, none⟩) 1 1] 23)) = .ok (.slice a' (rs.length + 1) c') w' ∧
      RowsOwn w' base a' c' (rs ++ [[x]]) ∧ Below base w w' := by
  subst hN
  exact rows_new h hb hn x
theorem rows_more' {w : World} {base c N : Nat} {A : Option Addr} {d : List (List Wd)} {r : List Wd} (hN : w.heap.size = N) (h : RowsOwn w base A c (d ++ [r])) (hr : 0 < r.length) (hn : r.length ≤ 100000) :
    ∃ gO gI c', A = some ⟨gO, 0, none⟩ ∧ gO < N ∧ gI < N ∧ w.cell? ⟨gO, d.length, none⟩ = some (.slice (some ⟨gI, 0, none⟩) r.length c') ∧ WordsAt w N (some ⟨gI, 0, none⟩) r ∧
      ∀ (W : World) (x : Wd), W.heap = w.heap → W.os = w.os → W.tape = w.tape → W.output = w.output →
        ∃ a2 c2 w3, (Builtin.append_ #[23, 23] 23 #[.slice (some ⟨gI, 0, none⟩) r.length c', .slice (some ⟨N, 0, none⟩) 1 1]).run Try.prog (W.alloc (.cells #[.int .i64 x.t, .int .i64 x.v, .int .i64 x.e, .int .i64 x.b] 43)) = .ok (.slice a2 (r.length + 1) c2) w3 ∧
          w3.cell? ⟨gO, d.length, none⟩ = some (.slice (some ⟨gI, 0, none⟩) r.length c') ∧ w3.frozen? ⟨gO, d.length, none⟩ = false ∧
          RowsOwn (w3.setCell ⟨gO, d.length, none⟩ (.slice a2 (r.length + 1) c2)) base A c (d ++ [r ++ [x]]) ∧ Below base w (w3.setCell ⟨gO, d.length, none⟩ (.slice a2 (r.length + 1) c2)) := by
  subst hN
  exact rows_more h hr hn
/-- An append whose run is known, as a step of a region that draws. -/
theorem step_append_run {P : Program} {ops : Array Oper} {o : Oper} {a : Act} {w : World} {K : Act → World → Prop} {Q : Exit → Act → World → Prop} {E : Prop}
    (hg : o.guard = none) (d x : Operand) (dT sT : TypeId) (hop : o.op = Op.call { callee := Callee.builtin Builtin.append, args := #[d, x], argTypes := #[dT, sT] })
    (v u : Value) (hd : a.eval d = v) (hx : a.eval x = u) {v' : Value} {w' : World} (hr : (Builtin.append_ #[dT, sT] o.type #[v, u]).run P w = .ok v' w') (hK : K (a.put o.dst v') w') :
    if Region.wanted o (yielded ops a.tmps) = true then Oper.wp P o a w K Q else E := by
  have hw : Region.wanted o (yielded ops a.tmps) = true := by simp [Region.wanted, hg]
  rw [if_pos hw]
  unfold Oper.wp
  simp [execOp, hop, resolve, invoke, builtin, hd, hx, hr, Result.andThen]
  exact hK
end Go.Proofs.Ytoigapanhbmjlaa
