/- What the document's part says, as rows; what it holds of ports that forward. No condition but bounds on lengths. -/
import Derived.Test.YtonkmbnnbpbhiaaRtbest
namespace Go.Proofs.Ytonkmbnnbpbhiaa
open Go.RowKit
set_option maxRecDepth 100000

def Bp.list (b : Bp) : List Value := [.int .i64 b.root, .int .i64 b.cost, .int .i64 b.bridge, .int .i64 b.port, .int .i64 b.age, .int .i64 b.role, .bool b.change]
def bp0 : Bp := ⟨0, 0, 0, 0, 0, 0, false⟩
def bcL : List Bp → List Value
  | [] => []
  | a :: l => a.list ++ bcL l
theorem bcL_append (l m : List Bp) : bcL (l ++ m) = bcL l ++ bcL m := by
  induction l with
  | nil => rfl
  | cons a l ih => simp [bcL, ih]
theorem bcL_length (l : List Bp) : (bcL l).length = l.length * 7 := by
  induction l with
  | nil => rfl
  | cons a l ih => simp [bcL, ih, Bp.list]; omega
theorem bcL_at (l : List Bp) (k : Nat) (h : k < l.length) (j : Nat) (hj : j < 7) : (bcL l)[k * 7 + j]? = (l.getD k bp0).list[j]? := by
  induction l generalizing k with
  | nil => simp at h
  | cons a l ih =>
    cases k with
    | zero =>
      simp only [bcL]
      rw [List.getElem?_append_left (by simp [Bp.list]; omega)]
      simp
    | succ k =>
      simp only [bcL]
      rw [List.getElem?_append_right (by simp [Bp.list]; omega)]
      have e : (k + 1) * 7 + j - a.list.length = k * 7 + j := by simp [Bp.list]; omega
      rw [e, ih k (by simpa using h)]
      simp
theorem bcL_one (l : List Bp) : ∀ u ∈ bcL l, u.oneCell' = true := by
  induction l with
  | nil => simp [bcL]
  | cons a l ih =>
    intro u hu
    simp only [bcL, List.mem_append, Bp.list] at hu
    rcases hu with hu | hu
    · simp only [List.mem_cons, List.not_mem_nil, or_false] at hu
      rcases hu with rfl | rfl | rfl | rfl | rfl | rfl | rfl <;> rfl
    · exact ih u hu
def OwnB (w : World) (base : Nat) (A : Option Addr) (c : Nat) (l : List Bp) : Prop := w.ownsRow base 34 7 (.slice A l.length c) l.length (bcL l)
def OwnI (w : World) (base : Nat) (A : Option Addr) (c : Nat) (l : List Int) : Prop := w.ownsRow base 3 1 (.slice A l.length c) l.length (l.map fun n => .int .i64 n)
theorem OwnI.at_ {w : World} {base c : Nat} {A : Option Addr} {l : List Int} (h : OwnI w base A c l) {k : Nat} (hk : k < l.length) : ∃ b, A = some ⟨b, 0, none⟩ ∧ base ≤ b ∧ b < w.heap.size ∧ w.cell? ⟨b, k, none⟩ = some (.int .i64 (l.getD k 0)) := by
  obtain ⟨b, rfl, hl, hc⟩ := own_at h (by omega)
  exact ⟨b, rfl, (World.ownsRow.lt h b rfl).1, hl, hc k _ (by rw [List.getElem?_map, List.getD_eq_getElem?_getD, List.getElem?_eq_getElem hk]; rfl)⟩
structure BpCells (w : World) (b i : Nat) (s : Bp) : Prop where
  c0 : w.cell? ⟨b, i, none⟩ = some (.int .i64 s.root)
  c1 : w.cell? ⟨b, i + 1, none⟩ = some (.int .i64 s.cost)
  c2 : w.cell? ⟨b, i + 2, none⟩ = some (.int .i64 s.bridge)
  c3 : w.cell? ⟨b, i + 3, none⟩ = some (.int .i64 s.port)
  c4 : w.cell? ⟨b, i + 4, none⟩ = some (.int .i64 s.age)
  c5 : w.cell? ⟨b, i + 5, none⟩ = some (.int .i64 s.role)
  c6 : w.cell? ⟨b, i + 6, none⟩ = some (.bool s.change)
theorem BpCells.below {w w' : World} {B b i : Nat} {s : Bp} (h : BpCells w b i s) (hb : Below B w w') (hl : b < B) : BpCells w' b i s :=
  ⟨(hb.cell (p := ⟨b, i, none⟩) hl).trans h.c0, (hb.cell (p := ⟨b, i + 1, none⟩) hl).trans h.c1, (hb.cell (p := ⟨b, i + 2, none⟩) hl).trans h.c2, (hb.cell (p := ⟨b, i + 3, none⟩) hl).trans h.c3,
    (hb.cell (p := ⟨b, i + 4, none⟩) hl).trans h.c4, (hb.cell (p := ⟨b, i + 5, none⟩) hl).trans h.c5, (hb.cell (p := ⟨b, i + 6, none⟩) hl).trans h.c6⟩
theorem OwnB.at_ {w : World} {base c : Nat} {A : Option Addr} {l : List Bp} (h : OwnB w base A c l) {k : Nat} (hk : k < l.length) : ∃ b, A = some ⟨b, 0, none⟩ ∧ base ≤ b ∧ b < w.heap.size ∧ BpCells w b (k * 7) (l.getD k bp0) := by
  obtain ⟨b, rfl, hl, hc⟩ := own_at h (by omega)
  have hj : ∀ j, j < 7 → ∀ u, (l.getD k bp0).list[j]? = some u → w.cell? ⟨b, k * 7 + j, none⟩ = some u := fun j hj u hu => hc _ _ ((bcL_at l k hk j hj).trans hu)
  exact ⟨b, rfl, (World.ownsRow.lt h b rfl).1, hl, hj 0 (by omega) _ rfl, hj 1 (by omega) _ rfl, hj 2 (by omega) _ rfl, hj 3 (by omega) _ rfl, hj 4 (by omega) _ rfl, hj 5 (by omega) _ rfl, hj 6 (by omega) _ rfl⟩
theorem bpdu_info : (Try.prog.info? 34).map (fun i => (i.zero, i.size, i.bytes)) = some (some (.agg #[.int .i64 0, .int .i64 0, .int .i64 0, .int .i64 0, .int .i64 0, .int .i64 0, .bool false]), 7, 56) := by kernel_rfl
/-- One more message. -/
theorem append_bpdu (w : World) (base : Nat) (A0 : Option Addr) (c0 n0 : Nat) (l : List Bp) (hl0 : l.length = n0) (hown : OwnB w base A0 c0 l) (g : Nat) (s : Bp) (hg : Blk w g 34 s.list.toArray) (hn : l.length ≤ 1048576) (hbase : base ≤ w.heap.size) :
    ∃ a' c' w', (Builtin.append_ #[48, 48] 48 #[.slice A0 n0 c0, .slice (some ⟨g, 0, none⟩) 1 1]).run Try.prog w = .ok (.slice a' (n0 + 1) c') w' ∧ OwnB w' base a' c' (l ++ [s]) ∧ w.grownBy w' (Value.slice A0 n0 c0).ownBlock := by
  subst hl0
  obtain ⟨i0, hi0, hz0, hz1, hz2⟩ := info_parts bpdu_info
  obtain ⟨a', c', w', hr, ho, hgr, _, _⟩ := append_src w base 48 48 34 i0 _ 7 56 Try.underlying48 hi0 hz0 hz1 hz2 rfl (by decide) _ l.length (bcL l) hown (some ⟨g, 0, none⟩) 1 1 (bcL [s]) (by rw [bcL_length]; rfl) (fun h => by cases h)
    (fun _ => ⟨g, 0, rfl, fun j u hu => by
      rw [Nat.zero_add, hg.cell]
      have e : bcL [s] = s.list := by simp [bcL]
      rw [e] at hu
      rw [← hu]
      simp⟩)
    (bcL_one [s]) (by unfold maxLen; omega) (by omega) hbase
  refine ⟨a', c', w', hr, ?_, hgr⟩
  unfold OwnB
  rw [bcL_append, List.length_append]
  exact ho
/-- One more number. -/
theorem append_int (w : World) (base : Nat) (A0 : Option Addr) (c0 n0 : Nat) (l : List Int) (hl0 : l.length = n0) (hown : OwnI w base A0 c0 l) (g : Nat) (s : Int) (hg : Blk w g 3 #[.int .i64 s]) (hn : l.length ≤ 1048576) (hbase : base ≤ w.heap.size) :
    ∃ a' c' w', (Builtin.append_ #[47, 47] 47 #[.slice A0 n0 c0, .slice (some ⟨g, 0, none⟩) 1 1]).run Try.prog w = .ok (.slice a' (n0 + 1) c') w' ∧ OwnI w' base a' c' (l ++ [s]) ∧ w.grownBy w' (Value.slice A0 n0 c0).ownBlock := by
  subst hl0
  obtain ⟨i0, hi0, hz0, hz1, hz2⟩ := info_parts int_info
  obtain ⟨a', c', w', hr, ho, hgr, _, _⟩ := append_src w base 47 47 3 i0 _ 1 8 Try.underlying47 hi0 hz0 hz1 hz2 rfl (by decide) _ l.length _ hown (some ⟨g, 0, none⟩) 1 1 [.int .i64 s] rfl (fun h => by cases h)
    (fun _ => ⟨g, 0, rfl, fun j u hu => by
      rw [Nat.zero_add, hg.cell, ← hu]
      simp⟩)
    (fun u hu => by simp only [List.mem_cons, List.not_mem_nil, or_false] at hu; subst hu; rfl) (by unfold maxLen; omega) (by omega) hbase
  refine ⟨a', c', w', hr, ?_, hgr⟩
  unfold OwnI
  rw [List.map_append, List.length_append]
  exact ho
/-- When a change is told to its end. -/
def dch (c : Int) : Int := if c = -1 then -1 else c + 4
theorem dch_tells {c now : Int} (h0 : 0 ≤ now) : tells c now = decide (now ≤ dch c) := by
  unfold tells dch
  by_cases e : c = -1
  · rw [if_pos e]
    exact decide_eq_decide.2 ⟨fun h => absurd e h.1, fun h => by omega⟩
  · rw [if_neg e]
    exact decide_eq_decide.2 ⟨fun h => by omega, fun h => ⟨e, by omega⟩⟩
section
variable {w : World} {base d gp go m cap : Nat} {f : Nat → Pt} {op op' : Nat → Bool} {id ch : Int} {TU : Nat → List (Int × Int)} {AA : Nat → Option Addr} {CC : Nat → Nat}
theorem DocAt.openCell (h : DocAt w base d gp go cap id m f TU AA CC op ch) {i : Nat} (hi : i < m) : w.cell? ⟨go, i, none⟩ = some (.bool (op i)) ∧ w.frozen? ⟨go, i, none⟩ = false := by
  obtain ⟨cs, hb, _, hc⟩ := h.open_
  exact ⟨(hb.cell i).trans (hc i hi), hb.frozen i⟩
theorem DocAt.setOpen (h : DocAt w base d gp go cap id m f TU AA CC op ch) {i : Nat} (hi : i < m) (b : Bool) (h1 : op' i = b) (h2 : ∀ j, j ≠ i → op' j = op j) : DocAt (w.setCell ⟨go, i, none⟩ (.bool b)) base d gp go cap id m f TU AA CC op' ch where
  top := h.top.far h.dgo_ne _
  cap := h.cap
  ports := h.ports.block (Below.heap_setCell _ _ _ gp h.go_ne.symm)
  open_ := by
    obtain ⟨cs, hb, hs, hc⟩ := h.open_
    refine ⟨_, hb.set_ i _, by simp [hs], fun j hj => ?_⟩
    by_cases e : j = i
    · subst e
      rw [Array.getElem?_setIfInBounds_self_of_lt (by omega), h1]
    · rw [Array.getElem?_setIfInBounds_ne (by omega), h2 j e]
      exact hc j hj
  turns j hj := own_heap (h.turns j hj) fun q hq => Below.heap_setCell _ _ _ q (h.own_ne hj hq).2.2
  apart := h.apart
  lasts := h.lasts
  bd := h.bd
  bp := h.bp
  bo := h.bo
theorem DocAt.setChange (h : DocAt w base d gp go cap id m f TU AA CC op ch) (c : Int) : DocAt (w.setCell ⟨d, 2, none⟩ (.int .i64 c)) base d gp go cap id m f TU AA CC op c where
  top := h.top.set_ 2 _
  cap := h.cap
  ports := h.ports.block (Below.heap_setCell _ _ _ gp h.d_ne.symm)
  open_ := h.open_.block (Below.heap_setCell _ _ _ go h.dgo_ne.symm)
  turns j hj := own_heap (h.turns j hj) fun q hq => Below.heap_setCell _ _ _ q (h.own_ne hj hq).2.1
  apart := h.apart
  lasts := h.lasts
  bd := h.bd
  bp := h.bp
  bo := h.bo
theorem DocAt.qd (h : DocAt w base d gp go cap id m f TU AA CC op ch) : DocQ base w d := DocQ.of h.bd h.top (.inl rfl)
theorem DocAt.qo (h : DocAt w base d gp go cap id m f TU AA CC op ch) : DocQ base w go := by
  obtain ⟨cs, hb, _⟩ := h.open_
  exact DocQ.of h.bo hb (.inr (.inr (.inl rfl)))
theorem DocAt.congrOp (h : DocAt w base d gp go cap id m f TU AA CC op ch) (hf : ∀ i, i < m → op' i = op i) : DocAt w base d gp go cap id m f TU AA CC op' ch where
  top := h.top
  cap := h.cap
  ports := h.ports
  open_ := by
    obtain ⟨cs, hb, hs, hc⟩ := h.open_
    exact ⟨cs, hb, hs, fun i hi => by rw [hf i hi]; exact hc i hi⟩
  turns := h.turns
  apart := h.apart
  lasts := h.lasts
  bd := h.bd
  bp := h.bp
  bo := h.bo
/-- A row of another type grows: the part stays. -/
theorem DocAt.grown {w' : World} {t : TypeId} {size n base' : Nat} {v : Value} {xs : List Value} (h : DocAt w base d gp go cap id m f TU AA CC op ch) (ho : w.ownsRow base' t size v n xs) (hg : w.grownBy w' v.ownBlock) (ht : ¬ (t = 74 ∨ t = 79 ∨ t = 4 ∨ t = 117)) : DocAt w' base d gp go cap id m f TU AA CC op ch :=
  h.touch (p := fun k => v.ownBlock = some k) (grown_touch hg fun k hk => hk) fun k hk ⟨_, t', cs, hb, ht'⟩ => by
    rcases ho.2 with ⟨e, _⟩ | ⟨g, c, cur, e, _, hg', _⟩
    · rw [e] at hk
      simp [Value.ownBlock] at hk
    · rw [e] at hk
      have hgk : g = k := by simpa [Value.ownBlock] using hk
      subst hgk
      have hb2 : Blk w g t cur := hg'
      have := blk_type hb hb2
      subst this
      exact ht ht'
/-- Rows of two types: one grows, the other stays. -/
theorem own_other {w' : World} {t t' : TypeId} {size n base' size' n' base2 : Nat} {v v' : Value} {xs xs' : List Value} (h : w.ownsRow base' t size v n xs) (h' : w.ownsRow base2 t' size' v' n' xs') (hg : w.grownBy w' v.ownBlock) (ht : t ≠ t') : w'.ownsRow base2 t' size' v' n' xs' :=
  own_heap h' fun k hk => hg.block k (World.ownsRow.lt h' k hk).2 fun e => by
    rcases h'.2 with ⟨e1, _⟩ | ⟨g, c, cur, e1, _, hg', _⟩
    · rw [e1] at hk
      simp [Value.ownBlock] at hk
    · rw [e1] at hk
      have hgk : g = k := by simpa [Value.ownBlock] using hk
      subst hgk
      exact own_ne h (show Blk w g t' cur from hg') (fun e => ht e.symm) e.symm
end
end Go.Proofs.Ytonkmbnnbpbhiaa
