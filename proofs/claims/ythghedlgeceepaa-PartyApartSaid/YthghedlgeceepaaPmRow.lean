/- Joined texts. Conditions: those that each names. -/
import Derived.Test.YthghedlgeceepaaPyP
import Derived.Test.YthghedlgeceepaaRgMem
import Derived.Test.YthghedlgeceepaaApMem
import Derived.Test.YthghedlgeceepaaOwn
import Derived.Lib.AppendZerosOnto
import Derived.Lib.Overlaps
import Derived.Laws.Externs
import Derived.Laws.IdiomCopy
import Derived.Shelf.RegionOpenPlain
import Derived.Test.YthghedlgeceepaaRgAsk
import Derived.Test.YthghedlgeceepaaApAsk
import Derived.Test.YthghedlgeceepaaBel
namespace Go.Proofs.Ythghedlgeceepaa
section
/- A port's slots as they lie in memory (layer 16): a row of four cells each, their registrars and applicants in blocks of their own, all apart. No condition. -/
open Go.RowKit
set_option maxRecDepth 100000

/-- A slot, its registrar's block, its applicant's. -/
structure Qs where
  s : Sl
  r : Nat
  a : Nat
def qs0 : Qs := ⟨sl0, 0, 0⟩
instance : Inhabited Qs := ⟨qs0⟩
def Qs.cells (x : Qs) : List Value := [.int .i64 x.s.t, .int .i64 x.s.v, .pointer (some ⟨x.r, 0, none⟩), .pointer (some ⟨x.a, 0, none⟩)]
def Qs.val (x : Qs) : Value := .agg #[.int .i64 x.s.t, .int .i64 x.s.v, .pointer (some ⟨x.r, 0, none⟩), .pointer (some ⟨x.a, 0, none⟩)]
def qsL : List Qs → List Value
  | [] => []
  | a :: l => a.cells ++ qsL l
theorem qsL_append (l m : List Qs) : qsL (l ++ m) = qsL l ++ qsL m := by
  induction l with
  | nil => rfl
  | cons a l ih => simp [qsL, ih]
theorem qsL_length (l : List Qs) : (qsL l).length = l.length * 4 := by
  induction l with
  | nil => rfl
  | cons a l ih => simp [qsL, ih, Qs.cells]; omega
theorem qsL_at (l : List Qs) (k : Nat) (h : k < l.length) (j : Nat) (hj : j < 4) : (qsL l)[k * 4 + j]? = (l.getD k qs0).cells[j]? := by
  induction l generalizing k with
  | nil => simp at h
  | cons a l ih =>
    cases k with
    | zero =>
      simp only [qsL]
      rw [List.getElem?_append_left (by simp [Qs.cells]; omega)]
      simp
    | succ k =>
      simp only [qsL]
      rw [List.getElem?_append_right (by simp [Qs.cells]; omega)]
      have e : (k + 1) * 4 + j - a.cells.length = k * 4 + j := by simp [Qs.cells]; omega
      rw [e, ih k (by simpa using h)]
      simp
theorem qsL_one (l : List Qs) : ∀ u ∈ qsL l, u.oneCell' = true := by
  induction l with
  | nil => simp [qsL]
  | cons a l ih =>
    intro u hu
    simp only [qsL, List.mem_append, Qs.cells] at hu
    rcases hu with hu | hu
    · simp only [List.mem_cons, List.not_mem_nil, or_false] at hu
      rcases hu with rfl | rfl | rfl | rfl <;> rfl
    · exact ih u hu
theorem qsL_drop (l : List Qs) (i : Nat) : qsL (l.drop i) = (qsL l).drop (i * 4) := by
  induction l generalizing i with
  | nil => simp [qsL]
  | cons a l ih =>
    cases i with
    | zero => simp
    | succ i =>
      rw [List.drop_succ_cons, ih, qsL, show (i + 1) * 4 = a.cells.length + i * 4 by simp [Qs.cells]; omega, List.drop_append]
      simp [Nat.add_sub_cancel_left]
theorem qsL_take (l : List Qs) (i : Nat) : qsL (l.take i) = (qsL l).take (i * 4) := by
  induction l generalizing i with
  | nil => simp [qsL]
  | cons a l ih =>
    cases i with
    | zero => simp [qsL]
    | succ i =>
      rw [List.take_succ_cons, qsL, ih, qsL, show (i + 1) * 4 = a.cells.length + i * 4 by simp [Qs.cells]; omega, List.take_append]
      simp [Nat.add_sub_cancel_left]
      exact (List.take_of_length_le (by omega)).symm
/-- Cells that say the same of every slot. -/
theorem qsL_map (f : Qs → Qs) (h : ∀ x, (f x).cells = x.cells) (l : List Qs) : qsL (l.map f) = qsL l := by
  induction l with
  | nil => rfl
  | cons a l ih => rw [List.map_cons, qsL, qsL, ih, h]
theorem qsL_set (l : List Qs) (i : Nat) (x : Qs) (h : x.cells = (l.getD i qs0).cells) : qsL (l.set i x) = qsL l := by
  induction l generalizing i with
  | nil => rfl
  | cons a l ih =>
    cases i with
    | zero => rw [List.set_cons_zero, qsL, qsL, h]; rfl
    | succ i => rw [List.set_cons_succ, qsL, qsL, ih i (by simpa using h)]

/-- Slots in a row of the program's own. -/
def OwnK (w : World) (base : Nat) (A : Option Addr) (c : Nat) (l : List Qs) : Prop := w.ownsRow base 67 4 (.slice A l.length c) l.length (qsL l)
/-- A slot's four cells. -/
structure KCells (w : World) (b i : Nat) (x : Qs) : Prop where
  c0 : w.cell? ⟨b, i, none⟩ = some (.int .i64 x.s.t)
  c1 : w.cell? ⟨b, i + 1, none⟩ = some (.int .i64 x.s.v)
  c2 : w.cell? ⟨b, i + 2, none⟩ = some (.pointer (some ⟨x.r, 0, none⟩))
  c3 : w.cell? ⟨b, i + 3, none⟩ = some (.pointer (some ⟨x.a, 0, none⟩))
theorem KCells.below {w w' : World} {b i B : Nat} {x : Qs} (h : KCells w b i x) (hl : b < B) (hb : Below B w w') : KCells w' b i x :=
  ⟨(hb.cell (p := ⟨b, i, none⟩) hl).trans h.c0, (hb.cell (p := ⟨b, i + 1, none⟩) hl).trans h.c1, (hb.cell (p := ⟨b, i + 2, none⟩) hl).trans h.c2, (hb.cell (p := ⟨b, i + 3, none⟩) hl).trans h.c3⟩
/-- The slots l lie at A, in a block below B. -/
def KpAt (w : World) (B : Nat) (A : Option Addr) (l : List Qs) : Prop :=
  ∀ k, k < l.length → ∃ b off, A = some ⟨b, off, none⟩ ∧ b < B ∧ KCells w b (off + k * 4) (l.getD k qs0)
theorem OwnK.at_ {w : World} {base c : Nat} {A : Option Addr} {l : List Qs} (h : OwnK w base A c l) : KpAt w w.heap.size A l := fun k hk => by
  obtain ⟨b, rfl, hl, hc⟩ := own_at h (by omega)
  have hj : ∀ j, j < 4 → ∀ u, (l.getD k qs0).cells[j]? = some u → w.cell? ⟨b, k * 4 + j, none⟩ = some u := fun j hj u hu => hc _ _ ((qsL_at l k hk j hj).trans hu)
  refine ⟨b, 0, rfl, hl, ?_⟩
  rw [Nat.zero_add]
  exact ⟨hj 0 (by omega) _ rfl, hj 1 (by omega) _ rfl, hj 2 (by omega) _ rfl, hj 3 (by omega) _ rfl⟩
theorem KpAt.below {w w' : World} {B : Nat} {A : Option Addr} {l : List Qs} (h : KpAt w B A l) (hb : Below B w w') : KpAt w' B A l := fun k hk => by
  obtain ⟨b, off, e, hl, hc⟩ := h k hk
  exact ⟨b, off, e, hl, hc.below hl hb⟩
theorem KpAt.more {w : World} {B B' : Nat} {A : Option Addr} {l : List Qs} (h : KpAt w B A l) (hB : B ≤ B') : KpAt w B' A l := fun k hk => by
  obtain ⟨b, off, e, hl, h0⟩ := h k hk
  exact ⟨b, off, e, by omega, h0⟩
theorem OwnK.alloc {w : World} {B c : Nat} {a : Option Addr} {r : List Qs} (h : OwnK w B a c r) (o : Obj) : OwnK (w.alloc o) B a c r := World.ownsRow.alloc h o
theorem kp_info : (Try.prog.info? 67).map (fun i => (i.zero, i.size, i.bytes)) = some (some (.agg #[.int .i64 0, .int .i64 0, .pointer none, .pointer none]), 4, 32) := by kernel_rfl
theorem kp_size : (Try.prog.info? 67).map (·.size) = some 4 := by kernel_rfl
theorem append_kps (w : World) (base : Nat) (A0 : Option Addr) (c0 : Nat) (l : List Qs) (hown : OwnK w base A0 c0 l) (A : Option Addr) (c B : Nat) (m : List Qs) (hnone : A = none → c = 0) (hsrc : KpAt w B A m) (hn : l.length + m.length ≤ 1048576) (hbase : base ≤ w.heap.size) :
    ∃ a' c' w', (Builtin.append_ #[59, 59] 59 #[.slice A0 l.length c0, .slice A m.length c]).run Try.prog w = .ok (.slice a' (l ++ m).length c') w' ∧ OwnK w' base a' c' (l ++ m) ∧ w.grownBy w' (Value.slice A0 l.length c0).ownBlock ∧ Moved w (.slice A0 l.length c0) (.slice a' (l ++ m).length c') ∧ (∀ k, (Value.slice A0 l.length c0).ownBlock = some k → (Value.slice a' (l ++ m).length c').ownBlock ≠ some k → w'.heap[k]? = w.heap[k]?) := by
  obtain ⟨i0, hi0, hz0, hz1, hz2⟩ := info_parts kp_info
  have := append_src w base 59 59 67 i0 _ 4 32 Try.underlying59 hi0 hz0 hz1 hz2 rfl (by decide) _ l.length (qsL l) hown A m.length c (qsL m) (by rw [qsL_length]) hnone
    (fun h0 => by
      obtain ⟨b, off, rfl, _, _⟩ := hsrc 0 h0
      refine ⟨b, off, rfl, fun j u hu => ?_⟩
      have hj : j < m.length * 4 := by have := (List.getElem?_eq_some_iff.1 hu).1; rwa [qsL_length] at this
      obtain ⟨b', off', e, _, q⟩ := hsrc (j / 4) (by omega)
      injection e with e
      injection e with e1 e2
      subst e1 e2
      have hjj : j / 4 * 4 + j % 4 = j := by omega
      have hu' := qsL_at m (j / 4) (by omega) (j % 4) (by omega)
      rw [hjj, hu] at hu'
      rcases (show j % 4 = 0 ∨ j % 4 = 1 ∨ j % 4 = 2 ∨ j % 4 = 3 from by omega) with h | h | h | h <;> rw [h] at hu' hjj
      · rw [show off + j = off + j / 4 * 4 from by omega, q.c0]; exact hu'.symm
      · rw [show off + j = off + j / 4 * 4 + 1 from by omega, q.c1]; exact hu'.symm
      · rw [show off + j = off + j / 4 * 4 + 2 from by omega, q.c2]; exact hu'.symm
      · rw [show off + j = off + j / 4 * 4 + 3 from by omega, q.c3]; exact hu'.symm)
    (qsL_one m) (by unfold maxLen; omega) (by omega) hbase
  unfold OwnK
  rw [qsL_append, List.length_append]
  exact this
/-- A slot that lies by itself. -/
theorem KpAt.one {w : World} {g : Nat} {t : TypeId} (x : Qs) (h : Blk w g t #[.int .i64 x.s.t, .int .i64 x.s.v, .pointer (some ⟨x.r, 0, none⟩), .pointer (some ⟨x.a, 0, none⟩)]) : KpAt w w.heap.size (some ⟨g, 0, none⟩) [x] := fun q hq => by
  obtain rfl : q = 0 := by simpa using hq
  exact ⟨g, 0, rfl, h.lt, ⟨h.cell 0, h.cell 1, h.cell 2, h.cell 3⟩⟩
/-- Its registrars and applicants, all apart. -/
structure QsAt (w : World) (l : List Qs) : Prop where
  each : ∀ x ∈ l, RgAt w x.r x.s.r ∧ ApAt w x.a x.s.a
  apart : l.Pairwise fun x y => x.r ≠ y.r ∧ x.a ≠ y.a
/-- Some slot's own block. -/
def QFoot (l : List Qs) (k : Nat) : Prop := ∃ x ∈ l, k = x.r ∨ k = x.a
theorem rg_ap {w : World} {g : Nat} {r : Rg} {a : Ap} (h : RgAt w g r) (h' : ApAt w g a) : False := by
  unfold RgAt ApAt Blk at *
  rw [h] at h'
  injection h' with h'
  injection h' with _ h'
  exact absurd h' (by decide)
theorem QsAt.keep {w w' : World} {l : List Qs} (h : QsAt w l) {p : Nat → Prop} (ht : Touch p w w') (hp : ∀ k, QFoot l k → ¬ p k) : QsAt w' l :=
  ⟨fun x hx => ⟨(h.each x hx).1.touch ht (hp _ ⟨x, hx, .inl rfl⟩), (h.each x hx).2.touch ht (hp _ ⟨x, hx, .inr rfl⟩)⟩, h.apart⟩
theorem QsAt.lt {w : World} {l : List Qs} (h : QsAt w l) {k : Nat} (hk : QFoot l k) : k < w.heap.size := by
  obtain ⟨x, hx, rfl | rfl⟩ := hk
  · exact (h.each x hx).1.lt
  · exact (h.each x hx).2.lt
theorem QsAt.below {w w' : World} {l : List Qs} (h : QsAt w l) (hb : Below w.heap.size w w') : QsAt w' l :=
  h.keep (Below.touch hb) fun k hk => by have := h.lt hk; omega
theorem QsAt.filter {w : World} {l : List Qs} (h : QsAt w l) (p : Qs → Bool) : QsAt w (l.filter p) :=
  ⟨fun x hx => h.each x (List.mem_filter.1 hx).1, h.apart.sublist List.filter_sublist⟩
theorem getD_mem' {l : List Qs} {i : Nat} (hi : i < l.length) : l.getD i qs0 ∈ l := by
  rw [List.getD_eq_getElem?_getD, List.getElem?_eq_getElem hi]
  exact List.getElem_mem hi
/-- One slot is turned: its registrar, its applicant, or both. -/
theorem QsAt.turn {w w' : World} {l : List Qs} (h : QsAt w l) {i : Nat} (hi : i < l.length) {s : Sl} {p : Nat → Prop} (ht : Touch p w w') (hp : ∀ k, p k → k = (l.getD i qs0).r ∨ k = (l.getD i qs0).a)
    (hr : RgAt w' (l.getD i qs0).r s.r) (ha : ApAt w' (l.getD i qs0).a s.a) : QsAt w' (l.set i ⟨s, (l.getD i qs0).r, (l.getD i qs0).a⟩) := by
  have hm := getD_mem' hi
  constructor
  · intro x hx
    obtain ⟨j, hj, rfl⟩ := List.getElem_of_mem hx
    rw [List.length_set] at hj
    rw [List.getElem_set]
    split
    · exact ⟨hr, ha⟩
    · rename_i hij
      have hxm := List.getElem_mem hj
      have hx0 := h.each _ hxm
      have hne : l[j].r ≠ (l.getD i qs0).r ∧ l[j].a ≠ (l.getD i qs0).a := by
        have e : l.getD i qs0 = l[i] := by rw [List.getD_eq_getElem?_getD, List.getElem?_eq_getElem hi]; rfl
        rw [e]
        rcases Nat.lt_or_gt_of_ne hij with hlt | hlt
        · have := List.pairwise_iff_getElem.1 h.apart i j hi hj hlt
          exact ⟨fun e => this.1 e.symm, fun e => this.2 e.symm⟩
        · exact List.pairwise_iff_getElem.1 h.apart j i hj hi hlt
      have hh := h.each _ hm
      refine ⟨hx0.1.touch ht (fun c => ?_), hx0.2.touch ht (fun c => ?_)⟩
      · rcases hp _ c with e | e
        · exact hne.1 e
        · exact rg_ap hx0.1 (by rw [e]; exact hh.2)
      · rcases hp _ c with e | e
        · exact rg_ap hh.1 (by rw [← e]; exact hx0.2)
        · exact hne.2 e
  · rw [List.pairwise_iff_getElem]
    intro a b ha' hb' hab
    have := List.pairwise_iff_getElem.1 h.apart a b (by simpa using ha') (by simpa using hb') hab
    rw [List.getElem_set, List.getElem_set]
    have e : l.getD i qs0 = l[i] := by rw [List.getD_eq_getElem?_getD, List.getElem?_eq_getElem hi]; rfl
    split
    · rename_i e1
      subst e1
      split
      · omega
      · rw [← e] at this; exact this
    · split
      · rename_i e1
        subst e1
        rw [← e] at this; exact this
      · exact this
theorem QsAt.drew {w : World} {l : List Qs} (h : QsAt w l) : QsAt w.drew l := ⟨h.each, h.apart⟩
theorem QsAt.drewN {w : World} {l : List Qs} (h : QsAt w l) (n : Nat) : QsAt (w.drewN n) l := ⟨h.each, h.apart⟩
end
section
/- slices.Insert of one slot into a row of one's own: at the end, in place where there is room, else in a new row. Its condition: fewer than 2^20 slots. -/
open Go.RowKit
set_option maxRecDepth 100000

/-- A copy of elements of k cells. -/
theorem run_copy_k {P : Program} (w : World) (dT sT ty elem : TypeId) (k : Nat) (b o dLen dCap : Nat) (a : Addr) (sLen sCap : Nat) (cs : List Value)
    (hu : P.underlying dT = some (.slice elem)) (hs : (P.info? elem).map (·.size) = some k) (hn : cs.length = Nat.min sLen dLen * k)
    (hsrc : ∀ j v, cs[j]? = some v → w.cell? (a.add j) = some v) (hc : ∀ j, j < cs.length → (w.cell? ⟨b, o + j, none⟩).isSome = true) (hf : ∀ j, j < cs.length → w.frozen? ⟨b, o + j, none⟩ = false) (h1 : ∀ v ∈ cs, v.oneCell' = true) :
    (Builtin.copy_ #[dT, sT] ty #[.slice (some ⟨b, o, none⟩) dLen dCap, .slice (some a) sLen sCap]).run P w = .ok (goInt (Nat.min sLen dLen)) (w.setCells b o cs) := by
  have hl := run_loadCells_list (P := P) w a cs hsrc
  have hst := run_storeCells_cells (P := P) b o cs 0 w (by simpa using hc) (by simpa using hf) h1
  cases hq : P.info? elem with
  | none => simp [hq] at hs
  | some i =>
    have hi : i.size = k := by simpa [hq] using hs
    simp [Builtin.copy_, run_underlying hu, Builtin.lenOf, Builtin.firstCells, sizeOf, typeInfo, hq, hi, ← hn, hl, hst]
/-- A run of stores leaves a block a block. -/
theorem setCells_blk {t : TypeId} (b : Nat) : ∀ (vs : List Value) (o : Nat) (w : World) (cur : Array Value), w.heap[b]? = some (.cells cur t (0, 0)) → ∃ cur', (w.setCells b o vs).heap[b]? = some (.cells cur' t (0, 0)) ∧ cur'.size = cur.size
  | [], _, _, cur, h => ⟨cur, h, rfl⟩
  | v :: r, o, w, cur, h => by
    obtain ⟨c2, h2, h3⟩ := setCells_blk b r (o + 1) (w.setCell ⟨b, o, none⟩ v) (cur.setIfInBounds o v) (Blk.set_ (show Blk w b t cur from h) o v)
    exact ⟨c2, h2, by simpa using h3⟩
theorem setCells_heap (b : Nat) : ∀ (vs : List Value) (o : Nat) (w : World) (k : Nat), k ≠ b → (w.setCells b o vs).heap[k]? = w.heap[k]?
  | [], _, _, _, _ => rfl
  | v :: r, o, w, k, h => (setCells_heap b r (o + 1) (w.setCell ⟨b, o, none⟩ v) k h).trans (Below.heap_setCell w ⟨b, o, none⟩ v k h)
theorem setCells_size (b : Nat) : ∀ (vs : List Value) (o : Nat) (w : World), (w.setCells b o vs).heap.size = w.heap.size
  | [], _, _ => rfl
  | v :: r, o, w => (setCells_size b r (o + 1) (w.setCell ⟨b, o, none⟩ v)).trans (by simp [World.setCell])
theorem setCells_rest (b : Nat) : ∀ (vs : List Value) (o : Nat) (w : World), (w.setCells b o vs).os = w.os ∧ (w.setCells b o vs).tape = w.tape ∧ (w.setCells b o vs).output = w.output
  | [], _, _ => ⟨rfl, rfl, rfl⟩
  | v :: r, o, w => setCells_rest b r (o + 1) (w.setCell ⟨b, o, none⟩ v)
theorem setCells_touch (b : Nat) (vs : List Value) (o : Nat) (w : World) : Touch (· = b) w (w.setCells b o vs) :=
  ⟨(setCells_rest b vs o w).1, (setCells_rest b vs o w).2.1, (setCells_rest b vs o w).2.2, by rw [setCells_size]; exact Nat.le_refl _, fun k _ hk => setCells_heap b vs o w k hk⟩
theorem isSome_set {b o : Nat} {vs : List Value} {w : World} (h : ∀ j, j < vs.length → (w.cell? ⟨b, o + j, none⟩).isSome = true) (k : Nat) (hk : (w.cell? ⟨b, k, none⟩).isSome = true) : ((w.setCells b o vs).cell? ⟨b, k, none⟩).isSome = true := by
  by_cases hin : o ≤ k ∧ k < o + vs.length
  · have := World.cell?_setCells_in b vs o w h (k - o) (by omega)
    rw [show o + (k - o) = k by omega] at this
    rw [this]; rfl
  · rw [World.cell?_setCells_out b vs o w ⟨b, k, none⟩ (fun _ _ => by show k < o ∨ o + vs.length ≤ k; omega)]
    exact hk
/-- A row of the program's own, off its cells. -/
theorem own_of_cells {w : World} {base g n c k : Nat} {e : TypeId} {cur : Array Value} {xs : List Value} (hg : w.heap[g]? = some (.cells cur e (0, 0))) (hb : base ≤ g) (hs : cur.size = c * k) (hn : n ≤ c) (hm : c ≤ maxLen) (hx : xs.length = n * k) (hc : ∀ j u, xs[j]? = some u → w.cell? ⟨g, j, none⟩ = some u) :
    w.ownsRow base e k (.slice (some ⟨g, 0, none⟩) n c) n xs := by
  refine ⟨hx, .inr ⟨g, c, cur, rfl, hb, hg, hn, hm, hs, ?_⟩⟩
  have hle : n * k ≤ cur.size := by rw [hs]; exact Nat.mul_le_mul_right _ hn
  apply List.ext_getElem?
  intro j
  rw [List.getElem?_take]
  by_cases hj : j < n * k
  · rw [if_pos hj]
    have h1 := hc j xs[j] (List.getElem?_eq_getElem (by omega))
    have h2 : w.cell? ⟨g, j, none⟩ = cur[j]? := Blk.cell (show Blk w g e cur from hg) j
    rw [List.getElem?_eq_getElem (show j < xs.length by omega), ← h1, h2, Array.getElem?_toList]
  · rw [if_neg hj, List.getElem?_eq_none (by omega)]

/-- A slot among others. -/
def insQ (l : List Qs) (i : Nat) (x : Qs) : List Qs := l.take i ++ x :: l.drop i
theorem insQ_length (l : List Qs) (i : Nat) (x : Qs) (h : i ≤ l.length) : (insQ l i x).length = l.length + 1 := by simp [insQ]; omega
theorem insQ_end (l : List Qs) (x : Qs) : insQ l l.length x = l ++ [x] := by simp [insQ]
theorem insQ_cells (l : List Qs) (i : Nat) (x : Qs) : qsL (insQ l i x) = (qsL l).take (i * 4) ++ (x.cells ++ (qsL l).drop (i * 4)) := by
  unfold insQ
  rw [qsL_append, qsL, qsL_take, qsL_drop]
/-- The cells of a row with one slot more. -/
theorem ins_cell {l : List Qs} {i : Nat} {x : Qs} (hi : i ≤ l.length) {j : Nat} {u : Value} (h : (qsL (insQ l i x))[j]? = some u) :
    (j < i * 4 ∧ (qsL l)[j]? = some u) ∨ (i * 4 ≤ j ∧ j < (i + 1) * 4 ∧ x.cells[j - i * 4]? = some u) ∨ ((i + 1) * 4 ≤ j ∧ ((qsL l).drop (i * 4))[j - (i + 1) * 4]? = some u) := by
  have hl : ((qsL l).take (i * 4)).length = i * 4 := by rw [List.length_take, qsL_length]; omega
  rw [insQ_cells] at h
  by_cases h1 : j < i * 4
  · rw [List.getElem?_append_left (by omega), List.getElem?_take, if_pos h1] at h
    exact .inl ⟨h1, h⟩
  · rw [List.getElem?_append_right (by omega), hl] at h
    by_cases h2 : j < (i + 1) * 4
    · rw [List.getElem?_append_left (by simp [Qs.cells]; omega)] at h
      exact .inr (.inl ⟨by omega, h2, h⟩)
    · rw [List.getElem?_append_right (by simp [Qs.cells]; omega)] at h
      refine .inr (.inr ⟨by omega, ?_⟩)
      rw [show j - i * 4 - x.cells.length = j - (i + 1) * 4 by simp [Qs.cells]; omega] at h
      exact h
theorem block_any (A : Option Addr) (n c n' c' : Nat) : (Value.slice A n c).ownBlock = (Value.slice A n' c').ownBlock := by cases A <;> rfl

set_option maxRecDepth 100000 in
set_option maxHeartbeats 2000000 in
/-- At the end. -/
theorem insert_end (A : Option Addr) (c : Nat) (l : List Qs) (x : Qs) (vb base : Nat) (w : World) (h : OwnK w base A c l) (hn : l.length ≤ 1048000) (hv : Blk w vb 67 #[.int .i64 x.s.t, .int .i64 x.s.v, .pointer (some ⟨x.r, 0, none⟩), .pointer (some ⟨x.a, 0, none⟩)]) (hb : base ≤ w.heap.size) :
    Calls Try.prog 53 #[.slice A l.length c, .int .i64 (l.length : Int), .slice (some ⟨vb, 0, none⟩) 1 1] w fun e w' =>
      ∃ a' c', e = .returned (.slice a' (insQ l l.length x).length c') ∧ OwnK w' base a' c' (insQ l l.length x) ∧ w.grownBy w' (Value.slice A l.length c).ownBlock ∧ ((Value.slice a' 0 0).ownBlock = (Value.slice A 0 0).ownBlock ∨ ∃ k, w.heap.size ≤ k ∧ (Value.slice a' 0 0).ownBlock = some k) := by
  obtain ⟨a', c', w', hr, ho, hg, hmv, _⟩ := append_kps w base A c l h (some ⟨vb, 0, none⟩) 1 w.heap.size [x] (fun h => by cases h)
    (fun q hq => by
      obtain rfl : q = 0 := by simpa using hq
      exact ⟨vb, 0, rfl, hv.lt, ⟨hv.cell 0, hv.cell 1, hv.cell 2, hv.cell 3⟩⟩) (by simp; omega) hb
  have HMV : Hid ((Value.slice a' 0 0).ownBlock = (Value.slice A 0 0).ownBlock ∨ ∃ k, w.heap.size ≤ k ∧ (Value.slice a' 0 0).ownBlock = some k) := Lib.hid (by
    rcases hmv with hm | ⟨k, hk, hm⟩
    · exact .inl ((block_any _ _ _ _ _).trans (hm.trans (block_any _ _ _ _ _)))
    · exact .inr ⟨k, hk, (block_any _ _ _ _ _).trans hm⟩)
  clear hmv
  rw [insQ_end]
  obtain ⟨N, hN⟩ : ∃ N, (l ++ [x]).length = N := ⟨_, rfl⟩
  obtain ⟨n, hnn⟩ : ∃ n, l.length = n := ⟨_, rfl⟩
  have hcap := (own_cap h).1
  rw [hnn] at hr hg hcap
  rw [hnn]
  rw [hN] at hr
  rw [hN]
  have HR := Lib.hid hr
  have HO := Lib.hid ho
  have HG := Lib.hid (fun n2 c2 => (show w.grownBy w' (Value.slice A n2 c2).ownBlock from block_any A n c n2 c2 ▸ hg))
  have hi0 : (0 : Int) ≤ n := by omega
  clear hr ho hg hN hnn h hn hv hb
  go_enter Try.func53, Try.ntmps53
  go_wp2_with (at_builtin; refine Lib.wpList_append_run _ rfl _ _ _ _ rfl _ _ rfl rfl _ _ HR.out ?_)
  all_goals
    go_ret
    exact ⟨a', c', rfl, HO.out, HG.out _ _, HMV.out⟩
/-- A copy in a region that draws. -/
theorem step_copy_run2 {P : Program} {ops : Array Oper} {o : Oper} {a : Act} {w : World} {K : Act → World → Prop} {Q : Exit → Act → World → Prop} {E : Prop}
    (hg : o.guard = none) (d x : Operand) (dT sT : TypeId) (hop : o.op = Op.call { callee := Callee.builtin Builtin.copy, args := #[d, x], argTypes := #[dT, sT] })
    (v u : Value) (hd : a.eval d = v) (hx : a.eval x = u) {v' : Value} {w' : World} (hr : (Builtin.copy_ #[dT, sT] o.type #[v, u]).run P w = .ok v' w') (hK : K (a.put o.dst v') w') :
    if Region.wanted o (yielded ops a.tmps) = true then Oper.wp P o a w K Q else E := by
  have hw : Region.wanted o (yielded ops a.tmps) = true := by simp [Region.wanted, hg]
  rw [if_pos hw]
  unfold Oper.wp
  simp [execOp, hop, resolve, invoke, builtin, hd, hx, hr, Result.andThen]
  exact hK
theorem wpList_copy_run2 {P : Program} (w : World) {ops : Array Oper} {rest : List Oper} {o : Oper} {a : Act} {Q : Exit → Act → World → Prop} (hgd : o.guard = none) (d s : Operand) (t t' : TypeId)
    (ho : o.op = .call { callee := .builtin .copy, args := #[d, s], argTypes := #[t, t'] }) (v u : Value) (hd : a.eval d = v) (hs : a.eval s = u) {v' : Value} {w' : World}
    (hr : (Builtin.copy_ #[t, t'] o.type #[v, u]).run P w = .ok v' w') (h : wpList P ops Q rest (a.put o.dst v') w') : wpList P ops Q (o :: rest) a w :=
  wpList_plain hgd fun _ hK => by
    unfold Oper.wp execOp
    simp only [ho, resolve, invoke, builtin, Sem.run_bind, Sem.run_pure, Result.andThen_ok, List.map_toArray, List.map_cons, List.map_nil, hd, hs, hr]
    exact hK _ _ h
set_option maxRecDepth 100000 in
set_option maxHeartbeats 2000000 in
theorem insert_room (g c i vb : Nat) (l : List Qs) (x : Qs) (base : Nat) (w : World) (h : OwnK w base (some ⟨g, 0, none⟩) c l) (hn : l.length ≤ 1048000) (hv : Blk w vb 67 #[.int .i64 x.s.t, .int .i64 x.s.v, .pointer (some ⟨x.r, 0, none⟩), .pointer (some ⟨x.a, 0, none⟩)]) (hvg : vb ≠ g) (hi : i < l.length) (hroom : l.length + 1 ≤ c) :
    Calls Try.prog 53 #[.slice (some ⟨g, 0, none⟩) l.length c, .int .i64 (i : Int), .slice (some ⟨vb, 0, none⟩) 1 1] w fun e w' =>
      e = .returned (.slice (some ⟨g, 0, none⟩) (insQ l i x).length c) ∧ OwnK w' base (some ⟨g, 0, none⟩) c (insQ l i x) ∧ w.grownBy w' (some g) := by
  obtain ⟨cur, hg0, hb0, hm0, hs0⟩ : ∃ cur, w.heap[g]? = some (.cells cur 67 (0, 0)) ∧ base ≤ g ∧ c ≤ maxLen ∧ cur.size = c * 4 := by
    rcases h.2 with ⟨e0, _⟩ | ⟨g', cap', cur, e0, hb, hg, hn', hm, hs, ht⟩
    · cases e0
    · injection e0 with e1 _ e3
      injection e1 with e1
      injection e1 with e1
      subst e1 e3
      exact ⟨cur, hg, hb, hm, hs⟩
  have hblk : Blk w g 67 cur := hg0
  have hold : ∀ j u, (qsL l)[j]? = some u → w.cell? ⟨g, j, none⟩ = some u := fun j u hu => by
    have := h.cells (g := g) rfl j u hu
    rwa [Addr.add_lit, Nat.zero_add] at this
  have hsome : ∀ j, j < c * 4 → (w.cell? ⟨g, j, none⟩).isSome = true := fun j hj => by rw [hblk.cell, Array.getElem?_eq_getElem (by omega)]; rfl
  have hfz : ∀ j, w.frozen? ⟨g, j, none⟩ = false := fun j => hblk.frozen j
  have hdl : ((qsL l).drop (i * 4)).length = (l.length - i) * 4 := by rw [List.length_drop, qsL_length]; omega
  have hov : ∀ lb cb, (callFunc 78 #[.slice (some ⟨vb, 0, none⟩) 1 1, .slice (some ⟨g, (i + 1) * 4, none⟩) lb cb]).run Try.prog w = .ok (.value (.bool false)) w := fun lb cb => by
    rw [run_callFunc_extern Try.func78 (by kernel_rfl) (by kernel_rfl) (by kernel_rfl) (e := Extern.SlicesOverlaps.overlaps #[59, 59] #[4]) (by kernel_rfl),
      Lib.run_overlaps_apart w 59 4 67 Try.underlying59 4 Try.sizeOf67 ⟨vb, 0, none⟩ ⟨g, (i + 1) * 4, none⟩ 1 1 lb cb hvg 67 67 4 (c * 4)
        (by unfold Blk at hv; simp [World.shape?, hv]) (by simp [World.shape?, hg0, hs0]) (by omega) (hv.frozen 0) (hv.frozen 4)]
    rfl
  -- the first copy, then the second
  have hcp1 : ∀ ty dc sc, (Builtin.copy_ #[59, 59] ty #[.slice (some ⟨g, (i + 1) * 4, none⟩) (l.length - i) dc, .slice (some ⟨g, i * 4, none⟩) (l.length + 1 - i) sc]).run Try.prog w.drew = .ok (goInt (Nat.min (l.length + 1 - i) (l.length - i))) (w.drew.setCells g ((i + 1) * 4) ((qsL l).drop (i * 4))) := fun ty dc sc =>
    run_copy_k w.drew _ _ ty 67 4 g ((i + 1) * 4) (l.length - i) dc ⟨g, i * 4, none⟩ (l.length + 1 - i) sc ((qsL l).drop (i * 4)) Try.underlying59 kp_size
      (by rw [hdl]; simp only [Nat.min_def]; split <;> omega)
      (fun j v hj => by rw [Addr.add_lit]; exact hold (i * 4 + j) v (by rwa [List.getElem?_drop] at hj))
      (fun j hj => hsome _ (by rw [hdl] at hj; omega)) (fun j _ => hfz _) (fun v hv => qsL_one l v (List.mem_of_mem_drop hv))
  obtain ⟨W1, hW1⟩ : ∃ W1, W1 = w.drew.setCells g ((i + 1) * 4) ((qsL l).drop (i * 4)) := ⟨_, rfl⟩
  have hs1 : ∀ j, j < c * 4 → (W1.cell? ⟨g, j, none⟩).isSome = true := fun j hj => by
    rw [hW1]
    exact isSome_set (w := w.drew) (fun j hj => hsome _ (by rw [hdl] at hj; omega)) _ (hsome j hj)
  have hcp2 : ∀ ty dc, (Builtin.copy_ #[59, 59] ty #[.slice (some ⟨g, i * 4, none⟩) (l.length + 1 - i) dc, .slice (some ⟨vb, 0, none⟩) 1 1]).run Try.prog W1 = .ok (goInt (Nat.min 1 (l.length + 1 - i))) (W1.setCells g (i * 4) x.cells) := fun ty dc =>
    run_copy_k W1 _ _ ty 67 4 g (i * 4) (l.length + 1 - i) dc ⟨vb, 0, none⟩ 1 1 x.cells Try.underlying59 kp_size
      (by simp only [Nat.min_def]; split <;> simp [Qs.cells] <;> omega)
      (fun j v hj => by
        rw [Addr.add_lit, Nat.zero_add, hW1, World.cell?_setCells_out g _ _ _ _ (fun h _ => absurd h hvg)]
        exact (hv.drew.cell j).trans (by simpa [Qs.cells] using hj))
      (fun j hj => hs1 _ (by simp [Qs.cells] at hj; omega)) (fun j _ => by rw [hW1, World.frozen?_setCells]; exact hfz _) (fun v hv => by simp [Qs.cells] at hv; rcases hv with rfl | rfl | rfl | rfl <;> rfl)
  -- what lies there then
  have hfin : OwnK (W1.setCells g (i * 4) x.cells) base (some ⟨g, 0, none⟩) c (insQ l i x) := by
    obtain ⟨c1, h1, z1⟩ := setCells_blk g ((qsL l).drop (i * 4)) ((i + 1) * 4) w.drew cur hg0
    rw [← hW1] at h1
    obtain ⟨c2, h2, z2⟩ := setCells_blk g x.cells (i * 4) W1 c1 h1
    refine own_of_cells h2 hb0 (by omega) (by rw [insQ_length l i x (by omega)]; exact hroom) hm0 (by rw [qsL_length]) (fun j u hu => ?_)
    rcases ins_cell (by omega) hu with ⟨q1, q2⟩ | ⟨q1, q2, q3⟩ | ⟨q1, q2⟩
    · rw [World.cell?_setCells_out g _ _ _ _ (fun _ _ => Or.inl q1), hW1, World.cell?_setCells_out g _ _ _ _ (fun _ _ => Or.inl (by show j < _; omega))]
      exact hold j u q2
    · have hlt := (List.getElem?_eq_some_iff.1 q3).1
      have := World.cell?_setCells_in g x.cells (i * 4) W1 (fun j hj => hs1 _ (by simp [Qs.cells] at hj; omega)) (j - i * 4) hlt
      rw [show i * 4 + (j - i * 4) = j by omega] at this
      rw [this, ← (List.getElem?_eq_some_iff.1 q3).2]
    · have hlt := (List.getElem?_eq_some_iff.1 q2).1
      have := World.cell?_setCells_in g ((qsL l).drop (i * 4)) ((i + 1) * 4) w.drew (fun j hj => hsome _ (by rw [hdl] at hj; omega)) (j - (i + 1) * 4) hlt
      rw [show (i + 1) * 4 + (j - (i + 1) * 4) = j by omega] at this
      rw [World.cell?_setCells_out g _ _ _ _ (fun _ _ => Or.inr (by show i * 4 + _ ≤ j; simp [Qs.cells]; omega)), hW1, this, ← (List.getElem?_eq_some_iff.1 q2).2]
  have hgrow : w.grownBy (W1.setCells g (i * 4) x.cells) (some g) := by
    have t1 : Touch (· = g) w.drew W1 := by rw [hW1]; exact setCells_touch g _ _ _
    have t2 := t1.trans (setCells_touch g x.cells (i * 4) W1)
    exact ⟨t2.os, t2.tape, t2.output, t2.size, fun k hk hne => t2.block k hk (fun e => hne (by rw [e]))⟩
  rw [insQ_length l i x (by omega)]
  have hm1 : c ≤ 9223372036854775807 := by unfold maxLen at hm0; omega
  obtain ⟨n, hnn⟩ : ∃ n, l.length = n := ⟨_, rfl⟩
  rw [hnn] at hcp1 hcp2 hi hroom hn
  rw [hnn]
  have HFIN := Lib.hid (And.intro hfin hgrow)
  have HC1 := Lib.hid hcp1
  have HC2 := Lib.hid hcp2
  have HW1 := Lib.hid hW1
  have w1 : IntKind.i64.wrap ((i : Int) + 1) = (i : Int) + 1 := IntWalk.i64_in _ (by omega)
  have w2 : IntKind.i64.wrap ((n : Int) + 1) = (n : Int) + 1 := IntWalk.i64_in _ (by omega)
  have b1 : (0 : Int) ≤ i := by omega
  have b2 : ¬ ((i : Int) = (n : Int)) := by omega
  have b3 : ((i : Int) == (n : Int)) = false := by rw [beq_eq_false_iff_ne]; exact b2
  have b4 : ¬ ((c : Int) < (n : Int) + 1) := by omega
  have b5 : (i : Int) ≤ n := by omega
  have b6 : ¬ (c = i) := by omega
  have b7 : ¬ (c = i + 1) := by omega
  have b8 : (0 : Int) ≤ (i : Int) + 1 := by omega
  have b9 : (i : Int) + 1 ≤ (n : Int) + 1 := by omega
  have b10 : ((i : Int) + 1).toNat = i + 1 := by omega
  have b11 : ((n : Int) + 1).toNat = n + 1 := by omega
  have b12 : (n : Int) + 1 ≤ c := by omega
  have b13 : (i : Int) ≤ (n : Int) + 1 := by omega
  clear hcp1 hcp2 hfin hgrow hW1 h hn hv hvg hnn hg0 hb0 hm0 hs0 hblk hold hsome hfz hdl hs1 hroom hi
  go_enter Try.func53, Try.ntmps53
  go_wp2_with (simp only [hov])
  clear hov
  have hc1 := HC1.out 3 (c - (i + 1)) (c - i)
  rw [← HW1.out] at hc1
  go_region_law (fail)
  go_wp2_with (with_reducible refine wpList_copy_run2 _ rfl (.tmp 80) (.tmp 81) 59 59 rfl _ _ rfl rfl (HC2.out _ _) ?_)
  go_ret
  exact ⟨rfl, HFIN.out.1, HFIN.out.2⟩
theorem zero_size (k : Nat) : (Builtin.zeroCells (Value.agg #[.int .i64 0, .int .i64 0, .pointer none, .pointer none]).cells k).size = k * 4 := by
  simp [Builtin.zeroCells, Value.cells]
set_option maxRecDepth 100000 in
set_option maxHeartbeats 4000000 in
theorem insert_grow (g c i vb : Nat) (l : List Qs) (x : Qs) (base : Nat) (w : World) (h : OwnK w base (some ⟨g, 0, none⟩) c l) (hn : l.length ≤ 1048000) (hv : Blk w vb 67 #[.int .i64 x.s.t, .int .i64 x.s.v, .pointer (some ⟨x.r, 0, none⟩), .pointer (some ⟨x.a, 0, none⟩)]) (hi : i < l.length) (hroom : c < l.length + 1) (hbase : base ≤ w.heap.size) :
    Calls Try.prog 53 #[.slice (some ⟨g, 0, none⟩) l.length c, .int .i64 (i : Int), .slice (some ⟨vb, 0, none⟩) 1 1] w fun e w' =>
      ∃ a' c', e = .returned (.slice a' (insQ l i x).length c') ∧ OwnK w' base a' c' (insQ l i x) ∧ Below w.heap.size w w' ∧ (Value.slice a' 0 0).ownBlock = some w.heap.size := by
  have hcap := (own_cap h).1
  have hgl := (World.ownsRow.lt h g rfl).2
  have hold : ∀ j u, (qsL l)[j]? = some u → w.cell? ⟨g, j, none⟩ = some u := fun j u hu => by
    have := h.cells (g := g) rfl j u hu
    rwa [Addr.add_lit, Nat.zero_add] at this
  have hdl : ((qsL l).drop (i * 4)).length = (l.length - i) * 4 := by rw [List.length_drop, qsL_length]; omega
  obtain ⟨i0, hi0, hz0, hz1, hz2⟩ := info_parts kp_info
  have hfc : (Builtin.firstCells i0.size i (.slice (some ⟨g, 0, none⟩) i c)).run Try.prog w.drew = .ok (qsL (l.take i)).toArray w.drew := by
    rw [hz1]
    exact run_firstCells_some w.drew 4 i ⟨g, 0, none⟩ i c (qsL (l.take i)) (by rw [qsL_length, List.length_take]; omega) (fun j v hj => by
      rw [Addr.add_lit, Nat.zero_add]
      rw [qsL_take, List.getElem?_take] at hj
      split at hj
      · exact hold j v hj
      · cases hj)
  have hik : i + (l.length + 1 - i) = l.length + 1 := by omega
  have hrz : ∀ ty, (Builtin.append_ #[59, 3] ty #[.slice (some ⟨g, 0, none⟩) i c, .int .i64 ((l.length : Int) + 1 - (i : Int))]).run Try.prog w =
      .ok (.slice (some ⟨w.heap.size, 0, none⟩) (l.length + 1) (grownCap w (l.length + 1) c 67)) (w.drew.alloc (.cells ((qsL (l.take i)).toArray ++ Builtin.zeroCells (Value.agg #[.int .i64 0, .int .i64 0, .pointer none, .pointer none]).cells (l.length + 1 - i) ++ Builtin.zeroCells (Value.agg #[.int .i64 0, .int .i64 0, .pointer none, .pointer none]).cells (grownCap w (l.length + 1) c 67 - (l.length + 1))) 67)) := fun ty => by
    have h := Lib.run_append_grow_zeros w 59 3 ty 67 i0 _ .i64 .i64 Try.underlying59 Try.underlying3 hi0 hz0 (some ⟨g, 0, none⟩) i c _ hfc (l.length + 1 - i) (by omega) (by omega) (by omega) (by omega) (by rw [hz2]; omega) (by rw [hz2, hik]; exact growslice_fits hroom (by omega))
    rw [hik] at h
    rw [show (l.length : Int) + 1 - (i : Int) = ((l.length + 1 - i : Nat) : Int) by omega]
    exact h
  obtain ⟨G, hG⟩ : ∃ G, G = grownCap w (l.length + 1) c 67 := ⟨_, rfl⟩
  obtain ⟨ROW, hROW⟩ : ∃ ROW : Array Value, ROW = (qsL (l.take i)).toArray ++ Builtin.zeroCells (Value.agg #[.int .i64 0, .int .i64 0, .pointer none, .pointer none]).cells (l.length + 1 - i) ++ Builtin.zeroCells (Value.agg #[.int .i64 0, .int .i64 0, .pointer none, .pointer none]).cells (G - (l.length + 1)) := ⟨_, rfl⟩
  rw [← hG, ← hROW] at hrz
  have hGn : l.length + 1 ≤ G := by rw [hG]; exact grownCap_ge w _ _ _
  have hGm : G ≤ maxLen := by rw [hG]; exact grownCap_le_maxLen w _ _ _ (by unfold maxLen; omega)
  have hRs : ROW.size = G * 4 := by
    rw [hROW, Array.size_append, Array.size_append, zero_size, zero_size]
    simp only [List.size_toArray, qsL_length, List.length_take]
    omega
  have hRold : ∀ j u, j < i * 4 → (qsL l)[j]? = some u → ROW[j]? = some u := fun j u hj hu => by
    rw [hROW, Array.getElem?_append_left (by simp only [Array.size_append, List.size_toArray, qsL_length, List.length_take]; omega), Array.getElem?_append_left (by simp only [List.size_toArray, qsL_length, List.length_take]; omega)]
    rw [List.getElem?_toArray, qsL_take, List.getElem?_take, if_pos hj]
    exact hu
  have hnb := Blk.new w 67 ROW
  have hvb := hv.alloc (.cells ROW 67)
  obtain ⟨N, hN⟩ : ∃ N, w.heap.size = N := ⟨_, rfl⟩
  have hoW : ∀ j u, (qsL l)[j]? = some u → (w.alloc (.cells ROW 67)).cell? ⟨g, j, none⟩ = some u := fun j u hu => (World.cell?_of_block (Below.heap_alloc w _ g hgl)).trans (hold j u hu)
  have bW := (Below.refl w.heap.size w).alloc (Nat.le_refl _) (.cells ROW 67)
  rw [hN] at hnb hrz hgl hbase
  obtain ⟨W1, hW1⟩ : ∃ W1, w.alloc (.cells ROW 67) = W1 := ⟨_, rfl⟩
  rw [hW1] at hnb hvb hoW bW
  have hW1d : w.drew.alloc (.cells ROW 67) = W1.drew := by rw [← hW1]; rfl
  rw [hW1d] at hrz
  have hNs : ∀ j, j < (l.length + 1) * 4 → (W1.drew.cell? ⟨N, j, none⟩).isSome = true := fun j hj => by rw [hnb.drew.cell, Array.getElem?_eq_getElem (by omega)]; rfl
  have hvN : vb ≠ N := by have := hv.lt; omega
  have hcpA : ∀ ty dc, (Builtin.copy_ #[59, 59] ty #[.slice (some ⟨N, i * 4, none⟩) (l.length + 1 - i) dc, .slice (some ⟨vb, 0, none⟩) 1 1]).run Try.prog W1.drew = .ok (goInt (Nat.min 1 (l.length + 1 - i))) (W1.drew.setCells N (i * 4) x.cells) := fun ty dc =>
    run_copy_k W1.drew _ _ ty 67 4 N (i * 4) (l.length + 1 - i) dc ⟨vb, 0, none⟩ 1 1 x.cells Try.underlying59 kp_size
      (by simp only [Nat.min_def]; split <;> simp [Qs.cells] <;> omega)
      (fun j v hj => by
        rw [Addr.add_lit, Nat.zero_add]
        exact (hvb.drew.cell j).trans (by simpa [Qs.cells] using hj))
      (fun j hj => hNs _ (by simp [Qs.cells] at hj; omega)) (fun j _ => hnb.frozen _) (fun v hv => by simp [Qs.cells] at hv; rcases hv with rfl | rfl | rfl | rfl <;> rfl)
  obtain ⟨W2, hW2⟩ : ∃ W2, W2 = W1.drew.setCells N (i * 4) x.cells := ⟨_, rfl⟩
  have hN2 : ∀ j, j < (l.length + 1) * 4 → (W2.cell? ⟨N, j, none⟩).isSome = true := fun j hj => by
    rw [hW2]
    exact isSome_set (w := W1.drew) (fun j hj => hNs _ (by simp [Qs.cells] at hj; omega)) _ (hNs j hj)
  have hcpB : ∀ ty dc sc, (Builtin.copy_ #[59, 59] ty #[.slice (some ⟨N, (i + 1) * 4, none⟩) (l.length - i) dc, .slice (some ⟨g, i * 4, none⟩) (l.length - i) sc]).run Try.prog W2.drew = .ok (goInt (Nat.min (l.length - i) (l.length - i))) (W2.drew.setCells N ((i + 1) * 4) ((qsL l).drop (i * 4))) := fun ty dc sc =>
    run_copy_k W2.drew _ _ ty 67 4 N ((i + 1) * 4) (l.length - i) dc ⟨g, i * 4, none⟩ (l.length - i) sc ((qsL l).drop (i * 4)) Try.underlying59 kp_size
      (by rw [hdl]; simp only [Nat.min_def]; split <;> omega)
      (fun j v hj => by
        rw [Addr.add_lit]
        show W2.cell? _ = _
        rw [hW2, World.cell?_setCells_out N _ _ _ _ (fun h _ => absurd h (by show g ≠ N; omega))]
        exact hoW (i * 4 + j) v (by rwa [List.getElem?_drop] at hj))
      (fun j hj => hN2 _ (by rw [hdl] at hj; omega)) (fun j _ => by show W2.frozen? _ = _; rw [hW2, World.frozen?_setCells]; exact hnb.frozen _) (fun v hv => qsL_one l v (List.mem_of_mem_drop hv))
  obtain ⟨W3, hW3⟩ : ∃ W3, W3 = W2.drew.setCells N ((i + 1) * 4) ((qsL l).drop (i * 4)) := ⟨_, rfl⟩
  have hfin : OwnK W3 base (some ⟨N, 0, none⟩) G (insQ l i x) := by
    obtain ⟨c1, h1, z1⟩ := setCells_blk N x.cells (i * 4) W1.drew ROW hnb
    rw [← hW2] at h1
    obtain ⟨c2, h2, z2⟩ := setCells_blk N ((qsL l).drop (i * 4)) ((i + 1) * 4) W2.drew c1 h1
    rw [← hW3] at h2
    refine own_of_cells h2 hbase (by omega) (by rw [insQ_length l i x (by omega)]; exact hGn) hGm (by rw [qsL_length]) (fun j u hu => ?_)
    rcases ins_cell (by omega) hu with ⟨q1, q2⟩ | ⟨q1, q2, q3⟩ | ⟨q1, q2⟩
    · rw [hW3, World.cell?_setCells_out N _ _ _ _ (fun _ _ => Or.inl (by show j < _; omega))]
      show W2.cell? _ = _
      rw [hW2, World.cell?_setCells_out N _ _ _ _ (fun _ _ => Or.inl q1)]
      exact (hnb.drew.cell j).trans (hRold j u q1 q2)
    · have hlt := (List.getElem?_eq_some_iff.1 q3).1
      have := World.cell?_setCells_in N x.cells (i * 4) W1.drew (fun j hj => hNs _ (by simp [Qs.cells] at hj; omega)) (j - i * 4) hlt
      rw [show i * 4 + (j - i * 4) = j by omega] at this
      rw [hW3, World.cell?_setCells_out N _ _ _ _ (fun _ _ => Or.inl (by show j < _; omega))]
      show W2.cell? _ = _
      rw [hW2, this, ← (List.getElem?_eq_some_iff.1 q3).2]
    · have hlt := (List.getElem?_eq_some_iff.1 q2).1
      have := World.cell?_setCells_in N ((qsL l).drop (i * 4)) ((i + 1) * 4) W2.drew (fun j hj => hN2 _ (by rw [hdl] at hj; omega)) (j - (i + 1) * 4) hlt
      rw [show (i + 1) * 4 + (j - (i + 1) * 4) = j by omega] at this
      rw [hW3, this, ← (List.getElem?_eq_some_iff.1 q2).2]
  have hbel : Below N w W3 := by
    have t1 : Touch (· = N) W1.drew W2 := by rw [hW2]; exact setCells_touch N _ _ _
    have t2 : Touch (· = N) W2.drew W3 := by rw [hW3]; exact setCells_touch N _ _ _
    have t3 : Touch (· = N) W1 W3 := ⟨t2.os.trans t1.os, t2.tape.trans t1.tape, t2.output.trans t1.output, Nat.le_trans t1.size t2.size, fun k hk hp => (t2.block k (Nat.lt_of_lt_of_le hk t1.size) hp).trans (t1.block k hk hp)⟩
    rw [hN] at bW
    exact bW.trans (t3.below (by have := bW.size; omega) (fun k hk => by omega))
  rw [insQ_length l i x (by omega)]
  obtain ⟨n, hnn⟩ : ∃ n, l.length = n := ⟨_, rfl⟩
  rw [hnn] at hrz hcpA hcpB hi hroom hcap hn hGn
  rw [hnn, hN]
  have HFIN := Lib.hid (And.intro hfin hbel)
  have HRZ := Lib.hid hrz
  have HCA := Lib.hid hcpA
  have HCB := Lib.hid hcpB
  have HW2 := Lib.hid hW2
  have HW3 := Lib.hid hW3
  have hcA := hcpA 3 (G - i)
  rw [← hW2] at hcA
  have hcB := hcpB 3 (G - (i + 1)) (c - i)
  rw [← hW3] at hcB
  have w1 : IntKind.i64.wrap ((i : Int) + 1) = (i : Int) + 1 := IntWalk.i64_in _ (by omega)
  have w2 : IntKind.i64.wrap ((n : Int) + 1) = (n : Int) + 1 := IntWalk.i64_in _ (by omega)
  have hG63 : G ≤ 9223372036854775807 := by unfold maxLen at hGm; omega
  have b1 : (0 : Int) ≤ i := by omega
  have b2 : ¬ ((i : Int) = (n : Int)) := by omega
  have b3 : ((i : Int) == (n : Int)) = false := by rw [beq_eq_false_iff_ne]; exact b2
  have b4 : (c : Int) < (n : Int) + 1 := by omega
  have b5 : (i : Int) ≤ n := by omega
  have b6 : ¬ (c = i) := by omega
  have b7 : ¬ (G = i) := by omega
  have b7' : ¬ (G = i + 1) := by omega
  have b8 : (0 : Int) ≤ (i : Int) + 1 := by omega
  have b9 : (i : Int) + 1 ≤ (n : Int) + 1 := by omega
  have b10 : ((i : Int) + 1).toNat = i + 1 := by omega
  have b11 : (i : Int) ≤ (n : Int) + 1 := by omega
  have b12 : (i : Int) ≤ c := by omega
  have b13 : (0 : Int) ≤ (n : Int) + 1 - i := by omega
  have w4 : IntKind.i64.wrap ((n : Int) + 1 - (i : Int)) = (n : Int) + 1 - (i : Int) := IntWalk.i64_in _ (by omega)
  have w3 : wrap64 ((n : Int) + 1 - (i : Int)) = (n : Int) + 1 - (i : Int) := IntWalk.wrap64_in _ (by omega)
  clear hrz hcpA hcpB hfin hbel hW1 hW1d hW2 hW3 h hn hv hvb hnb hoW bW hNs hN2 hvN hnn hold hdl hfc hik hG hROW hRs hRold hGm hi0 hz0 hz1 hz2 hroom hi hcap hgl hbase hN hGn
  go_enter Try.func53, Try.ntmps53
  go_wp2_with (at_builtin; refine Lib.wpList_append_run _ rfl _ _ _ _ rfl _ _ rfl rfl _ _ (HRZ.out 59) ?_)
  go_region_law (fail)
  go_wp2_with fail
  go_ret
  exact ⟨_, _, rfl, HFIN.out.1, HFIN.out.2, rfl⟩
theorem grown_below {w w' : World} {r : Option Nat} (h : Below w.heap.size w w') : w.grownBy w' r := ⟨h.os, h.tape, h.output, h.size, fun k hk _ => h.block k hk⟩
/-- Wherever. -/
theorem insert_any (A : Option Addr) (c i vb : Nat) (l : List Qs) (x : Qs) (base : Nat) (w : World) (h : OwnK w base A c l) (hn : l.length ≤ 1048000) (hv : Blk w vb 67 #[.int .i64 x.s.t, .int .i64 x.s.v, .pointer (some ⟨x.r, 0, none⟩), .pointer (some ⟨x.a, 0, none⟩)]) (hvA : (Value.slice A l.length c).ownBlock ≠ some vb) (hi : i ≤ l.length) (hbase : base ≤ w.heap.size) :
    Calls Try.prog 53 #[.slice A l.length c, .int .i64 (i : Int), .slice (some ⟨vb, 0, none⟩) 1 1] w fun e w' =>
      ∃ a' c', e = .returned (.slice a' (insQ l i x).length c') ∧ OwnK w' base a' c' (insQ l i x) ∧ w.grownBy w' (Value.slice A l.length c).ownBlock ∧ ((Value.slice a' 0 0).ownBlock = (Value.slice A 0 0).ownBlock ∨ ∃ k, w.heap.size ≤ k ∧ (Value.slice a' 0 0).ownBlock = some k) := by
  by_cases he : i = l.length
  · subst he
    exact insert_end A c l x vb base w h hn hv hbase
  · obtain ⟨g, cap, e, _, _⟩ := h.form (show 0 < l.length by omega)
    injection e with e1 _ e3
    subst e1 e3
    by_cases hr : l.length + 1 ≤ c
    · refine (insert_room g c i vb l x base w h hn hv (fun e => hvA (by rw [e]; rfl)) (by omega) hr).mono fun e w' hh => ?_
      exact ⟨_, _, hh.1, hh.2.1, hh.2.2, .inl rfl⟩
    · refine (insert_grow g c i vb l x base w h hn hv (by omega) (by omega) hbase).mono fun e w' hh => ?_
      obtain ⟨a', c', h1, h2, h3, h4⟩ := hh
      exact ⟨a', c', h1, h2, grown_below h3, .inr ⟨_, Nat.le_refl _, h4⟩⟩
end
section
/- slices.DeleteFunc of the slots that are idle. Its condition: fewer than 2^20 slots. -/
open Go.RowKit
set_option maxRecDepth 100000

/-- Is a slot idle? -/
def idQ (x : Qs) : Bool := idleS x.s
set_option maxHeartbeats 2000000 in
theorem idle_any {x : Qs} {w : World} (hr : RgAt w x.r x.s.r) (ha : ApAt w x.a x.s.a) :
    Calls Try.prog 56 #[x.val] w fun e w' => e = .returned (.bool (idQ x)) ∧ Below w.heap.size w w' := by
  have hb := bel_alloc w (.cells #[.int .i64 x.s.t, .int .i64 x.s.v, .pointer (some ⟨x.r, 0, none⟩), .pointer (some ⟨x.a, 0, none⟩)] 67)
  have HR := Lib.hid (ridle_any (hr.below hb hr.lt))
  have HA := Lib.hid (aidle_any (ha.below hb ha.lt))
  obtain ⟨v, hv⟩ : ∃ v, idQ x = v := ⟨_, rfl⟩
  rw [hv]
  have HV := Lib.hid (show (idleR x.s.r && decide (x.s.a.state = 0)) = v from hv)
  have HB := Lib.hid hb
  clear hv hb hr ha
  unfold Qs.val
  cases hi : idleR x.s.r with
  | false =>
    rw [hi] at HR HV
    have HV2 := Lib.hid (show false = v by rw [← HV.out]; rfl)
    clear hi HV
    go_enter Try.func56, Try.ntmps56
    go_wp2_with (go_at_call 81; refine HR.out.mono ?_; rintro e w' ⟨rfl, rfl⟩)
    go_ret
    exact ⟨ret_bool HV2.out, HB.out⟩
  | true =>
    rw [hi] at HR HV
    have HV2 := Lib.hid (show (x.s.a.state == 0) = v by rw [← HV.out]; rfl)
    clear hi HV
    go_enter Try.func56, Try.ntmps56
    go_wp2_with (first | (go_at_call 81; refine HR.out.mono ?_; rintro e w' ⟨rfl, rfl⟩) | (go_at_call 82; refine HA.out.mono ?_; rintro e w' ⟨rfl, rfl⟩))
    go_ret
    exact ⟨ret_bool HV2.out, HB.out⟩
theorem eg_idle : ∀ args w, (callFunc 56 args).run Try.prog w = .ok (.enter 56 args) w := enters_of Try.func56 (by kernel_rfl) rfl
/-- The place of the first that is idle; none: as many as there are. -/
def firstQ (l : List Qs) : Nat := (l.takeWhile fun t => !idQ t).length
theorem first_stop (l : List Qs) (j : Nat) (hj : j ≤ l.length) (h : ∀ i, i < j → idQ (l.getD i qs0) = false) (he : j < l.length → idQ (l.getD j qs0) = true) : firstQ l = j := by
  induction l generalizing j with
  | nil => simp at hj; subst hj; rfl
  | cons a l ih =>
    cases j with
    | zero =>
      have := he (by simp)
      simp only [List.getD_cons_zero] at this
      simp [firstQ, this]
    | succ j =>
      have h0 := h 0 (by omega)
      simp only [List.getD_cons_zero] at h0
      have := ih j (by simpa using hj) (fun r hr => by simpa using h (r + 1) (by omega)) (fun hlt => by simpa using he (by simpa using hlt))
      simp only [firstQ] at this ⊢
      simp [h0, this]
def idxQ (l : List Qs) : Int := if firstQ l < l.length then (firstQ l : Int) else -1
set_option maxHeartbeats 2000000 in
theorem index_idle (A : Option Addr) (c : Nat) (l : List Qs) (w : World) (hA : KpAt w w.heap.size A l) (hn : l.length ≤ 1048000) (hq : QsAt w l) :
    Calls Try.prog 80 #[.slice A l.length c, .func (.func 56) #[] #[]] w fun e w' =>
      e = .returned (.int .i64 (idxQ l)) ∧ Below w.heap.size w w' := by
  obtain ⟨n, hnn⟩ : ∃ n, l.length = n := ⟨_, rfl⟩
  rw [hnn]
  obtain ⟨ix, hix⟩ : ∃ ix, idxQ l = ix := ⟨_, rfl⟩
  rw [hix]
  have HIX := Lib.hid (show (if firstQ l < n then (firstQ l : Int) else -1) = ix by rw [← hix, ← hnn]; rfl)
  clear hix
  have HN := Lib.hid hnn
  have HN5 := Lib.hid hn
  have HA := Lib.hid hA
  have HC := Lib.hid hq
  clear hnn hn hA hq
  go_enter Try.func80, Try.ntmps80
  go_wp2_with fail
  go_loopw [8] (fun i wr => ∃ j : Nat, j ≤ n ∧ i = .int .i64 j ∧ Hid (∀ r, r < j → idQ (l.getD r qs0) = false) ∧ Hid (Below w.heap.size w wr)) (fun i _ => n - (intOf i).toNat)
  case atStart => exact ⟨0, Nat.zero_le _, rfl, Lib.hid (fun r hr => absurd hr (Nat.not_lt_zero _)), Lib.hid (Below.refl _ _)⟩
  case round =>
    obtain ⟨j, hj, rfl, hf, hB⟩ := hrel
    by_cases hlt : j < n
    · obtain ⟨b, off, eb, hbl, p⟩ := HA.out j (by rw [HN.out]; exact hlt)
      subst eb
      obtain ⟨x, hx⟩ : ∃ x, l.getD j qs0 = x := ⟨_, rfl⟩
      rw [hx] at p
      have q := p.below hbl hB.out
      have q0 := q.c0
      have q1 := q.c1
      have q2 := q.c2
      have q3 := q.c3
      have hxm : x ∈ l := by rw [← hx]; exact getD_mem' (by rw [HN.out]; exact hlt)
      have hqx := (HC.out.below hB.out).each x hxm
      have hcl := idle_any hqx.1 hqx.2
      have HX := Lib.hid hx
      have j1 : (j : Int) < n := by omega
      have j0 : (0 : Int) ≤ j := by omega
      have HJ := Lib.hid (show wrap64 ((j : Int) + 1) = (j : Int) + 1 from IntWalk.wrap64_in _ (by have := HN5.out; have := HN.out; omega))
      clear p q hbl hx hj hxm hqx
      cases hlb : idQ x with
      | true =>
        rw [hlb] at hcl
        have HCL := Lib.hid hcl
        have hst := first_stop l j (by rw [HN.out]; omega) hf.out (fun _ => by rw [HX.out]; exact hlb)
        have HST := Lib.hid (show (j : Int) = ix by rw [← HIX.out, hst, if_pos hlt])
        clear hcl hlb hst
        go_wp2_with fail
        refine HCL.out.mono ?_
        rintro e w2 ⟨rfl, b2⟩
        go_wp2_with fail
        go_ret
        exact ⟨ret_i64 HST.out, hB.out.trans (b2.mono hB.out.size)⟩
      | false =>
        rw [hlb] at hcl
        have HCL := Lib.hid hcl
        have HL := Lib.hid hlb
        have jw := HJ.out
        clear hcl hlb
        go_wp2_with fail
        refine HCL.out.mono ?_
        rintro e w2 ⟨rfl, b2⟩
        go_wp2_with fail
        go_roundw
        case rel =>
          rw [jw]
          refine ⟨j + 1, hlt, by rw [Int.natCast_add]; rfl, Lib.hid (fun r hr => ?_), Lib.hid (hB.out.trans (b2.mono hB.out.size))⟩
          by_cases e : r = j
          · subst e; rw [HX.out]; exact HL.out
          · exact hf.out r (by omega)
        case measure =>
          rw [jw]
          show n - ((j : Int) + 1).toNat < n - ((j : Int)).toNat
          omega
    · obtain rfl : n = j := by omega
      have hst := first_stop l n (by rw [HN.out]; exact Nat.le_refl _) hf.out (fun h => absurd h (by rw [HN.out]; omega))
      have HST := Lib.hid (show (-1 : Int) = ix by rw [← HIX.out, hst, if_neg (Nat.lt_irrefl _)])
      clear hst hj hlt
      go_wp2_with fail
      go_ret
      exact ⟨ret_i64 HST.out, hB.out⟩

/-- The ones that aren't late. -/
def keepQ (l : List Qs) : List Qs := l.filter fun t => !idQ t
/-- Zeros in n slots. -/
def zeroQ (n : Nat) : List Value := (Builtin.zeroCells (Value.agg #[.int .i64 0, .int .i64 0, .pointer none, .pointer none]).cells n).toList
theorem zeroQ_len (n : Nat) : (zeroQ n).length = n * 4 := by unfold zeroQ; rw [Array.length_toList, zero_size]
theorem zeroQ_one (n : Nat) : ∀ u ∈ zeroQ n, u.oneCell' = true := by
  intro u hu
  obtain ⟨i, hi, rfl⟩ := List.getElem_of_mem hu
  rw [zeroQ_len] at hi
  simp only [zeroQ, Builtin.zeroCells, Value.cells, Array.getElem_toList, Array.getElem_map, Array.getElem_range]
  have h3 : i % 4 = 0 ∨ i % 4 = 1 ∨ i % 4 = 2 ∨ i % 4 = 3 := by omega
  rcases h3 with h3 | h3 | h3 | h3
  all_goals
    show ((#[Value.int .i64 0, .int .i64 0, .pointer none, .pointer none] : Array Value)[i % 4]!).oneCell' = true
    rw [h3]; rfl
theorem run_clear_kps (w : World) (ty : TypeId) (b o n c : Nat) (hn : 0 < n) (hc : ∀ j, j < n * 4 → (w.cell? ⟨b, o + j, none⟩).isSome = true) (hf : ∀ j, j < n * 4 → w.frozen? ⟨b, o + j, none⟩ = false) :
    (Builtin.clear_ #[59] ty #[.slice (some ⟨b, o, none⟩) n c]).run Try.prog w = .ok (.tuple #[]) (w.setCells b o (zeroQ n)) := by
  have hst := run_storeCells_cells (P := Try.prog) b o (zeroQ n) 0 w (by rw [zeroQ_len]; simpa using hc) (by rw [zeroQ_len]; simpa using hf) (zeroQ_one n)
  simp only [Nat.add_zero] at hst
  have hz := Try.zeroValue67
  obtain ⟨m, rfl⟩ : ∃ m, n = m + 1 := ⟨n - 1, by omega⟩
  have hzc : (Builtin.zeroCells (Value.agg #[.int .i64 0, .int .i64 0, .pointer none, .pointer none]).cells (m + 1)).toList = zeroQ (m + 1) := rfl
  simp [Builtin.clear_, run_underlying Try.underlying59, hz, hzc, hst]
/-- Where the loop stands: what is kept ahead of i, what came from j on. -/
def FilQ (l L : List Qs) (i j : Nat) : Prop := L.length = l.length ∧ L.take i = keepQ (l.take j) ∧ L.drop j = l.drop j
theorem keep_take (l : List Qs) (j : Nat) (hj : j < l.length) : keepQ (l.take (j + 1)) = keepQ (l.take j) ++ (if idQ (l.getD j qs0) then [] else [l.getD j qs0]) := by
  have e : l.getD j qs0 = l[j] := by simp [List.getD_eq_getElem?_getD, List.getElem?_eq_getElem hj]
  rw [List.take_succ_eq_append_getElem hj, e]
  unfold keepQ
  rw [List.filter_append]
  congr 1
  cases h : idQ l[j] <;> simp [h]
theorem drop_at (l L : List Qs) (j : Nat) (h : L.drop j = l.drop j) (k : Nat) (hk : j ≤ k) : L.getD k qs0 = l.getD k qs0 := by
  have e := congrArg (fun z => z[k - j]?) h
  simp only [List.getElem?_drop] at e
  rw [show j + (k - j) = k by omega] at e
  simp only [List.getD_eq_getElem?_getD, e]
theorem fil_late {l L : List Qs} {i j : Nat} (h : FilQ l L i j) (hj : j < l.length) (hl : idQ (l.getD j qs0) = true) : FilQ l L i (j + 1) := by
  refine ⟨h.1, by rw [keep_take l j hj, if_pos hl, List.append_nil]; exact h.2.1, ?_⟩
  rw [← List.drop_drop, ← List.drop_drop, h.2.2]
theorem fil_keep {l L : List Qs} {i j : Nat} (h : FilQ l L i j) (hi : i < j) (hj : j < l.length) (hl : idQ (l.getD j qs0) = false) : FilQ l (L.set i (l.getD j qs0)) (i + 1) (j + 1) := by
  have hL := h.1
  refine ⟨by rw [List.length_set]; exact hL, ?_, ?_⟩
  · rw [keep_take l j hj, hl, ← h.2.1]
    rw [List.take_succ_eq_append_getElem (by rw [List.length_set]; omega), List.take_set_of_le (Nat.le_refl _)]
    simp
  · rw [List.drop_set_of_lt (by omega), ← List.drop_drop, ← List.drop_drop, h.2.2]
theorem fil_end {l L : List Qs} {i : Nat} (h : FilQ l L i l.length) : L.take i = keepQ l := by rw [h.2.1, List.take_length]
theorem fil_start (l : List Qs) (h : firstQ l < l.length) : FilQ l l (firstQ l) (firstQ l + 1) := by
  refine ⟨rfl, ?_, rfl⟩
  induction l with
  | nil => simp at h
  | cons a l ih =>
    cases hl : idQ a with
    | true => simp [firstQ, keepQ, hl]
    | false =>
      have e : firstQ (a :: l) = firstQ l + 1 := by simp [firstQ, hl]
      rw [e] at h ⊢
      rw [List.take_succ_cons, ih (by simpa using h), List.take_succ_cons]
      simp [keepQ, hl]
theorem keep_none (l : List Qs) (h : ¬ firstQ l < l.length) : keepQ l = l := by
  induction l with
  | nil => rfl
  | cons a l ih =>
    cases hl : idQ a with
    | true => simp [firstQ, hl] at h
    | false =>
      have e : firstQ (a :: l) = firstQ l + 1 := by simp [firstQ, hl]
      rw [e] at h
      have := ih (by simpa using h)
      simp only [keepQ, List.filter_cons, hl, Bool.not_false, if_true] at this ⊢
      rw [this]
/-- A row of slots that is one of the program's own, by its block. -/
structure RowK (w : World) (base g c : Nat) (l : List Qs) : Prop where
  own : OwnK w base (some ⟨g, 0, none⟩) c l
theorem RowK.cell {w : World} {base g c : Nat} {l : List Qs} (h : RowK w base g c l) (k : Nat) (hk : k < l.length) : KCells w g (k * 4) (l.getD k qs0) := by
  obtain ⟨b, off, e, _, p⟩ := h.own.at_ k hk
  injection e with e
  injection e with e1 e2
  subst e1 e2
  rwa [Nat.zero_add] at p
theorem own_setk {w : World} {base g n c size : Nat} {e : TypeId} {xs : List Value} (h : w.ownsRow base e size (.slice (some ⟨g, 0, none⟩) n c) n xs) (j : Nat) (u : Value) : (w.setCell ⟨g, j, none⟩ u).ownsRow base e size (.slice (some ⟨g, 0, none⟩) n c) n (xs.set j u) := by
  refine ⟨by rw [List.length_set]; exact h.1, .inr ?_⟩
  rcases h.2 with ⟨h, _⟩ | ⟨g', cap, cur, he, hb, hg, hn, hm, hs, ht⟩
  · cases h
  · injection he with e1 e2 e3
    injection e1 with e1
    injection e1 with e1
    subst e1 e3
    refine ⟨g, c, cur.setIfInBounds j u, rfl, hb, ?_, hn, hm, by simpa using hs, ?_⟩
    · simp [World.setCell, Array.getElem?_modify, hg]
    · rw [Array.toList_setIfInBounds, List.take_set, ht]
theorem qsL_put (l : List Qs) (i : Nat) (x : Qs) (hi : i < l.length) : qsL (l.set i x) = ((((qsL l).set (i * 4) (.int .i64 x.s.t)).set (i * 4 + 1) (.int .i64 x.s.v)).set (i * 4 + 2) (.pointer (some ⟨x.r, 0, none⟩))).set (i * 4 + 3) (.pointer (some ⟨x.a, 0, none⟩)) := by
  induction l generalizing i with
  | nil => simp at hi
  | cons a l ih =>
    cases i with
    | zero => simp [qsL, Qs.cells]
    | succ i =>
      have e : a.cells.length = 4 := rfl
      have s : ∀ (L : List Value) (j : Nat) (u : Value), (a.cells ++ L).set ((i + 1) * 4 + j) u = a.cells ++ L.set (i * 4 + j) u := fun L j u => by
        rw [List.set_append_right _ _ (by omega), e, show (i + 1) * 4 + j - 4 = i * 4 + j by omega]
      rw [List.set_cons_succ, qsL, ih i (by simpa using hi), qsL]
      rw [show (a.cells ++ qsL l).set ((i + 1) * 4) (.int .i64 x.s.t) = a.cells ++ (qsL l).set (i * 4) (.int .i64 x.s.t) from s _ 0 _, s, s, s]
def putK (w : World) (g i : Nat) (x : Qs) : World := (((w.setCell ⟨g, i * 4, none⟩ (.int .i64 x.s.t)).setCell ⟨g, i * 4 + 1, none⟩ (.int .i64 x.s.v)).setCell ⟨g, i * 4 + 2, none⟩ (.pointer (some ⟨x.r, 0, none⟩))).setCell ⟨g, i * 4 + 3, none⟩ (.pointer (some ⟨x.a, 0, none⟩))
theorem RowK.set_ {w : World} {base g c : Nat} {l : List Qs} (h : RowK w base g c l) (i : Nat) (x : Qs) (hi : i < l.length) : RowK (putK w g i x) base g c (l.set i x) := by
  have h1 := own_setk (own_setk (own_setk (own_setk h.own (i * 4) (.int .i64 x.s.t)) (i * 4 + 1) (.int .i64 x.s.v)) (i * 4 + 2) (.pointer (some ⟨x.r, 0, none⟩))) (i * 4 + 3) (.pointer (some ⟨x.a, 0, none⟩))
  refine ⟨?_⟩
  unfold OwnK
  rw [List.length_set, qsL_put l i x hi]
  exact h1
theorem putK_touch {w0 w : World} {g i : Nat} {x : Qs} (h : Touch (· = g) w0 w) : Touch (· = g) w0 (putK w g i x) := (((h.set_ (fun _ => rfl) _).set_ (fun _ => rfl) _).set_ (fun _ => rfl) _).set_ (fun _ => rfl) _
theorem RowK.below {w w' : World} {base g c : Nat} {l : List Qs} (h : RowK w base g c l) (b : Below w.heap.size w w') : RowK w' base g c l :=
  ⟨own_heap h.own fun k hk => b.block k (World.ownsRow.lt h.own k hk).2⟩
theorem row_cut {w : World} {base g c i : Nat} {L : List Qs} (h : RowK w base g c L) (hi : i ≤ L.length) (vs : List Value) : OwnK (w.setCells g (i * 4) vs) base (some ⟨g, 0, none⟩) c (L.take i) := by
  have hc := (own_cap h.own).1
  have hl : (L.take i).length = i := by rw [List.length_take]; omega
  rcases h.own.2 with ⟨e0, _⟩ | ⟨g', cap', cur, e0, hb, hg, hn', hm, hs, ht⟩
  · cases e0
  · injection e0 with e1 _ e3
    injection e1 with e1
    injection e1 with e1
    subst e1 e3
    obtain ⟨c2, h2, z2⟩ := setCells_blk g vs (i * 4) w cur hg
    refine own_of_cells h2 hb (by omega) (by rw [hl]; omega) hm (by rw [qsL_length]) (fun j u hu => ?_)
    rw [qsL_take, List.getElem?_take] at hu
    split at hu
    · rename_i hj
      rw [World.cell?_setCells_out g _ _ _ _ (fun _ _ => Or.inl hj)]
      have := h.own.cells (g := g) rfl j u hu
      rwa [Addr.add_lit, Nat.zero_add] at this
    · cases hu
set_option maxRecDepth 100000 in
set_option maxHeartbeats 4000000 in
theorem del_any (A : Option Addr) (c : Nat) (l : List Qs) (base : Nat) (w : World) (h : OwnK w base A c l) (hn : l.length ≤ 1048000) (hq : QsAt w l) :
    Calls Try.prog 55 #[.slice A l.length c, .func (.func 56) #[] #[]] w fun e w' =>
      e = .returned (.slice A (keepQ l).length c) ∧ OwnK w' base A c (keepQ l) ∧ Touch (fun k => (Value.slice A l.length c).ownBlock = some k) w w' := by
  have HIX := Lib.hid (index_idle A c l w h.at_ hn hq)
  by_cases hf : firstQ l < l.length
  · obtain ⟨g, cap, e, hbg, hlg⟩ := h.form (show 0 < l.length by omega)
    injection e with e1 _ e3
    subst e1 e3
    have hix : idxQ l = (firstQ l : Int) := by unfold idxQ; rw [if_pos hf]
    rw [hix] at HIX
    have hfil := fil_start l hf
    obtain ⟨i0, hi0⟩ : ∃ i, firstQ l = i := ⟨_, rfl⟩
    rw [hi0] at HIX hfil hf
    have hrow : RowK w base g c l := ⟨h⟩
    have hgq : ∀ k, QFoot l k → k ≠ g := fun k hk e => by
      subst e
      obtain ⟨x, hx, rfl | rfl⟩ := hk
      · exact own_ne h (hq.each x hx).1 (by decide) rfl
      · exact own_ne h (hq.each x hx).2 (by decide) rfl
    have hcap := (own_cap h).1
    obtain ⟨n, hnn⟩ : ∃ n, l.length = n := ⟨_, rfl⟩
    have HN := Lib.hid hnn
    have HN5 := Lib.hid hn
    have HGB := Lib.hid hgq
    have HR0 := Lib.hid (And.intro hrow hq)
    have HF0 := Lib.hid hfil
    have HCAP := Lib.hid hcap
    have HLG := Lib.hid hlg
    have HF := Lib.hid hf
    have i1 : ((i0 : Int) == -1) = false := by rw [beq_eq_false_iff_ne]; omega
    have i2 : (0 : Int) ≤ i0 := by omega
    have i3 : wrap64 ((i0 : Int) + 1) = (i0 : Int) + 1 := IntWalk.wrap64_in _ (by omega)
    rw [hnn] at HIX ⊢
    clear h hn hq hix hfil hi0 hrow hgq hcap hnn hbg hlg hf
    go_enter Try.func55, Try.ntmps55
    go_wp2_with fail
    refine HIX.out.mono ?_
    rintro e w1 ⟨rfl, b1⟩
    have HB1 := Lib.hid b1
    clear b1
    go_wp2_with fail
    rw [i3]
    clear i3
    go_loopw [5, 6] (fun iv jv wr => ∃ i j : Nat, iv = .int .i64 i ∧ jv = .int .i64 j ∧ i < j ∧ j ≤ n ∧ Hid (∃ L, FilQ l L i j ∧ RowK wr base g c L ∧ Touch (· = g) w wr)) (fun _ jv _ => n - (intOf jv).toNat)
    case atStart => exact ⟨i0, i0 + 1, rfl, by rw [Int.natCast_add]; rfl, by omega, by have := HF.out; have := HN.out; omega, Lib.hid ⟨l, HF0.out, HR0.out.1.below HB1.out, (Below.touch HB1.out).mono (fun k hk hp => absurd hp (by omega))⟩⟩
    case round =>
      obtain ⟨i, j, rfl, rfl, hij, hj, hL⟩ := hrel
      by_cases hlt : j < n
      · obtain ⟨L, hfl, hrw, ht⟩ := hL.out
        have hLl : L.length = n := hfl.1.trans HN.out
        obtain ⟨x, hx⟩ : ∃ x, l.getD j qs0 = x := ⟨_, rfl⟩
        have hLx : L.getD j qs0 = x := (drop_at l L j hfl.2.2 j (Nat.le_refl _)).trans hx
        have q := hrw.cell j (by omega)
        rw [hLx] at q
        have q0 := q.c0
        have q1 := q.c1
        have q2 := q.c2
        have q3 := q.c3
        have hxm : x ∈ l := by rw [← hx]; exact getD_mem' (by rw [HN.out]; exact hlt)
        have hq1 := HR0.out.2.keep ht HGB.out
        have hqx := hq1.each x hxm
        have hcl := idle_any (hqx.1.alloc (.cells #[.int .i64 x.s.t, .int .i64 x.s.v, .pointer (some ⟨x.r, 0, none⟩), .pointer (some ⟨x.a, 0, none⟩)] 67)) (hqx.2.alloc (.cells #[.int .i64 x.s.t, .int .i64 x.s.v, .pointer (some ⟨x.r, 0, none⟩), .pointer (some ⟨x.a, 0, none⟩)] 67))
        have bal := (Below.refl wr.heap.size wr).alloc (Nat.le_refl _) (.cells #[.int .i64 x.s.t, .int .i64 x.s.v, .pointer (some ⟨x.r, 0, none⟩), .pointer (some ⟨x.a, 0, none⟩)] 67)
        have zx := Blk.new wr 67 #[.int .i64 x.s.t, .int .i64 x.s.v, .pointer (some ⟨x.r, 0, none⟩), .pointer (some ⟨x.a, 0, none⟩)]
        have j1 : (j : Int) < n := by omega
        have j0 : (0 : Int) ≤ j := by omega
        have k0 : (0 : Int) ≤ i := by omega
        have k1 : (i : Int) < n := by omega
        have HJ := Lib.hid (show wrap64 ((j : Int) + 1) = (j : Int) + 1 from IntWalk.wrap64_in _ (by have := HN5.out; have := HN.out; omega))
        have HI := Lib.hid (show wrap64 ((i : Int) + 1) = (i : Int) + 1 from IntWalk.wrap64_in _ (by have := HN5.out; have := HN.out; omega))
        have HST := Lib.hid (And.intro hfl (And.intro hrw (And.intro ht (And.intro hLl hx))))
        have HAL := Lib.hid (And.intro bal zx)
        clear hfl hrw ht hLl hx hLx bal zx hL q hxm hq1 hqx
        cases hlb : idQ x with
        | true =>
          rw [hlb] at hcl
          have HCL := Lib.hid hcl
          have HLB := Lib.hid hlb
          have jw := HJ.out
          clear hcl hlb
          go_wp2_with fail
          refine HCL.out.mono ?_
          rintro e w2 ⟨rfl, b2⟩
          have b3 : Below wr.heap.size wr w2 := HAL.out.1.trans (b2.mono HAL.out.1.size)
          have HB3 := Lib.hid b3
          clear b2 b3
          go_wp2_with fail
          go_roundw
          case rel =>
            rw [jw]
            refine ⟨i, j + 1, rfl, by rw [Int.natCast_add]; rfl, by omega, hlt, Lib.hid ⟨L, fil_late HST.out.1 (by rw [HN.out]; exact hlt) (by rw [HST.out.2.2.2.2]; exact HLB.out), HST.out.2.1.below HB3.out, HST.out.2.2.1.trans ((Below.touch HB3.out).mono (fun k hk hp => absurd hp (by omega)))⟩⟩
          case measure =>
            rw [jw]
            show n - ((j : Int) + 1).toNat < n - ((j : Int)).toNat
            omega
        | false =>
          rw [hlb] at hcl
          have HCL := Lib.hid hcl
          have HLB := Lib.hid hlb
          clear hcl hlb
          go_wp2_with fail
          refine HCL.out.mono ?_
          rintro e w2 ⟨rfl, b2⟩
          have b3 : Below wr.heap.size wr w2 := HAL.out.1.trans (b2.mono HAL.out.1.size)
          have zx2 := HAL.out.2.below b2 HAL.out.2.lt
          have hr2 := HST.out.2.1.below b3
          have x0 := zx2.cell 0
          have x1 := zx2.cell 1
          have x2 := zx2.cell 2
          have x3 := zx2.cell 3
          have kc := hr2.cell i (by rw [HST.out.2.2.2.1]; omega)
          have c0 := kc.c0
          have c1 := kc.c1
          have c2 := kc.c2
          have c3 := kc.c3
          have f0 : w2.frozen? ⟨g, i * 4, none⟩ = false := hr2.own.frozenAt (i * 4)
          have f1 : w2.frozen? ⟨g, i * 4 + 1, none⟩ = false := hr2.own.frozenAt (i * 4 + 1)
          have f2 : w2.frozen? ⟨g, i * 4 + 2, none⟩ = false := hr2.own.frozenAt (i * 4 + 2)
          have f3 : w2.frozen? ⟨g, i * 4 + 3, none⟩ = false := hr2.own.frozenAt (i * 4 + 3)
          have HB3 := Lib.hid b3
          have HR2 := Lib.hid hr2
          have jw := HJ.out
          have iw := HI.out
          clear b2 b3 zx2 hr2 kc
          go_wp2_with fail
          go_roundw
          case rel =>
            rw [iw, jw]
            refine ⟨i + 1, j + 1, by rw [Int.natCast_add]; rfl, by rw [Int.natCast_add]; rfl, by omega, hlt, Lib.hid ⟨_, ?_, HR2.out.set_ i x (by rw [HST.out.2.2.2.1]; omega), ?_⟩⟩
            · have := fil_keep HST.out.1 hij (by rw [HN.out]; exact hlt) (by rw [HST.out.2.2.2.2]; exact HLB.out)
              rw [HST.out.2.2.2.2] at this
              exact this
            · exact putK_touch (HST.out.2.2.1.trans ((Below.touch HB3.out).mono (fun k hk hp => absurd hp (by omega))))
          case measure =>
            rw [jw]
            show n - ((j : Int) + 1).toNat < n - ((j : Int)).toNat
            omega
      · obtain rfl : n = j := by omega
        obtain ⟨L, hfl, hrw, ht⟩ := hL.out
        have hLl : L.length = n := hfl.1.trans HN.out
        have hkeep : L.take i = keepQ l := fil_end (by rw [HN.out]; exact hfl)
        have hcut := row_cut hrw (show i ≤ L.length by omega) (zeroQ (n - i))
        rw [hkeep] at hcut
        have hkl : (keepQ l).length = i := by rw [← hkeep, List.length_take]; omega
        have hsome : ∀ q, q < (n - i) * 4 → (wr.cell? ⟨g, i * 4 + q, none⟩).isSome = true := fun q hq => by
          have h1 : i * 4 + q = (i * 4 + q) / 4 * 4 + (i * 4 + q) % 4 := by omega
          have h2 := hrw.cell ((i * 4 + q) / 4) (by omega)
          have h3 : (i * 4 + q) % 4 = 0 ∨ (i * 4 + q) % 4 = 1 ∨ (i * 4 + q) % 4 = 2 ∨ (i * 4 + q) % 4 = 3 := by omega
          rcases h3 with h3 | h3 | h3 | h3
          · rw [h1, h3, Nat.add_zero, h2.c0]; rfl
          · rw [h1, h3, h2.c1]; rfl
          · rw [h1, h3, h2.c2]; rfl
          · rw [h1, h3, h2.c3]; rfl
        have hcl : ∀ ty, (Builtin.clear_ #[59] ty #[.slice (some ⟨g, i * 4, none⟩) (n - i) (c - i)]).run Try.prog wr = .ok (.tuple #[]) (wr.setCells g (i * 4) (zeroQ (n - i))) := fun ty =>
          run_clear_kps wr ty g (i * 4) (n - i) (c - i) (by omega) hsome (fun q hq => hrw.own.frozenAt (i * 4 + q))
        have HEND := Lib.hid (And.intro hcut (ht.trans (setCells_touch g (zeroQ (n - i)) (i * 4) wr)))
        have HKL := Lib.hid hkl
        have b1 : ¬ (c = i) := by have := HCAP.out; have := HN.out; omega
        have b2 : (0 : Int) ≤ i := by omega
        have b3 : (i : Int) ≤ n := by omega
        have b4 : (i : Int) ≤ c := by have := HCAP.out; have := HN.out; omega
        clear hfl hrw ht hLl hkeep hcut hkl hsome hL hj hlt hij i1 i2
        go_wp2_with (simp only [hcl])
        go_ret
        exact ⟨by rw [HKL.out]; rfl, HEND.out.1, HEND.out.2.mono (fun k _ hk => by rw [hk]; rfl)⟩
  · have hix : idxQ l = -1 := by unfold idxQ; rw [if_neg hf]
    rw [hix] at HIX
    have hk := keep_none l hf
    rw [hk]
    have HO := Lib.hid h
    clear hix hk h hq hn hf
    go_enter Try.func55, Try.ntmps55
    go_wp2_with fail
    refine HIX.out.mono ?_
    rintro e w1 ⟨rfl, b1⟩
    have HB := Lib.hid b1
    clear b1
    go_wp2_with fail
    go_ret
    exact ⟨rfl, own_heap HO.out fun k hk => HB.out.block k (World.ownsRow.lt HO.out k hk).2, (Below.touch HB.out).mono (fun k hk hp => absurd hp (by omega))⟩
end
end Go.Proofs.Ythghedlgeceepaa
