/- The document's part of a bridge in the tree, as it lies in memory: ports, rows of turns, what forwards; a turn is put behind a port's others. No condition but bounds on lengths. -/
import Derived.Test.YtonkmbnnbpbhiaaTalive
namespace Go.Proofs.Ytonkmbnnbpbhiaa
open Go.RowKit
set_option maxRecDepth 100000

/-- Turns, as cells. -/
def tnL : List (Int × Int) → List Value
  | [] => []
  | a :: l => .int .i64 a.1 :: .int .i64 a.2 :: tnL l
theorem tnL_append (l m : List (Int × Int)) : tnL (l ++ m) = tnL l ++ tnL m := by
  induction l with
  | nil => rfl
  | cons a l ih => simp [tnL, ih]
theorem tnL_length (l : List (Int × Int)) : (tnL l).length = l.length * 2 := by
  induction l with
  | nil => rfl
  | cons a l ih => simp [tnL, ih]; omega
theorem tnL_at (l : List (Int × Int)) (k : Nat) (h : k < l.length) : (tnL l)[k * 2]? = some (.int .i64 (l.getD k (0, 0)).1) ∧ (tnL l)[k * 2 + 1]? = some (.int .i64 (l.getD k (0, 0)).2) := by
  induction l generalizing k with
  | nil => simp at h
  | cons a l ih =>
    cases k with
    | zero => simp [tnL]
    | succ k =>
      have := ih k (by simpa using h)
      rw [show (k + 1) * 2 = k * 2 + 2 by omega]
      simpa [tnL] using this
theorem tnL_one (l : List (Int × Int)) : ∀ u ∈ tnL l, u.oneCell' = true := by
  induction l with
  | nil => simp [tnL]
  | cons a l ih =>
    intro u hu
    simp only [tnL, List.mem_cons] at hu
    rcases hu with rfl | rfl | hu
    · rfl
    · rfl
    · exact ih u hu
def OwnT (w : World) (base : Nat) (A : Option Addr) (c : Nat) (l : List (Int × Int)) : Prop := w.ownsRow base 117 2 (.slice A l.length c) l.length (tnL l)
/-- The role, and since when, by all that was set. -/
def lastS (s : Int × Int) (t : Int × Int) : Int × Int := if (if t.1 < 0 ∨ 3 < t.1 then 0 else t.1) = s.1 then s else ((if t.1 < 0 ∨ 3 < t.1 then 0 else t.1), t.2)
def lastT (l : List (Int × Int)) : Int × Int := l.foldl lastS (0, 0)
theorem lastT_snoc (l : List (Int × Int)) (r now : Int) (h0 : 0 ≤ r) (h3 : r ≤ 3) : lastT (l ++ [(r, now)]) = if r = (lastT l).1 then lastT l else (r, now) := by
  unfold lastT
  rw [List.foldl_append]
  show lastS _ (r, now) = _
  unfold lastS
  simp only
  rw [if_neg (show ¬ (r < 0 ∨ 3 < r) by omega)]
/-- A port's eleven cells. -/
def rArr (p : Pt) (s : Value) : Array Value := #[.bool p.up, .int .i64 p.way, .int .i64 p.vec.root, .int .i64 p.vec.cost, .int .i64 p.vec.bridge, .int .i64 p.vec.port, .int .i64 p.age, .int .i64 0, .bool p.none, .int .i64 p.at_, s]
def RPorts (w : World) (gp m : Nat) (f : Nat → Pt) (s : Nat → Value) : Prop := ∃ cs, Blk w gp 79 cs ∧ m * 11 ≤ cs.size ∧ ∀ i, i < m → ∀ j, j < 11 → cs[i * 11 + j]? = (rArr (f i) (s i))[j]?
structure RCells (w : World) (gp o : Nat) (p : Pt) (s : Value) : Prop where
  c0 : w.cell? ⟨gp, o, none⟩ = some (.bool p.up)
  c1 : w.cell? ⟨gp, o + 1, none⟩ = some (.int .i64 p.way)
  c2 : w.cell? ⟨gp, o + 2, none⟩ = some (.int .i64 p.vec.root)
  c3 : w.cell? ⟨gp, o + 3, none⟩ = some (.int .i64 p.vec.cost)
  c4 : w.cell? ⟨gp, o + 4, none⟩ = some (.int .i64 p.vec.bridge)
  c5 : w.cell? ⟨gp, o + 5, none⟩ = some (.int .i64 p.vec.port)
  c6 : w.cell? ⟨gp, o + 6, none⟩ = some (.int .i64 p.age)
  c7 : w.cell? ⟨gp, o + 7, none⟩ = some (.int .i64 0)
  c8 : w.cell? ⟨gp, o + 8, none⟩ = some (.bool p.none)
  c9 : w.cell? ⟨gp, o + 9, none⟩ = some (.int .i64 p.at_)
  c10 : w.cell? ⟨gp, o + 10, none⟩ = some s
section
variable {w w' : World} {base d gp go m cap : Nat} {f f' : Nat → Pt} {s s' : Nat → Value} {op : Nat → Bool} {id ch : Int} {TU : Nat → List (Int × Int)} {AA : Nat → Option Addr} {CC : Nat → Nat}
theorem RPorts.cells (h : RPorts w gp m f s) {i : Nat} (hi : i < m) : RCells w gp (i * 11) (f i) (s i) := by
  obtain ⟨cs, hb, hs, hc⟩ := h
  have hj : ∀ j, j < 11 → w.cell? ⟨gp, i * 11 + j, none⟩ = (rArr (f i) (s i))[j]? := fun j hj => (hb.cell _).trans (hc i hi j hj)
  exact ⟨hj 0 (by omega), hj 1 (by omega), hj 2 (by omega), hj 3 (by omega), hj 4 (by omega), hj 5 (by omega), hj 6 (by omega), hj 7 (by omega), hj 8 (by omega), hj 9 (by omega), hj 10 (by omega)⟩
theorem RPorts.frozen (h : RPorts w gp m f s) (j : Nat) : w.frozen? ⟨gp, j, none⟩ = false := by
  obtain ⟨cs, hb, _⟩ := h
  exact hb.frozen j
theorem RPorts.lt (h : RPorts w gp m f s) : gp < w.heap.size := by
  obtain ⟨cs, hb, _⟩ := h
  exact hb.lt
theorem RPorts.set_ (h : RPorts w gp m f s) {i k : Nat} (hi : i < m) (hk : k < 11) (u : Value) (hne : ∀ j, j ≠ i → f' j = f j ∧ s' j = s j) (he : rArr (f' i) (s' i) = (rArr (f i) (s i)).setIfInBounds k u) :
    RPorts (w.setCell ⟨gp, i * 11 + k, none⟩ u) gp m f' s' := by
  obtain ⟨cs, hb, hs, hc⟩ := h
  refine ⟨_, Blk.set_ hb _ u, by simp [hs], fun q hq j hj => ?_⟩
  by_cases e : q = i
  · subst e
    rw [he]
    by_cases ek : j = k
    · subst ek
      rw [Array.getElem?_setIfInBounds_self_of_lt (by omega), Array.getElem?_setIfInBounds_self_of_lt (by simpa [rArr] using hk)]
    · rw [Array.getElem?_setIfInBounds_ne (by omega), Array.getElem?_setIfInBounds_ne (by omega)]
      exact hc q hq j hj
  · rw [Array.getElem?_setIfInBounds_ne (by omega), (hne q e).1, (hne q e).2]
    exact hc q hq j hj
theorem RPorts.congr (h : RPorts w gp m f s) (hf : ∀ i, i < m → rArr (f' i) (s' i) = rArr (f i) (s i)) : RPorts w gp m f' s' := by
  obtain ⟨cs, hb, hs, hc⟩ := h
  exact ⟨cs, hb, hs, fun i hi j hj => by rw [hf i hi]; exact hc i hi j hj⟩
theorem RPorts.block (h : RPorts w gp m f s) (hb : w'.heap[gp]? = w.heap[gp]?) : RPorts w' gp m f s := by
  obtain ⟨cs, hk, hs, hc⟩ := h
  exact ⟨cs, hb.trans hk, hs, hc⟩
/-- What forwarded. -/
def OpenAt (w : World) (go m : Nat) (op : Nat → Bool) : Prop := ∃ cs, Blk w go 4 cs ∧ cs.size = m ∧ ∀ i, i < m → cs[i]? = some (.bool (op i))
theorem OpenAt.block (h : OpenAt w go m op) (hb : w'.heap[go]? = w.heap[go]?) : OpenAt w' go m op := by
  obtain ⟨cs, hk, hs, hc⟩ := h
  exact ⟨cs, hb.trans hk, hs, hc⟩
theorem OpenAt.lt (h : OpenAt w go m op) : go < w.heap.size := by
  obtain ⟨cs, hb, _⟩ := h
  exact hb.lt
def slT (TU : Nat → List (Int × Int)) (AA : Nat → Option Addr) (CC : Nat → Nat) (i : Nat) : Value := .slice (AA i) (TU i).length (CC i)
def dTop (id : Int) (gp m cap : Nat) (ch : Int) (go : Nat) : Array Value := #[.int .i64 id, .slice (some ⟨gp, 0, none⟩) m cap, .int .i64 ch, .slice (some ⟨go, 0, none⟩) m m]
structure DocAt (w : World) (base d gp go cap : Nat) (id : Int) (m : Nat) (f : Nat → Pt) (TU : Nat → List (Int × Int)) (AA : Nat → Option Addr) (CC : Nat → Nat) (op : Nat → Bool) (ch : Int) : Prop where
  top : Blk w d 74 (dTop id gp m cap ch go)
  cap : m ≤ cap
  ports : RPorts w gp m f (slT TU AA CC)
  open_ : OpenAt w go m op
  turns : ∀ i, i < m → OwnT w base (AA i) (CC i) (TU i)
  apart : ∀ i j, i < m → j < m → i ≠ j → ∀ k, (slT TU AA CC i).ownBlock = some k → (slT TU AA CC j).ownBlock ≠ some k
  lasts : ∀ i, i < m → lastT (TU i) = ((f i).role, (f i).since)
  bd : base ≤ d
  bp : base ≤ gp
  bo : base ≤ go
/-- The document's blocks. -/
def DocQ (base : Nat) (w : World) (k : Nat) : Prop := base ≤ k ∧ ∃ t cs, Blk w k t cs ∧ (t = 74 ∨ t = 79 ∨ t = 4 ∨ t = 117)
theorem docq_trans {w0 w1 w2 : World} (h1 : Touch (DocQ base w0) w0 w1) (h2 : Touch (DocQ base w1) w1 w2) : Touch (DocQ base w0) w0 w2 :=
  ⟨h2.os.trans h1.os, h2.tape.trans h1.tape, h2.output.trans h1.output, Nat.le_trans h1.size h2.size, fun k hk hn => by
    have e1 := h1.block k hk hn
    refine (h2.block k (Nat.lt_of_lt_of_le hk h1.size) fun ⟨hb, t, cs, hB, ht⟩ => hn ⟨hb, t, cs, ?_, ht⟩).trans e1
    unfold Blk at hB ⊢
    rw [← e1]
    exact hB⟩
theorem DocQ.of {t : TypeId} {cs : Array Value} {k : Nat} (hb : base ≤ k) (h : Blk w k t cs) (ht : t = 74 ∨ t = 79 ∨ t = 4 ∨ t = 117) : DocQ base w k := ⟨hb, t, cs, h, ht⟩
/-- Blocks of other types stay. -/
theorem docq_keep {w0 w1 : World} {k : Nat} {t : TypeId} {cs : Array Value} (h : Touch (DocQ base w0) w0 w1) (hb : Blk w0 k t cs) (ht : ¬ (t = 74 ∨ t = 79 ∨ t = 4 ∨ t = 117)) : Blk w1 k t cs := by
  refine (h.block k hb.lt fun ⟨_, t', cs', hb', ht'⟩ => ?_).trans hb
  unfold Blk at hb hb'
  rw [hb] at hb'
  injection hb' with e
  injection e with _ e
  subst e
  exact ht ht'
theorem docq_bel {w0 w1 : World} (h : Touch (DocQ base w0) w0 w1) (hs : base ≤ w0.heap.size) : Below base w0 w1 := ⟨h.os, h.tape, h.output, h.size, fun k hk => h.block k (by omega) fun hq => by have := hq.1; omega⟩
theorem bel_docq {w0 w1 : World} (h : Below w0.heap.size w0 w1) : Touch (DocQ base w0) w0 w1 := ⟨h.os, h.tape, h.output, h.size, fun k hk _ => h.block k hk⟩

theorem OwnT.blk {A : Option Addr} {c k : Nat} {l : List (Int × Int)} (h : OwnT w base A c l) (hk : (Value.slice A l.length c).ownBlock = some k) : ∃ cs, Blk w k 117 cs := by
  rcases h.2 with ⟨e, _⟩ | ⟨g, cap, cur, e, _, hg, _⟩
  · rw [e] at hk
    simp [Value.ownBlock] at hk
  · rw [e] at hk
    have : g = k := by simpa [Value.ownBlock] using hk
    subst this
    exact ⟨cur, hg⟩
theorem DocAt.block (h : DocAt w base d gp go cap id m f TU AA CC op ch) (hb : ∀ k, k < w.heap.size → w'.heap[k]? = w.heap[k]?) : DocAt w' base d gp go cap id m f TU AA CC op ch where
  top := (hb d h.top.lt).trans h.top
  cap := h.cap
  ports := h.ports.block (hb gp h.ports.lt)
  open_ := h.open_.block (hb go h.open_.lt)
  turns i hi := own_heap (h.turns i hi) fun k hk => hb k (World.ownsRow.lt (h.turns i hi) k hk).2
  apart := h.apart
  lasts := h.lasts
  bd := h.bd
  bp := h.bp
  bo := h.bo
theorem DocAt.below (h : DocAt w base d gp go cap id m f TU AA CC op ch) (hb : Below w.heap.size w w') : DocAt w' base d gp go cap id m f TU AA CC op ch := h.block fun k hk => hb.block k hk
theorem DocAt.alloc (h : DocAt w base d gp go cap id m f TU AA CC op ch) (o : Obj) : DocAt (w.alloc o) base d gp go cap id m f TU AA CC op ch := h.block fun k hk => Below.heap_alloc w o k hk
theorem DocAt.drew (h : DocAt w base d gp go cap id m f TU AA CC op ch) : DocAt w.drew base d gp go cap id m f TU AA CC op ch := h.block fun _ _ => rfl
/-- Blocks that another one turns are none of these. -/
theorem DocAt.touch {p : Nat → Prop} (h : DocAt w base d gp go cap id m f TU AA CC op ch) (ht : Touch p w w') (hp : ∀ k, p k → ¬ DocQ base w k) : DocAt w' base d gp go cap id m f TU AA CC op ch where
  top := h.top.touch ht fun hk => hp d hk (DocQ.of h.bd h.top (.inl rfl))
  cap := h.cap
  ports := h.ports.block (ht.block gp h.ports.lt fun hk => hp gp hk (by obtain ⟨cs, hb, _⟩ := h.ports; exact DocQ.of h.bp hb (.inr (.inl rfl))))
  open_ := h.open_.block (ht.block go h.open_.lt fun hk => hp go hk (by obtain ⟨cs, hb, _⟩ := h.open_; exact DocQ.of h.bo hb (.inr (.inr (.inl rfl)))))
  turns i hi := own_heap (h.turns i hi) fun k hk => ht.block k (World.ownsRow.lt (h.turns i hi) k hk).2 fun hq => hp k hq (by
    obtain ⟨cs, hb⟩ := (h.turns i hi).blk hk
    exact DocQ.of (World.ownsRow.lt (h.turns i hi) k hk).1 hb (.inr (.inr (.inr rfl))))
  apart := h.apart
  lasts := h.lasts
  bd := h.bd
  bp := h.bp
  bo := h.bo
theorem turn_info : (Try.prog.info? 117).map (fun i => (i.zero, i.size, i.bytes)) = some (some (.agg #[.int .i64 0, .int .i64 0]), 2, 16) := by kernel_rfl
theorem grown_touch {w w' : World} {p : Nat → Prop} {o : Option Nat} (h : w.grownBy w' o) (hp : ∀ k, o = some k → p k) : Touch p w w' := ⟨h.os, h.tape, h.output, h.size, fun k hk hn => h.block k hk fun e => hn (hp k e.symm)⟩
def updL (g : Nat → List (Int × Int)) (j : Nat) (x : List (Int × Int)) : Nat → List (Int × Int) := fun i => if i = j then x else g i
def updA (g : Nat → Option Addr) (j : Nat) (x : Option Addr) : Nat → Option Addr := fun i => if i = j then x else g i
def updC (g : Nat → Nat) (j : Nat) (x : Nat) : Nat → Nat := fun i => if i = j then x else g i
/-- A turn more. -/
theorem doc_push {now : Int} {j : Nat} (h : DocAt w base d gp go cap id m (anewTo id m now f j) TU AA CC op ch) (hj : j < m) (hn : (TU j).length ≤ 100000) (hbs : base ≤ w.heap.size) :
    ∃ a c w3, (Builtin.append_ #[77, 77] 77 #[.slice (AA j) (TU j).length (CC j), .slice (some ⟨w.heap.size, 0, none⟩) 1 1]).run Try.prog (w.alloc (.cells #[.int .i64 (roleP id m f j), .int .i64 now] 117)) = .ok (.slice a ((TU j).length + 1) c) w3 ∧
      w3.cell? ⟨gp, j * 11 + 10, none⟩ = some (.slice (AA j) (TU j).length (CC j)) ∧ w3.frozen? ⟨gp, j * 11 + 10, none⟩ = false ∧
      DocAt (w3.setCell ⟨gp, j * 11 + 10, none⟩ (.slice a ((TU j).length + 1) c)) base d gp go cap id m (anewTo id m now f (j + 1)) (updL TU j (TU j ++ [(roleP id m f j, now)])) (updA AA j a) (updC CC j c) op ch ∧ Touch (DocQ base w) w (w3.setCell ⟨gp, j * 11 + 10, none⟩ (.slice a ((TU j).length + 1) c)) := by
  obtain ⟨i0, hi0, hz0, hz1, hz2⟩ := info_parts turn_info
  have hA := h.alloc (.cells #[.int .i64 (roleP id m f j), .int .i64 now] 117)
  have hnb := Blk.new w 117 #[.int .i64 (roleP id m f j), .int .i64 now]
  have hbe := bel_alloc w (.cells #[.int .i64 (roleP id m f j), .int .i64 now] 117)
  obtain ⟨W, hW⟩ : ∃ W, w.alloc (.cells #[.int .i64 (roleP id m f j), .int .i64 now] 117) = W := ⟨_, rfl⟩
  rw [hW] at hA hnb hbe ⊢
  have hsz := hbe.size
  have hrow := hA.turns j hj
  obtain ⟨a, c, w3, hr, ho, hg, hmv, _⟩ := append_src W base 77 77 117 i0 _ 2 16 Try.underlying77 hi0 hz0 hz1 hz2 rfl (by decide) _ (TU j).length (tnL (TU j)) hrow (some ⟨w.heap.size, 0, none⟩) 1 1 (tnL [(roleP id m f j, now)]) (by rw [tnL_length]; rfl) (fun h => by cases h)
    (fun _ => ⟨w.heap.size, 0, rfl, fun q u hu => by
      rw [Nat.zero_add, hnb.cell]
      have e : tnL [(roleP id m f j, now)] = [.int .i64 (roleP id m f j), .int .i64 now] := rfl
      rw [e] at hu
      rw [← hu]
      simp⟩)
    (tnL_one _) (by unfold maxLen; omega) (by omega) (by omega)
  -- the row's block is a row of turns
  have hown : ∀ k, (slT TU AA CC j).ownBlock = some k → DocQ base W k := fun k hk => by
    obtain ⟨cs, hb⟩ := hrow.blk hk
    exact DocQ.of (World.ownsRow.lt hrow k hk).1 hb (.inr (.inr (.inr rfl)))
  have hkeep : ∀ k, k < W.heap.size → (slT TU AA CC j).ownBlock ≠ some k → w3.heap[k]? = W.heap[k]? := fun k hk hne => hg.block k hk fun e => hne e.symm
  have hne_type : ∀ k t cs, Blk W k t cs → t ≠ 117 → (slT TU AA CC j).ownBlock ≠ some k := fun k t cs hb ht hk => by
    obtain ⟨cs', hb'⟩ := hrow.blk hk
    unfold Blk at hb hb'
    rw [hb] at hb'
    injection hb' with e
    injection e with _ e
    exact ht e
  obtain ⟨pcs, hpb, hps, hpc⟩ := hA.ports
  have hp3 : RPorts w3 gp m (anewTo id m now f j) (slT TU AA CC) := hA.ports.block (hkeep gp hA.ports.lt (hne_type gp _ _ hpb (by decide)))
  obtain ⟨ocs, hob, hos, hoc⟩ := hA.open_
  have ho3 : OpenAt w3 go m op := hA.open_.block (hkeep go hA.open_.lt (hne_type go _ _ hob (by decide)))
  have ht3 : Blk w3 d 74 (dTop id gp m cap ch go) := (hkeep d hA.top.lt (hne_type d _ _ hA.top (by decide))).trans hA.top
  have hgpO : ∀ k, (Value.slice a ((TU j).length + 1) c).ownBlock = some k → k ≠ gp := fun k hk e => by
    subst e
    rcases hmv with e | ⟨q, hq, e⟩
    · rw [e] at hk
      exact hne_type _ _ _ hpb (by decide) hk
    · rw [e] at hk
      injection hk with hk
      have := hA.ports.lt
      omega
  have hlen : (TU j ++ [(roleP id m f j, now)]).length = (TU j).length + 1 := by simp
  have hsl : ∀ i, i ≠ j → slT (updL TU j (TU j ++ [(roleP id m f j, now)])) (updA AA j a) (updC CC j c) i = slT TU AA CC i := fun i hi => by
    unfold slT updL updA updC
    rw [if_neg hi, if_neg hi, if_neg hi]
  have hsj : slT (updL TU j (TU j ++ [(roleP id m f j, now)])) (updA AA j a) (updC CC j c) j = .slice a ((TU j).length + 1) c := by
    unfold slT updL updA updC
    rw [if_pos rfl, if_pos rfl, if_pos rfl, hlen]
  have hanew : ∀ i, (anewTo id m now f (j + 1) i).up = (anewTo id m now f j i).up ∧ (anewTo id m now f (j + 1) i).way = (anewTo id m now f j i).way ∧ (anewTo id m now f (j + 1) i).none = (anewTo id m now f j i).none ∧ (anewTo id m now f (j + 1) i).vec = (anewTo id m now f j i).vec ∧ (anewTo id m now f (j + 1) i).age = (anewTo id m now f j i).age ∧ (anewTo id m now f (j + 1) i).at_ = (anewTo id m now f j i).at_ := fun i => by
    unfold anewTo
    by_cases e : i = j
    · subst e
      rw [if_pos (Nat.lt_succ_self _), if_neg (Nat.lt_irrefl _)]
      exact anew_up id m now f i
    · by_cases hl : i < j
      · rw [if_pos (by omega), if_pos hl]; exact ⟨rfl, rfl, rfl, rfl, rfl, rfl⟩
      · rw [if_neg (by omega), if_neg hl]; exact ⟨rfl, rfl, rfl, rfl, rfl, rfl⟩
  have hrarr : ∀ i s, rArr (anewTo id m now f (j + 1) i) s = rArr (anewTo id m now f j i) s := fun i s => by
    obtain ⟨e1, e2, e3, e4, e5, e6⟩ := hanew i
    unfold rArr
    rw [e1, e2, e3, e4, e5, e6]
  have hother : ∀ i, i < m → i ≠ j → ∀ k, (slT TU AA CC i).ownBlock = some k → (slT TU AA CC j).ownBlock ≠ some k := fun i hi hne k hk => hA.apart i j hi hj hne k hk
  refine ⟨a, c, w3, hr, (hp3.cells hj).c10, hp3.frozen _, ⟨?_, h.cap, ?_, ?_, ?_, ?_, ?_, h.bd, h.bp, h.bo⟩, ?_⟩
  · refine ht3.far (fun e => ?_) _
    have e : d = gp := e
    subst e
    have h1 := hA.top
    unfold Blk at h1 hpb
    rw [h1] at hpb
    injection hpb with e
    injection e with _ e
    exact absurd e (by decide)
  · refine hp3.set_ (k := 10) hj (by decide) _ (fun i hi => ?_) ?_ |>.congr (f' := anewTo id m now f (j + 1)) (s' := slT (updL TU j (TU j ++ [(roleP id m f j, now)])) (updA AA j a) (updC CC j c)) fun i _ => hrarr i _
    · exact ⟨rfl, hsl i hi⟩
    · rw [hsj]
      rfl
  · refine ho3.block (Below.heap_setCell _ _ _ go fun e => ?_)
    have e : go = gp := e
    subst e
    unfold Blk at hob hpb
    rw [hob] at hpb
    injection hpb with e
    injection e with _ e
    exact absurd e (by decide)
  · intro i hi
    by_cases e : i = j
    · subst e
      unfold updL updA updC
      rw [if_pos rfl, if_pos rfl, if_pos rfl]
      unfold OwnT
      rw [hlen, tnL_append]
      exact own_heap ho fun k hk => Below.heap_setCell _ _ _ k (hgpO k hk)
    · unfold updL updA updC
      rw [if_neg e, if_neg e, if_neg e]
      refine own_heap (hA.turns i hi) fun k hk => (Below.heap_setCell _ _ _ k fun e2 => ?_).trans (hkeep k (World.ownsRow.lt (hA.turns i hi) k hk).2 (hother i hi e k hk))
      have e2 : k = gp := e2
      subst e2
      obtain ⟨cs', hb'⟩ := (hA.turns i hi).blk hk
      unfold Blk at hb' hpb
      rw [hb'] at hpb
      injection hpb with e
      injection e with _ e
      exact absurd e (by decide)
  · intro i q hi hq hne k hk
    by_cases e1 : i = j
    · subst e1
      rw [hsj] at hk
      rw [hsl q (fun e => hne e.symm)]
      rcases hmv with e | ⟨x, hx, e⟩
      · rw [e] at hk
        exact hA.apart i q hi hq hne k hk
      · rw [e] at hk
        injection hk with hk
        intro hk2
        have := (World.ownsRow.lt (hA.turns q hq) k hk2).2
        omega
    · rw [hsl i e1] at hk
      by_cases e2 : q = j
      · subst e2
        rw [hsj]
        rcases hmv with e | ⟨x, hx, e⟩
        · rw [e]
          exact hA.apart i q hi hq hne k hk
        · rw [e]
          intro hk2
          injection hk2 with hk2
          have := (World.ownsRow.lt (hA.turns i hi) k hk).2
          omega
      · rw [hsl q e2]
        exact hA.apart i q hi hq hne k hk
  · intro i hi
    by_cases e : i = j
    · subst e
      have hr0 := roleP_range id m f i
      unfold updL
      rw [if_pos rfl, lastT_snoc _ _ _ hr0.1 hr0.2, h.lasts i hi, show anewTo id m now f i i = f i from if_neg (Nat.lt_irrefl i), show anewTo id m now f (i + 1) i = anewP id m now f i from if_pos (Nat.lt_succ_self i)]
      unfold anewP
      by_cases hro : roleP id m f i = (f i).role
      · rw [if_pos hro, if_neg fun hc => hc.2 hro]
      · rw [if_neg hro, if_pos ⟨hi, hro⟩]
    · unfold updL
      rw [if_neg e, h.lasts i hi]
      unfold anewTo
      by_cases hl : i < j
      · rw [if_pos hl, if_pos (by omega)]
      · rw [if_neg hl, if_neg (by omega)]
  · refine docq_trans (bel_docq hbe) (docq_trans (grown_touch hg hown) ?_)
    refine (Touch.refl _ w3).set_ (a := ⟨gp, j * 11 + 10, none⟩) (fun _ => ?_) _
    obtain ⟨cs, hb, _⟩ := hp3
    exact DocQ.of h.bp hb (.inr (.inl rfl))
end
end Go.Proofs.Ytonkmbnnbpbhiaa
