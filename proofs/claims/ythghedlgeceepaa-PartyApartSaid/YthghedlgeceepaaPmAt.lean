/- A port's part in telling attributes (layer 16), as it lies in memory. No condition. -/
import Derived.Test.YthghedlgeceepaaPmRow
import Derived.Test.YthghedlgeceepaaPmFind
import Derived.Test.YthghedlgeceepaaPmDraw
namespace Go.Proofs.Ythghedlgeceepaa
open Go.RowKit
set_option maxRecDepth 100000

/- Where an attribute is, in plain words. -/
theorem ahead_less {t v : Int} {x : Qs} {s : Sl} (hs : s.t = t ∧ s.v = v) : aheadQ t v x = true ↔ lessS x.s s := by
  unfold aheadQ lessB lessS
  rw [decide_eq_true_iff, hs.1, hs.2]
theorem cut_lo {q : List Qs} {t v : Int} {k : Nat} (h : AtQ q t v k) (ho : (q.map (·.s)).Pairwise lessS) : ∀ x ∈ q.take k, aheadQ t v x = true := by
  intro x hx
  obtain ⟨i, hi, rfl⟩ := List.getElem_of_mem hx
  rw [List.length_take] at hi
  rw [List.getElem_take]
  rcases h.lo with h0 | h0
  · omega
  · have hk1 : k - 1 < q.length := by have := h.le; omega
    rw [List.getD_eq_getElem?_getD, List.getElem?_eq_getElem hk1] at h0
    have h0' : aheadQ t v q[k - 1] = true := h0
    by_cases e : i = k - 1
    · subst e; exact h0'
    · rw [List.pairwise_map] at ho
      have hl := List.pairwise_iff_getElem.1 ho i (k - 1) (by omega) hk1 (by omega)
      have h1 := (ahead_less (t := t) (v := v) (s := newS t v) ⟨rfl, rfl⟩).1 h0'
      exact (ahead_less (s := newS t v) ⟨rfl, rfl⟩).2 (lessS_trans hl h1)
theorem cut_hi {q : List Qs} {t v : Int} {k : Nat} (h : AtQ q t v k) (ho : (q.map (·.s)).Pairwise lessS) : ∀ i (hi : i < q.length), k ≤ i → aheadQ t v q[i] = false := by
  intro i hi hki
  rcases h.hi with h0 | h0
  · omega
  · have hk : k < q.length := by omega
    rw [List.getD_eq_getElem?_getD, List.getElem?_eq_getElem hk] at h0
    have h0' : aheadQ t v q[k] = false := h0
    by_cases e : i = k
    · subst e; exact h0'
    · rw [List.pairwise_map] at ho
      have hl := List.pairwise_iff_getElem.1 ho k i hk hi (by omega)
      cases hb : aheadQ t v q[i] with
      | false => rfl
      | true =>
        have h1 := (ahead_less (t := t) (v := v) (s := newS t v) ⟨rfl, rfl⟩).1 hb
        have h2 : aheadQ t v q[k] = true := (ahead_less (s := newS t v) ⟨rfl, rfl⟩).2 (lessS_trans hl h1)
        rw [h2] at h0'
        cases h0'
theorem insK_app {x : Sl} {l1 l2 : List Sl} (h1 : ∀ s ∈ l1, lessS s x) (h2 : ∀ s, l2.head? = some s → ¬ lessS s x) : insK x (l1 ++ l2) = l1 ++ x :: l2 := by
  induction l1 with
  | nil =>
    cases l2 with
    | nil => rfl
    | cons s r =>
      show (if lessS s x then s :: insK x r else x :: s :: r) = _
      rw [if_neg (h2 s rfl)]
      rfl
  | cons s l1 ih =>
    show (if lessS s x then s :: insK x (l1 ++ l2) else x :: s :: (l1 ++ l2)) = _
    rw [if_pos (h1 s List.mem_cons_self), ih (fun u hu => h1 u (List.mem_cons_of_mem _ hu))]
    rfl
theorem ins_map {q : List Qs} {k : Nat} {x : Qs} (h : AtQ q x.s.t x.s.v k) (ho : (q.map (·.s)).Pairwise lessS) : (insQ q k x).map (·.s) = insK x.s (q.map (·.s)) := by
  have e : q.map (·.s) = (q.take k).map (·.s) ++ (q.drop k).map (·.s) := by rw [← List.map_append, List.take_append_drop]
  rw [e, insK_app]
  · unfold insQ
    rw [List.map_append, List.map_cons]
  · intro s hs
    obtain ⟨y, hy, rfl⟩ := List.mem_map.1 hs
    exact (ahead_less ⟨rfl, rfl⟩).1 (cut_lo h ho y hy)
  · intro s hs hl
    rw [List.head?_map, List.head?_drop] at hs
    obtain ⟨y, hy, rfl⟩ := Option.map_eq_some_iff.1 hs
    obtain ⟨hk, rfl⟩ := List.getElem?_eq_some_iff.1 hy
    have h1 := cut_hi h ho k hk (Nat.le_refl _)
    rw [(ahead_less (t := x.s.t) (v := x.s.v) ⟨rfl, rfl⟩).2 hl] at h1
    cases h1
/-- The slot of an attribute that is there. -/
theorem here_iff {q : List Qs} {t v : Int} {k : Nat} : hereQ q t v k = true ↔ k < q.length ∧ (q.getD k qs0).s.t = t ∧ (q.getD k qs0).s.v = v := by
  unfold hereQ
  rw [Bool.and_eq_true, decide_eq_true_iff, decide_eq_true_iff]
theorem getD_get {q : List Qs} {k : Nat} (hk : k < q.length) : q.getD k qs0 = q[k] := by rw [List.getD_eq_getElem?_getD, List.getElem?_eq_getElem hk]; rfl
theorem key_one {q : List Qs} {t v : Int} {k i : Nat} (h : AtQ q t v k) (ho : (q.map (·.s)).Pairwise lessS) (hi : i < q.length) (e : q[i].s.t = t ∧ q[i].s.v = v) : i = k := by
  rcases Nat.lt_trichotomy i k with hl | hl | hl
  · have := cut_lo h ho q[i] (by
      rw [← List.getElem_take (h := by rw [List.length_take]; omega) (j := k)]
      exact List.getElem_mem _)
    have h1 := (ahead_less (s := q[i].s) e).1 this
    unfold lessS at h1
    omega
  · exact hl
  · have hk : k < q.length := by omega
    have h1 := cut_hi h ho k hk (Nat.le_refl _)
    have ho' := ho
    rw [List.pairwise_map] at ho'
    have hl := List.pairwise_iff_getElem.1 ho' k i hk hi hl
    rw [(ahead_less (s := q[i].s) e).2 hl] at h1
    cases h1
theorem here_has {q : List Qs} {t v : Int} {k : Nat} (h : AtQ q t v k) (ho : (q.map (·.s)).Pairwise lessS) : hereQ q t v k = hasK (q.map (·.s)) t v := by
  rw [Bool.eq_iff_iff, here_iff]
  unfold hasK
  rw [List.any_eq_true]
  constructor
  · rintro ⟨hk, e⟩
    rw [getD_get hk] at e
    exact ⟨q[k].s, List.mem_map_of_mem (List.getElem_mem hk), keyB_iff.2 e⟩
  · rintro ⟨s, hs, e⟩
    obtain ⟨y, hy, rfl⟩ := List.mem_map.1 hs
    obtain ⟨i, hi, rfl⟩ := List.getElem_of_mem hy
    have e' := keyB_iff.1 e
    obtain rfl := key_one h ho hi e'
    rw [getD_get hi]
    exact ⟨hi, e'⟩
theorem upd_set {q : List Qs} {t v : Int} {k : Nat} (h : AtQ q t v k) (ho : (q.map (·.s)).Pairwise lessS) (hh : hereQ q t v k = true) (f : Sl → Sl) : updK (q.map (·.s)) t v f = (q.map (·.s)).set k (f (q.getD k qs0).s) := by
  obtain ⟨hk, e⟩ := here_iff.1 hh
  rw [getD_get hk] at e ⊢
  unfold updK
  apply List.ext_getElem
  · simp
  · intro i h1 h2
    have hi : i < q.length := by simpa using h1
    rw [List.getElem_map, List.getElem_map, List.getElem_set]
    by_cases ek : k = i
    · subst ek
      rw [if_pos rfl, if_pos (keyB_iff.2 e)]
    · rw [if_neg ek, List.getElem_map, if_neg (fun c => ek (key_one h ho hi (keyB_iff.1 c)).symm)]
theorem find_here {q : List Qs} {t v : Int} {k : Nat} (h : AtQ q t v k) (ho : (q.map (·.s)).Pairwise lessS) (hh : hereQ q t v k = true) : findK (q.map (·.s)) t v = some (q.getD k qs0).s := by
  obtain ⟨hk, e⟩ := here_iff.1 hh
  rw [getD_get hk] at e ⊢
  unfold findK
  rw [List.find?_eq_some_iff_getElem]
  refine ⟨keyB_iff.2 e, k, by simpa using hk, by rw [List.getElem_map], fun j hj => ?_⟩
  rw [List.getElem_map]
  cases hb : keyB t v q[j].s with
  | false => rfl
  | true => exact absurd (key_one h ho (by omega) (keyB_iff.1 hb)) (by omega)
theorem find_gone {q : List Qs} {t v : Int} {k : Nat} (h : AtQ q t v k) (ho : (q.map (·.s)).Pairwise lessS) (hh : hereQ q t v k = false) : findK (q.map (·.s)) t v = none := by
  have h1 := here_has h ho
  rw [hh] at h1
  unfold findK
  rw [List.find?_eq_none]
  intro s hs hc
  unfold hasK at h1
  have : (q.map (·.s)).any (keyB t v) = true := List.any_eq_true.2 ⟨s, hs, hc⟩
  rw [← h1] at this
  cases this

/-- Where a part's pieces lie: its slots, their row, its draws and theirs. -/
structure Lay where
  q : List Qs
  A : Option Addr
  c : Nat
  gd : Nat
  Ad : Option Addr
  cd : Nat
/-- A port's part in block g, all its blocks among F, none of them below B. -/
structure PyAt (w : World) (B g : Nat) (p : Py) (jl : List Int) (F : Nat → Prop) (y : Lay) : Prop where
  blk : Blk w g 61 #[.slice y.A y.q.length y.c, .pointer (some ⟨y.gd, 0, none⟩), .int .i64 p.due, .bool p.ask, .int .i64 (wrap64 p.fails)]
  row : OwnK w 0 y.A y.c y.q
  ls : y.q.map (·.s) = p.l
  slots : QsAt w y.q
  draws : DrawOf w y.gd y.Ad y.cd jl (placeD jl p.at_)
  fg : F g
  frow : ∀ b, (Value.slice y.A 0 0).ownBlock = some b → F b
  fgd : F y.gd
  fdr : ∀ b, (Value.slice y.Ad 0 0).ownBlock = some b → F b
  fq : ∀ k, QFoot y.q k → F k
  lt : ∀ k, F k → B ≤ k ∧ k < w.heap.size
def PyF (w : World) (B g : Nat) (p : Py) (jl : List Int) (F : Nat → Prop) : Prop := ∃ y, PyAt w B g p jl F y
/-- What F grows to by what is made. -/
def grow (F : Nat → Prop) (w w' : World) (k : Nat) : Prop := F k ∨ (w.heap.size ≤ k ∧ k < w'.heap.size)
section
variable {w w' : World} {B g : Nat} {p : Py} {jl : List Int} {F : Nat → Prop} {y : Lay}
theorem PyAt.len (h : PyAt w B g p jl F y) : y.q.length = p.l.length := by rw [← h.ls, List.length_map]
theorem PyAt.c0 (h : PyAt w B g p jl F y) : w.cell? ⟨g, 0, none⟩ = some (.slice y.A y.q.length y.c) := h.blk.cell 0
theorem PyAt.c1 (h : PyAt w B g p jl F y) : w.cell? ⟨g, 1, none⟩ = some (.pointer (some ⟨y.gd, 0, none⟩)) := h.blk.cell 1
theorem PyAt.c2 (h : PyAt w B g p jl F y) : w.cell? ⟨g, 2, none⟩ = some (.int .i64 p.due) := h.blk.cell 2
theorem PyAt.c3 (h : PyAt w B g p jl F y) : w.cell? ⟨g, 3, none⟩ = some (.bool p.ask) := h.blk.cell 3
theorem PyAt.c4 (h : PyAt w B g p jl F y) : w.cell? ⟨g, 4, none⟩ = some (.int .i64 (wrap64 p.fails)) := h.blk.cell 4
/-- What turns none of its blocks. -/
theorem PyAt.keep (h : PyAt w B g p jl F y) {P : Nat → Prop} (ht : Touch P w w') (hp : ∀ k, F k → ¬ P k) : PyAt w' B g p jl F y :=
  ⟨h.blk.touch ht (hp _ h.fg), own_heap h.row fun b hb => ht.block b (World.ownsRow.lt h.row b hb).2 (hp _ (h.frow b (by rw [← hb]; exact block_any _ _ _ _ _))), h.ls, h.slots.keep ht fun k hk => hp _ (h.fq k hk),
    h.draws.keep ht (hp _ h.fgd) (fun b hb => hp _ (h.fdr b hb)), h.fg, h.frow, h.fgd, h.fdr, h.fq, fun k hk => ⟨(h.lt k hk).1, Nat.lt_of_lt_of_le (h.lt k hk).2 ht.size⟩⟩
theorem PyAt.below (h : PyAt w B g p jl F y) (hb : Below w.heap.size w w') : PyAt w' B g p jl F y :=
  h.keep (Below.touch hb) fun k hk => by have := (h.lt k hk).2; omega
theorem PyAt.drew (h : PyAt w B g p jl F y) : PyAt w.drew B g p jl F y := h.keep (Touch.refl (fun _ => False) w).drew fun _ _ => id
/-- A wider set of blocks. -/
theorem PyAt.wide (h : PyAt w B g p jl F y) {F' : Nat → Prop} (hF : ∀ k, F k → F' k) (hl : ∀ k, F' k → B ≤ k ∧ k < w.heap.size) : PyAt w B g p jl F' y :=
  ⟨h.blk, h.row, h.ls, h.slots, h.draws, hF _ h.fg, fun b hb => hF _ (h.frow b hb), hF _ h.fgd, fun b hb => hF _ (h.fdr b hb), fun k hk => hF _ (h.fq k hk), hl⟩
theorem grow_lt {w0 : World} (hl : ∀ k, F k → B ≤ k ∧ k < w0.heap.size) (hB : B ≤ w0.heap.size) (hs : w0.heap.size ≤ w.heap.size) : ∀ k, grow F w0 w k → B ≤ k ∧ k < w.heap.size := fun k hk => by
  rcases hk with hk | hk
  · have := hl k hk; omega
  · omega
theorem PyAt.grown {w0 : World} (h : PyAt w B g p jl F y) (hl : ∀ k, F k → B ≤ k ∧ k < w0.heap.size) (hB : B ≤ w0.heap.size) (hs : w0.heap.size ≤ w.heap.size) : PyAt w B g p jl (grow F w0 w) y :=
  h.wide (fun _ hk => .inl hk) (grow_lt hl hB hs)
/-- Grown twice is grown once. -/
theorem grow_grow {w0 w1 w2 : World} (h1 : w0.heap.size ≤ w1.heap.size) (h2 : w1.heap.size ≤ w2.heap.size) {k : Nat} (h : grow (grow F w0 w1) w1 w2 k) : grow F w0 w2 k := by
  rcases h with (h | h) | h
  · exact .inl h
  · exact .inr (by omega)
  · exact .inr (by omega)
theorem grow_touch {w0 w1 w2 : World} (h1 : Touch F w0 w1) (h2 : Touch (grow F w0 w1) w1 w2) : Touch F w0 w2 :=
  ⟨h2.os.trans h1.os, h2.tape.trans h1.tape, h2.output.trans h1.output, Nat.le_trans h1.size h2.size, fun k hk hp => (h2.block k (Nat.lt_of_lt_of_le hk h1.size) (fun c => by rcases c with c | c; exact hp c; omega)).trans (h1.block k hk hp)⟩
/-- One slot is turned. -/
theorem PyAt.turn (h : PyAt w B g p jl F y) {i : Nat} (hi : i < y.q.length) {s : Sl} (hk : s.t = (y.q.getD i qs0).s.t ∧ s.v = (y.q.getD i qs0).s.v) {P : Nat → Prop} (ht : Touch P w w') (hp : ∀ k, P k → k = (y.q.getD i qs0).r ∨ k = (y.q.getD i qs0).a)
    (hr : RgAt w' (y.q.getD i qs0).r s.r) (ha : ApAt w' (y.q.getD i qs0).a s.a) :
    PyAt w' B g (withL p (p.l.set i s)) jl F ⟨y.q.set i ⟨s, (y.q.getD i qs0).r, (y.q.getD i qs0).a⟩, y.A, y.c, y.gd, y.Ad, y.cd⟩ := by
  have hm := h.slots.each _ (getD_mem' hi)
  have hne : ∀ b, (Value.slice y.A y.q.length y.c).ownBlock = some b → ¬ P b := fun b hb c => by
    rcases hp b c with e | e
    · exact own_ne h.row hm.1 (by decide) (by rw [hb, e])
    · exact own_ne h.row hm.2 (by decide) (by rw [hb, e])
  have hg : ¬ P g := fun c => by
    have hb := h.blk
    unfold Blk at hb
    rcases hp g c with e | e
    · have h2 := hm.1
      unfold RgAt Blk at h2
      rw [← e, hb] at h2
      injection h2 with h2
      injection h2 with _ h2
      exact absurd h2 (by decide)
    · have h2 := hm.2
      unfold ApAt Blk at h2
      rw [← e, hb] at h2
      injection h2 with h2
      injection h2 with _ h2
      exact absurd h2 (by decide)
  have hd : ¬ P y.gd := fun c => by
    have hb := h.draws.blk
    unfold Blk at hb
    rcases hp _ c with e | e
    · have h2 := hm.1
      unfold RgAt Blk at h2
      rw [← e, hb] at h2
      injection h2 with h2
      injection h2 with _ h2
      exact absurd h2 (by decide)
    · have h2 := hm.2
      unfold ApAt Blk at h2
      rw [← e, hb] at h2
      injection h2 with h2
      injection h2 with _ h2
      exact absurd h2 (by decide)
  have hdr : ∀ b, (Value.slice y.Ad 0 0).ownBlock = some b → ¬ P b := fun b hb c => by
    have hb' : (Value.slice y.Ad jl.length y.cd).ownBlock = some b := by rw [← hb]; exact block_any _ _ _ _ _
    rcases hp b c with e | e
    · exact own_ne h.draws.own hm.1 (by decide) (by rw [hb', e])
    · exact own_ne h.draws.own hm.2 (by decide) (by rw [hb', e])
  have hrow : OwnK w' 0 y.A y.c (y.q.set i ⟨s, (y.q.getD i qs0).r, (y.q.getD i qs0).a⟩) := by
    unfold OwnK
    rw [List.length_set, qsL_set y.q i _ (by unfold Qs.cells; rw [hk.1, hk.2])]
    exact own_heap h.row fun b hb => ht.block b (World.ownsRow.lt h.row b hb).2 (hne b hb)
  refine ⟨?_, hrow, ?_, h.slots.turn hi ht hp hr ha, h.draws.keep ht hd hdr, h.fg, h.frow, h.fgd, h.fdr, ?_, fun k hk => ⟨(h.lt k hk).1, Nat.lt_of_lt_of_le (h.lt k hk).2 ht.size⟩⟩
  · have := h.blk.touch ht hg
    rw [← List.length_set (i := i) (a := (⟨s, (y.q.getD i qs0).r, (y.q.getD i qs0).a⟩ : Qs))] at this
    exact this
  · show List.map (·.s) (y.q.set i _) = p.l.set i s
    rw [List.map_set, h.ls]
  · intro k hk
    apply h.fq
    obtain ⟨x, hx, e⟩ := hk
    rcases List.mem_or_eq_of_mem_set hx with hx | rfl
    · exact ⟨x, hx, e⟩
    · exact ⟨_, getD_mem' hi, e⟩
end
end Go.Proofs.Ythghedlgeceepaa
