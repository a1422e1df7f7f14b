/- What the statements of layer 18 say of a table kept in order, as plain data. No program's call, no condition. -/
import Derived.Test.YtocahiifeckogaaFbS
namespace Go.Proofs.Ytocahiifeckogaa
open Go.RowKit
set_option maxRecDepth 100000

/-- A call of the statements. -/
structure Kc where
  k : Int
  v : Int
  m : Int
  p : Int
  n : Int
def kc0 : Kc := ⟨0, 0, 0, 0, 0⟩
instance : Inhabited Kc := ⟨kc0⟩
def flushK (d : Dt) (p : Int) : Dt := if p < 0 then keepD d 2 0 else keepD d 1 p
def doesS (s : Dt) (c : Kc) : Dt := if c.k = 0 then (learnS s c.v c.m c.p c.n).1 else if c.k = 1 then (fixS s c.v c.m c.p).1 else if c.k = 2 then (dropD s c.v c.m).1 else if c.k = 3 then keepD s 0 c.n else if c.k = 4 then flushK s c.p else s
def doesD (d : Dt) (c : Kc) : Dt := if c.k = 0 then (learnD d c.v c.m c.p c.n).1 else if c.k = 1 then (fixD d c.v c.m c.p).1 else if c.k = 2 then (dropD d c.v c.m).1 else if c.k = 3 then keepD d 0 c.n else if c.k = 4 then flushK d c.p else d
theorem Rel.flush {s d : Dt} (h : Rel s d) (p : Int) : Rel (flushK s p) (flushK d p) := by
  unfold flushK
  split
  · exact h.keep 2 0
  · exact h.keep 1 p
theorem Rel.does {s d : Dt} (h : Rel s d) (c : Kc) : Rel (doesS s c) (doesD d c) := by
  unfold doesS doesD
  repeat' split
  · exact (h.learn _ _ _ _).1
  · exact (h.fix _ _ _).1
  · exact (h.drop _ _).1
  · exact h.keep _ _
  · exact h.flush _
  · exact h
/-- What is always so. -/
structure Few (d : Dt) : Prop where
  len : d.l.length ≤ 24
  seen : ∀ x ∈ d.l, 0 ≤ x.s ∧ x.s ≤ 1099511627776
theorem rm_mem {l : List Pl} {i : Nat} {x : Pl} (h : x ∈ rmP l i) : x ∈ l := by
  unfold rmP at h
  rcases List.mem_append.1 h with h | h
  · exact List.mem_of_mem_take h
  · exact List.mem_of_mem_drop h
theorem Few.putS {d : Dt} (h : Few d) {x : Pl} (hx : 0 ≤ x.s ∧ x.s ≤ 1099511627776) : Few (putS d x).1 := by
  unfold Go.Proofs.Ytocahiifeckogaa.putS
  split
  · rename_i i hi
    refine ⟨by simp only; rw [List.length_set]; exact h.len, fun y hy => ?_⟩
    rcases List.mem_or_eq_of_mem_set hy with hy | rfl
    · exact h.seen y hy
    · exact hx
  · split
    · split
      · exact ⟨h.len, h.seen⟩
      · rename_i c1 c2
        have ho := (old_in d.l d.l.length).2.1
        refine ⟨?_, fun y hy => ?_⟩
        · show (insP x (rmP d.l _)).length ≤ 24
          rw [ins_len, rm_len (by omega)]
          have := h.len
          omega
        · rcases ins_mem.1 hy with rfl | hy
          · exact hx
          · exact h.seen y (rm_mem hy)
    · rename_i c
      refine ⟨by show (insP x d.l).length ≤ 24; rw [ins_len]; omega, fun y hy => ?_⟩
      rcases ins_mem.1 hy with rfl | hy
      · exact hx
      · exact h.seen y hy
theorem Few.keep {d : Dt} (h : Few d) (kind n : Int) : Few (keepD d kind n) :=
  ⟨Nat.le_trans (List.length_filter_le _ _) h.len, fun x hx => h.seen x (List.mem_filter.1 hx).1⟩
theorem Few.learn {d : Dt} (h : Few d) {v m p now : Int} (hn : 0 ≤ now ∧ now ≤ 1099511627776) : Few (learnS d v m p now).1 := by
  unfold learnS
  split
  · split
    · split
      · exact h
      · exact h.putS hn
    · exact h.putS hn
  · exact h
theorem Few.fix {d : Dt} (h : Few d) (v m p : Int) : Few (fixS d v m p).1 := by
  unfold fixS
  split
  · exact h.putS ⟨by show (0 : Int) ≤ 0; omega, by show (0 : Int) ≤ 1099511627776; omega⟩
  · exact h
theorem Few.drop {d : Dt} (h : Few d) (v m : Int) : Few (dropD d v m).1 := by
  unfold dropD
  split
  · rename_i i hi
    exact ⟨by show (rmP d.l i).length ≤ 24; rw [rm_len (ixP_some hi).1]; have := h.len; omega, fun x hx => h.seen x (rm_mem hx)⟩
  · exact h
theorem Few.does {d : Dt} (h : Few d) {c : Kc} (hn : 0 ≤ c.n ∧ c.n ≤ 1099511627776) : Few (doesS d c) := by
  unfold doesS flushK
  repeat' split
  · exact h.learn hn
  · exact h.fix _ _ _
  · exact h.drop _ _
  · exact h.keep _ _
  · exact h.keep _ _
  · exact h.keep _ _
  · exact h
/-- FdbBound's content: behind Age and Flush. -/
theorem bound_plain (d : Dt) (now port : Int) : ∀ x ∈ (flushK (keepD d 0 now) port).l, x.st = true ∨ wrap64 (now - x.s) ≤ 60 ∧ x.p ≠ port ∧ 0 ≤ port := by
  intro x hx
  unfold flushK at hx
  split at hx
  · have h1 := (List.mem_filter.1 hx).2
    unfold keepB at h1
    simp at h1
    exact .inl h1
  · rename_i c
    have h1 := (List.mem_filter.1 hx).2
    have h2 := (List.mem_filter.1 (List.mem_filter.1 hx).1).2
    unfold keepB at h1 h2
    simp at h1 h2
    rcases h1 with h1 | h1
    · exact .inl h1
    · rcases h2 with h2 | h2
      · exact .inl h2
      · exact .inr ⟨by omega, h1, by omega⟩
theorem bound_srt {d : Dt} (h : Srt d.l) (now port : Int) : Srt (flushK (keepD d 0 now) port).l := by
  unfold flushK
  split
  · exact List.Pairwise.filter _ (List.Pairwise.filter _ h)
  · exact List.Pairwise.filter _ (List.Pairwise.filter _ h)
/- One network apart from the others. -/
def vq (vid : Int) (x : Pl) : Bool := decide (x.v = vid)
def repl (x y : Pl) : Pl := if y.is x.v x.m then x else y
theorem set_repl {l : List Pl} (hk : Keys l) {i : Nat} {x : Pl} (hi : i < l.length) (e : (l.getD i pl0).is x.v x.m) : l.set i x = l.map (repl x) := by
  apply List.ext_getElem
  · rw [List.length_set, List.length_map]
  · intro j h1 h2
    rw [List.length_set] at h1
    rw [List.getElem_set, List.getElem_map]
    unfold repl
    rw [getD_get hi] at e
    split
    · rename_i c
      subst c
      rw [if_pos e]
    · rename_i c
      by_cases c2 : (l[j]).is x.v x.m
      · have := hk.one (List.getElem_mem h1) (List.getElem_mem hi) ⟨c2.1.trans e.1.symm, c2.2.trans e.2.symm⟩
        unfold Keys at hk
        rcases Nat.lt_or_gt_of_ne c with q | q
        · have h3 := List.pairwise_iff_getElem.1 hk i j (by rw [List.length_map]; omega) (by rw [List.length_map]; omega) q
          rw [List.getElem_map, List.getElem_map] at h3
          exact absurd (by rw [e.1, e.2, c2.1, c2.2]) h3
        · have h3 := List.pairwise_iff_getElem.1 hk j i (by rw [List.length_map]; omega) (by rw [List.length_map]; omega) q
          rw [List.getElem_map, List.getElem_map] at h3
          exact absurd (by rw [e.1, e.2, c2.1, c2.2]) h3
      · rw [if_neg c2]
theorem repl_v (x y : Pl) : (repl x y).v = y.v := by
  unfold repl
  split
  · rename_i c; exact c.1.symm
  · rfl
theorem repl_filter (x : Pl) (l : List Pl) (vid : Int) : (l.map (repl x)).filter (vq vid) = (l.filter (vq vid)).map (repl x) := by
  rw [List.filter_map]
  congr 1
  refine List.filter_congr fun y _ => ?_
  show decide ((repl x y).v = vid) = decide (y.v = vid)
  rw [repl_v]
theorem repl_other {x : Pl} {l : List Pl} {vid : Int} (h : x.v ≠ vid) : (l.filter (vq vid)).map (repl x) = l.filter (vq vid) := by
  refine (List.map_congr_left fun y hy => ?_).trans (List.map_id _)
  have hv : y.v = vid := of_decide_eq_true (List.mem_filter.1 hy).2
  unfold repl
  rw [if_neg (fun c => h (c.1.symm.trans hv))]
  rfl
theorem rm_filter {l : List Pl} (hk : Keys l) {i : Nat} (hi : i < l.length) : rmP l i = l.filter fun y => decide (¬ y.is (l.getD i pl0).v (l.getD i pl0).m) := by
  induction l generalizing i with
  | nil => cases hi
  | cons z l ih =>
    have hk' := hk
    unfold Keys at hk'
    rw [List.map_cons, List.nodup_cons] at hk'
    cases i with
    | zero =>
      show l = _
      have hz : z.is z.v z.m := ⟨rfl, rfl⟩
      rw [show ((z :: l).getD 0 pl0) = z from rfl, List.filter_cons, if_neg (by simp [hz])]
      refine (List.filter_eq_self.2 fun y hy => decide_eq_true (show ¬ y.is z.v z.m from fun c => hk'.1 (List.mem_map.2 ⟨y, hy, by rw [c.1, c.2]⟩))).symm
    | succ i =>
      have hi' : i < l.length := by simpa using hi
      have e : (z :: l).getD (i + 1) pl0 = l.getD i pl0 := by simp
      show z :: rmP l i = _
      rw [e, List.filter_cons, if_pos (decide_eq_true (show ¬ z.is (l.getD i pl0).v (l.getD i pl0).m from fun c => hk'.1 (List.mem_map.2 ⟨_, getD_mem hi', by rw [c.1, c.2]⟩))), ih hk'.2 hi']
theorem ins_other {x : Pl} {vid : Int} (h : x.v ≠ vid) (l : List Pl) : (insP x l).filter (vq vid) = l.filter (vq vid) := by
  have hx : ¬ vq vid x = true := by unfold vq; simpa using h
  induction l with
  | nil => show List.filter (vq vid) [x] = []; rw [List.filter_cons, if_neg hx]; rfl
  | cons y l ih =>
    unfold insP
    split
    · rw [List.filter_cons, ih, List.filter_cons]
    · rw [List.filter_cons, if_neg hx]
theorem ins_head {x : Pl} {l : List Pl} (h : ∀ y ∈ l, ¬ ltK y x) : insP x l = x :: l := by
  cases l with
  | nil => rfl
  | cons y l => unfold insP; exact if_neg (h y List.mem_cons_self)
theorem ins_filter {x : Pl} {vid : Int} (h : x.v = vid) {l : List Pl} (hs : Srt l) : (insP x l).filter (vq vid) = insP x (l.filter (vq vid)) := by
  have hx : vq vid x = true := decide_eq_true h
  induction l with
  | nil => show List.filter (vq vid) [x] = [x]; rw [List.filter_cons, if_pos hx]; rfl
  | cons y l ih =>
    obtain ⟨h1, h2⟩ := List.pairwise_cons.1 hs
    have ih := ih h2
    by_cases c : ltK y x
    · have e : insP x (y :: l) = y :: insP x l := by
        show (if _ then _ else _) = _
        exact if_pos c
      rw [e, List.filter_cons, List.filter_cons]
      by_cases hy : vq vid y = true
      · rw [if_pos hy, if_pos hy, ih]
        show _ = (if _ then _ else _)
        rw [if_pos c]
      · rw [if_neg hy, if_neg hy, ih]
    · have hall : ∀ z ∈ y :: l, ¬ ltK z x := fun z hz hzx => by
        rcases List.mem_cons.1 hz with rfl | hz
        · exact c hzx
        · exact c (ltK_trans (h1 z hz) hzx)
      rw [ins_head hall, List.filter_cons, if_pos hx, ins_head fun z hz => hall z (List.mem_filter.1 hz).1]
/-- Two tables of which the one holds a network's part of the other. -/
structure Part (vid : Int) (t u : Dt) : Prop where
  srt : Srt t.l
  eq : u.l = t.l.filter (vq vid)
theorem Part.srt2 {vid : Int} {t u : Dt} (h : Part vid t u) : Srt u.l := by rw [h.eq]; exact List.Pairwise.filter _ h.srt
theorem Part.ix {vid : Int} {t u : Dt} (h : Part vid t u) (m : Int) : (ixP vid m t.l = none ∧ ixP vid m u.l = none) ∨ ∃ i j, ixP vid m t.l = some i ∧ ixP vid m u.l = some j ∧ t.l.getD i pl0 = u.l.getD j pl0 := by
  have hmem : ∀ x, x.is vid m → (x ∈ t.l ↔ x ∈ u.l) := fun x hx => by
    rw [h.eq, List.mem_filter]
    exact ⟨fun c => ⟨c, decide_eq_true hx.1⟩, fun c => c.1⟩
  cases ht : ixP vid m t.l with
  | none =>
    cases hu : ixP vid m u.l with
    | none => exact .inl ⟨rfl, rfl⟩
    | some j =>
      obtain ⟨x, hx, hi⟩ := ixP_mem.1 ⟨j, hu⟩
      obtain ⟨i, hi'⟩ := ixP_mem.2 ⟨x, (hmem x hi).2 hx, hi⟩
      rw [ht] at hi'
      cases hi'
  | some i =>
    cases hu : ixP vid m u.l with
    | none =>
      obtain ⟨x, hx, hi⟩ := ixP_mem.1 ⟨i, ht⟩
      obtain ⟨i, hi'⟩ := ixP_mem.2 ⟨x, (hmem x hi).1 hx, hi⟩
      rw [hu] at hi'
      cases hi'
    | some j =>
      obtain ⟨s1, s2, _⟩ := ixP_some ht
      obtain ⟨d1, d2, _⟩ := ixP_some hu
      exact .inr ⟨i, j, rfl, rfl, h.srt.keys.one (getD_mem s1) ((hmem _ d2).2 (getD_mem d1)) ⟨s2.1.trans d2.1.symm, s2.2.trans d2.2.symm⟩⟩
theorem Part.find {vid : Int} {t u : Dt} (h : Part vid t u) (m : Int) : findS t.l vid m = findS u.l vid m := by
  unfold findS
  rcases h.ix m with ⟨hs, hd⟩ | ⟨i, j, hs, hd, e⟩
  · rw [hs, hd]
  · rw [hs, hd]
    simp only
    rw [e]
theorem Part.len {vid : Int} {t u : Dt} (h : Part vid t u) : u.l.length ≤ t.l.length := by rw [h.eq]; exact List.length_filter_le _ _
theorem no_key {v m : Int} {l : List Pl} (h : ixP v m l = none) : ∀ y ∈ l, ¬ (y.v = v ∧ y.m = m) := fun y hy c => by
  obtain ⟨k, hk, e⟩ := mem_get hy
  exact ixP_none h k hk (by rw [e]; exact c)
theorem Part.put {vid : Int} {t u : Dt} (h : Part vid t u) (h24 : t.l.length < 24) {x : Pl} (hx : x.v = vid) : Part vid (putS t x).1 (putS u x).1 := by
  have hl := h.len
  unfold putS
  rw [hx]
  rcases h.ix x.m with ⟨ht, hu⟩ | ⟨i, j, ht, hu, e⟩
  · rw [ht, hu]
    simp only
    rw [if_neg (by omega), if_neg (by omega)]
    refine ⟨ins_srt h.srt fun y hy c => no_key ht y hy ⟨c.1.trans hx, c.2⟩, ?_⟩
    show insP x u.l = (insP x t.l).filter (vq vid)
    rw [ins_filter hx h.srt, h.eq]
  · rw [ht, hu]
    obtain ⟨t1, t2, _⟩ := ixP_some ht
    obtain ⟨u1, u2, _⟩ := ixP_some hu
    refine ⟨set_srt h.srt t1 ⟨t2.1.trans hx.symm, t2.2⟩, ?_⟩
    show u.l.set j x = (t.l.set i x).filter (vq vid)
    rw [set_repl h.srt2.keys u1 ⟨u2.1.trans hx.symm, u2.2⟩, set_repl h.srt.keys t1 ⟨t2.1.trans hx.symm, t2.2⟩, repl_filter, h.eq]
theorem Part.put_other {vid : Int} {t u : Dt} (h : Part vid t u) (h24 : t.l.length < 24) {x : Pl} (hx : x.v ≠ vid) : Part vid (putS t x).1 u := by
  unfold putS
  cases ht : ixP x.v x.m t.l with
  | none =>
    simp only
    rw [if_neg (by omega)]
    refine ⟨ins_srt h.srt fun y hy c => no_key ht y hy c, ?_⟩
    show u.l = (insP x t.l).filter (vq vid)
    rw [ins_other hx, h.eq]
  | some i =>
    obtain ⟨t1, t2, _⟩ := ixP_some ht
    refine ⟨set_srt h.srt t1 t2, ?_⟩
    show u.l = (t.l.set i x).filter (vq vid)
    rw [set_repl h.srt.keys t1 t2, repl_filter, repl_other hx, h.eq]
theorem Part.keep {vid : Int} {t u : Dt} (h : Part vid t u) (kind n : Int) : Part vid (keepD t kind n) (keepD u kind n) :=
  ⟨List.Pairwise.filter _ h.srt, by
    show u.l.filter _ = (t.l.filter _).filter _
    rw [h.eq, List.filter_filter, List.filter_filter]
    exact List.filter_congr fun y _ => Bool.and_comm _ _⟩
theorem Part.drop {vid : Int} {t u : Dt} (h : Part vid t u) (m : Int) : Part vid (dropD t vid m).1 (dropD u vid m).1 := by
  unfold dropD
  rcases h.ix m with ⟨ht, hu⟩ | ⟨i, j, ht, hu, e⟩
  · rw [ht, hu]
    exact h
  · rw [ht, hu]
    have t1 := (ixP_some ht).1
    have u1 := (ixP_some hu).1
    refine ⟨rm_srt h.srt i, ?_⟩
    show rmP u.l j = (rmP t.l i).filter (vq vid)
    rw [rm_filter h.srt2.keys u1, rm_filter h.srt.keys t1, ← e, h.eq, List.filter_filter, List.filter_filter]
    exact List.filter_congr fun y _ => Bool.and_comm _ _
theorem Part.drop_other {vid : Int} {t u : Dt} (h : Part vid t u) {v : Int} (hv : v ≠ vid) (m : Int) : Part vid (dropD t v m).1 u := by
  unfold dropD
  cases ht : ixP v m t.l with
  | none => exact h
  | some i =>
    obtain ⟨t1, t2, _⟩ := ixP_some ht
    refine ⟨rm_srt h.srt i, ?_⟩
    show u.l = (rmP t.l i).filter (vq vid)
    rw [rm_filter h.srt.keys t1, h.eq, List.filter_filter]
    refine List.filter_congr fun y _ => ?_
    by_cases c : y.v = vid
    · have : ¬ y.is (t.l.getD i pl0).v (t.l.getD i pl0).m := fun q => hv (t2.1.symm.trans (q.1.symm.trans c))
      rw [decide_eq_true this, Bool.and_true]
    · have : vq vid y = false := decide_eq_false c
      rw [this, Bool.false_and]
theorem Part.does {vid : Int} {t u : Dt} (h : Part vid t u) (h24 : t.l.length < 24) {c : Kc} (hc : c.v = vid ∨ 2 < c.k) : Part vid (doesS t c) (doesS u c) := by
  unfold doesS flushK
  by_cases k0 : c.k = 0
  · have hv : c.v = vid := hc.resolve_right (by omega)
    rw [if_pos k0, if_pos k0]
    unfold learnS
    by_cases cf : fineP c.v c.m c.p
    · rw [if_pos cf, if_pos cf]
      rw [hv]
      rcases h.ix c.m with ⟨ht, hu⟩ | ⟨i, j, ht, hu, e⟩
      · rw [ht, hu]
        exact h.put h24 rfl
      · rw [ht, hu]
        simp only
        rw [e]
        split
        · exact h
        · exact h.put h24 rfl
    · rw [if_neg cf, if_neg cf]
      exact h
  · rw [if_neg k0, if_neg k0]
    by_cases k1 : c.k = 1
    · have hv : c.v = vid := hc.resolve_right (by omega)
      rw [if_pos k1, if_pos k1]
      unfold fixS
      by_cases cf : fineP c.v c.m c.p
      · rw [if_pos cf, if_pos cf]
        exact h.put h24 hv
      · rw [if_neg cf, if_neg cf]
        exact h
    · rw [if_neg k1, if_neg k1]
      by_cases k2 : c.k = 2
      · have hv : c.v = vid := hc.resolve_right (by omega)
        rw [if_pos k2, if_pos k2, hv]
        exact h.drop _
      · rw [if_neg k2, if_neg k2]
        repeat' split
        · exact h.keep _ _
        · exact h.keep _ _
        · exact h.keep _ _
        · exact h
theorem Part.does_other {vid : Int} {t u : Dt} (h : Part vid t u) (h24 : t.l.length < 24) {c : Kc} (hc : ¬ (c.v = vid ∨ 2 < c.k)) : Part vid (doesS t c) u := by
  have hv : c.v ≠ vid := fun e => hc (.inl e)
  unfold doesS
  by_cases k0 : c.k = 0
  · rw [if_pos k0]
    unfold learnS
    split
    · split
      · split
        · exact h
        · exact h.put_other h24 hv
      · exact h.put_other h24 hv
    · exact h
  · rw [if_neg k0]
    by_cases k1 : c.k = 1
    · rw [if_pos k1]
      unfold fixS
      split
      · exact h.put_other h24 hv
      · exact h
    · rw [if_neg k1]
      by_cases k2 : c.k = 2
      · rw [if_pos k2]
        exact h.drop_other hv _
      · rw [if_neg k2, if_neg (fun e => hc (.inr (by omega))), if_neg (fun e => hc (.inr (by omega)))]
        exact h
end Go.Proofs.Ytocahiifeckogaa
