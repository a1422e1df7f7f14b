/- What is known of one attribute doesn't hang on others, as long as there is room (layer 16), as plain data: a part that holds networks 1 to 15, and one that holds but one of them. No program's call, no condition. -/
import Derived.Test.YthghedlgeceepaaPyP
namespace Go.Proofs.Ythghedlgeceepaa
set_option maxRecDepth 100000

/-- What is kept of the one attribute. -/
def fil (v : Int) (l : List Sl) : List Sl := l.filter (keyB 1 v)
theorem fil_map {f : Sl → Sl} (h : KeyOk f) (v : Int) (l : List Sl) : fil v (l.map f) = (fil v l).map f := by
  unfold fil
  induction l with
  | nil => rfl
  | cons a l ih =>
    rw [List.map_cons, List.filter_cons, List.filter_cons, keyB_map h]
    split
    · rw [List.map_cons, ih]
    · exact ih
theorem fil_tidy (v : Int) (l : List Sl) : fil v (tidyL l) = tidyL (fil v l) := by
  unfold fil tidyL
  rw [List.filter_filter, List.filter_filter]
  congr 1
  funext s
  exact Bool.and_comm _ _
theorem fil_upd {f : Sl → Sl} (h : KeyOk f) {v v' : Int} (hne : v' ≠ v) (l : List Sl) : fil v (updK l 1 v' f) = fil v l := by
  unfold updK
  rw [fil_map (key_upd h 1 v')]
  unfold fil
  rw [List.map_congr_left (g := id), List.map_id]
  intro s hs
  have hk := keyB_iff.1 (List.mem_filter.1 hs).2
  show (if keyB 1 v' s = true then f s else s) = s
  rw [if_neg (fun c => hne ((keyB_iff.1 c).2.symm.trans hk.2))]
theorem fil_upd_own {f : Sl → Sl} (h : KeyOk f) (v : Int) (l : List Sl) : fil v (updK l 1 v f) = updK (fil v l) 1 v f := by
  unfold updK
  exact fil_map (key_upd h 1 v) v l
theorem fil_ins {v : Int} {x : Sl} (hx : keyB 1 v x = false) (l : List Sl) : fil v (insK x l) = fil v l := by
  unfold fil
  induction l with
  | nil => unfold insK; rw [List.filter_cons, hx]; rfl
  | cons a l ih =>
    unfold insK
    split
    · rw [List.filter_cons, List.filter_cons, ih]
    · rw [List.filter_cons, hx]
      rfl
theorem fil_ins_own {v : Int} {x : Sl} (hx : keyB 1 v x = true) {l : List Sl} (hl : fil v l = []) : fil v (insK x l) = [x] := by
  unfold fil at *
  induction l with
  | nil => unfold insK; rw [List.filter_cons, hx]; rfl
  | cons a l ih =>
    rw [List.filter_cons] at hl
    have ha : keyB 1 v a = false := by
      cases h : keyB 1 v a with
      | false => rfl
      | true => rw [h] at hl; cases hl
    rw [ha] at hl
    unfold insK
    split
    · rw [List.filter_cons, ha]
      exact ih hl
    · rw [List.filter_cons, hx, List.filter_cons, ha]
      show x :: List.filter (keyB 1 v) l = [x]
      rw [show List.filter (keyB 1 v) l = [] from hl]
theorem fil_find (v : Int) (l : List Sl) : findK (fil v l) 1 v = findK l 1 v := by
  unfold findK fil
  induction l with
  | nil => rfl
  | cons a l ih =>
    rw [List.filter_cons, List.find?_cons]
    cases h : keyB 1 v a with
    | true => rw [if_pos rfl, List.find?_cons, h]
    | false => rw [if_neg (by decide)]; exact ih
theorem fil_has (v : Int) (l : List Sl) : hasK (fil v l) 1 v = hasK l 1 v := by
  unfold hasK fil
  induction l with
  | nil => rfl
  | cons a l ih =>
    rw [List.filter_cons, List.any_cons]
    cases h : keyB 1 v a with
    | true => rw [if_pos rfl, List.any_cons, h]; rfl
    | false => rw [if_neg (by decide), ih]; rfl
theorem fil_nil {v : Int} {l : List Sl} (h : hasK l 1 v = false) : fil v l = [] := by
  unfold fil
  rw [List.filter_eq_nil_iff]
  intro s hs hk
  have : hasK l 1 v = true := by
    unfold hasK
    rw [List.any_eq_true]
    exact ⟨s, hs, hk⟩
  rw [h] at this
  cases this
theorem short_row : ∀ (l : List Sl) (lo : Int), l.Pairwise lessS → (∀ s ∈ l, s.t = 1 ∧ lo ≤ s.v ∧ s.v ≤ 15) → (l.length : Int) ≤ max 0 (16 - lo)
  | [], lo, _, _ => by show (0 : Int) ≤ _; omega
  | a :: l, lo, ho, hi => by
    have h1 := List.pairwise_cons.1 ho
    have ha := hi a List.mem_cons_self
    have h2 := short_row l (a.v + 1) h1.2 (fun s hs => by
      have hs1 := hi s (List.mem_cons_of_mem _ hs)
      have hs2 := h1.1 s hs
      unfold lessS at hs2
      omega)
    rw [List.length_cons]
    omega
/-- The two parts side by side. -/
structure Apart (v : Int) (p q : Py) : Prop where
  l : q.l = fil v p.l
  due : q.due = p.due
  at_ : q.at_ = p.at_
  fails : p.fails = 0
  ids : ∀ s ∈ p.l, s.t = 1 ∧ 1 ≤ s.v ∧ s.v ≤ 15
  tidy : ∀ s ∈ p.l, idleS s = false
theorem tidy_same {l : List Sl} (h : ∀ s ∈ l, idleS s = false) : tidyL l = l := by
  unfold tidyL
  rw [List.filter_eq_self]
  intro s hs
  rw [h s hs]
  rfl
theorem tidy_all {l : List Sl} : ∀ s ∈ tidyL l, idleS s = false := fun s hs => by
  have := (List.mem_filter.1 hs).2
  cases h : idleS s with
  | false => rfl
  | true => rw [h] at this; cases this
theorem Apart.short {v T : Int} {p q : Py} (h : Apart v p q) (hp : PyOk T p) : p.l.length ≤ 15 := by
  have := short_row p.l 1 hp.ord h.ids
  omega
theorem Apart.ok {v T : Int} {p q : Py} (h : Apart v p q) (hp : PyOk T p) : PyOk T q := by
  refine ⟨?_, ?_, ?_⟩
  · rw [h.l]
    exact fun s hs => hp.all s (List.mem_filter.1 hs).1
  · rw [h.l]
    exact hp.ord.sublist List.filter_sublist
  · rw [h.l]
    exact Nat.le_trans (List.length_filter_le _ _) hp.len
theorem ids_map {f : Sl → Sl} (hk : KeyOk f) {l : List Sl} (h : ∀ s ∈ l, s.t = 1 ∧ 1 ≤ s.v ∧ s.v ≤ 15) : ∀ s ∈ l.map f, s.t = 1 ∧ 1 ≤ s.v ∧ s.v ≤ 15 := fun s hs => by
  obtain ⟨s', hs', rfl⟩ := List.mem_map.1 hs
  rw [(hk s').1, (hk s').2]
  exact h s' hs'
theorem ids_tidy {l : List Sl} (h : ∀ s ∈ l, s.t = 1 ∧ 1 ≤ s.v ∧ s.v ≤ 15) : ∀ s ∈ tidyL l, s.t = 1 ∧ 1 ≤ s.v ∧ s.v ≤ 15 := fun s hs => h s (List.mem_filter.1 hs).1
/-- Behind a turn of all slots, and a tidying. -/
theorem Apart.map {v : Int} {p q : Py} (h : Apart v p q) {f : Sl → Sl} (hk : KeyOk f) {p' q' : Py} (hp : p'.l = tidyL (p.l.map f)) (hq : q'.l = tidyL (q.l.map f)) (hd : q'.due = p'.due) (ha : q'.at_ = p'.at_) (hf : p'.fails = p.fails) : Apart v p' q' := by
  refine ⟨?_, hd, ha, hf.trans h.fails, ?_, ?_⟩
  · rw [hp, hq, h.l, fil_tidy, fil_map hk]
  · rw [hp]
    exact ids_tidy (ids_map hk h.ids)
  · rw [hp]
    exact tidy_all
theorem Apart.flush {v : Int} {p q : Py} (h : Apart v p q) (now : Int) : Apart v (flushP p now) (flushP q now) :=
  h.map (key_flush now) rfl rfl h.due h.at_ rfl
theorem types_one {l : List Sl} (h : ∀ s ∈ l, s.t = 1) : typesL l = [1] := by
  have e : ∀ k : Int, k ≠ 1 → l.any (fun s => decide (s.t = k)) = false := fun k hk => by
    rw [List.any_eq_false]
    intro s hs
    rw [h s hs]
    simpa using fun c => hk c.symm
  unfold typesL
  rw [e 2 (by decide), e 3 (by decide)]
  rfl
theorem all_map {l : List Sl} (h : ∀ s ∈ l, s.t = 1) (now : Int) : allsL [1] now l = l.map (allS now) := by
  show allL 1 now l = _
  unfold allL
  refine List.map_congr_left fun s hs => ?_
  rw [if_pos (h s hs)]
theorem Apart.tick {v : Int} {p q : Py} (h : Apart v p q) (jit : Nat → Int) (now : Int) : Apart v (tickP jit p now) (tickP jit q now) := by
  have hp1 : ∀ s ∈ p.l, s.t = 1 := fun s hs => (h.ids s hs).1
  have hq1 : ∀ s ∈ q.l, s.t = 1 := fun s hs => by rw [h.l] at hs; exact hp1 s (List.mem_filter.1 hs).1
  have m1 : ∀ {l : List Sl}, (∀ s ∈ l, s.t = 1) → ∀ s ∈ l.map (tickS now), s.t = 1 := fun hl s hs => by
    obtain ⟨s', hs', rfl⟩ := List.mem_map.1 hs
    exact hl s' hs'
  -- both as one turn of each slot
  have hk1 : KeyOk (fun s => if p.due ≤ now then allS now (tickS now s) else tickS now s) := fun s => by dsimp only; split <;> exact ⟨rfl, rfl⟩
  have t1 : ∀ {r : Py}, (∀ s ∈ r.l, s.t = 1) → r.due = p.due → (tick1 jit r now).l = r.l.map (fun s => if p.due ≤ now then allS now (tickS now s) else tickS now s) ∧ (tick1 jit r now).due = (if p.due ≤ now then now + jit r.at_ else r.due) ∧ (tick1 jit r now).at_ = (if p.due ≤ now then r.at_ + 1 else r.at_) ∧ (tick1 jit r now).fails = r.fails := by
    intro r hr hd
    unfold tick1
    rw [hd]
    split
    · refine ⟨?_, rfl, rfl, rfl⟩
      show allsL (typesL r.l) now (r.l.map (tickS now)) = _
      rw [types_one hr, all_map (m1 hr), List.map_map]
      rfl
    · exact ⟨rfl, hd, rfl, rfl⟩
  obtain ⟨a1, a2, a3, a4⟩ := t1 hp1 rfl
  obtain ⟨b1, b2, b3, _⟩ := t1 hq1 h.due
  have hk2 : KeyOk (fun s => if now % 2 = 0 then saidS (if p.due ≤ now then allS now (tickS now s) else tickS now s) else if p.due ≤ now then allS now (tickS now s) else tickS now s) := fun s => by
    dsimp only
    split
    · exact hk1 s
    · exact hk1 s
  have t2 : ∀ {r : Py}, (tick1 jit r now).l = r.l.map (fun s => if p.due ≤ now then allS now (tickS now s) else tickS now s) → (tickP jit r now).l = tidyL (r.l.map (fun s => if now % 2 = 0 then saidS (if p.due ≤ now then allS now (tickS now s) else tickS now s) else if p.due ≤ now then allS now (tickS now s) else tickS now s)) := by
    intro r hr
    show (tick2 (tick1 jit r now) now).l = _
    unfold tick2
    by_cases h2 : now % 2 = 0
    · simp only [if_pos h2]
      show tidyL ((tick1 jit r now).l.map saidS) = _
      rw [hr, List.map_map]
      rfl
    · simp only [if_neg h2]
      show tidyL (tick1 jit r now).l = _
      rw [hr]
  have t3 : ∀ (r : Py), (tickP jit r now).due = (tick1 jit r now).due ∧ (tickP jit r now).at_ = (tick1 jit r now).at_ ∧ (tickP jit r now).fails = (tick1 jit r now).fails := fun r => by
    show (tick2 (tick1 jit r now) now).due = _ ∧ (tick2 (tick1 jit r now) now).at_ = _ ∧ (tick2 (tick1 jit r now) now).fails = _
    unfold tick2
    split <;> exact ⟨rfl, rfl, rfl⟩
  refine h.map hk2 (t2 a1) (t2 b1) ?_ ?_ ?_
  · rw [(t3 q).1, (t3 p).1, a2, b2, h.at_, h.due]
  · rw [(t3 q).2.1, (t3 p).2.1, a3, b3, h.at_]
  · rw [(t3 p).2.2, a4]
/-- Room for one of the fifteen: there always is. -/
theorem Apart.room {v T : Int} {p q : Py} (h : Apart v p q) (hp : PyOk T p) {x : Int} : roomP p 1 x = some (if hasK p.l 1 x = true then p else withL p (insK (newS 1 x) p.l)) := by
  unfold roomP
  split
  · rfl
  · rw [if_neg (by have := h.short hp; omega)]
theorem room_q {v : Int} {q : Py} (hl : q.l.length ≤ 15) {x : Int} : roomP q 1 x = some (if hasK q.l 1 x = true then q else withL q (insK (newS 1 x) q.l)) := by
  have _ := v
  unfold roomP
  split
  · rfl
  · rw [if_neg (by omega)]
/-- Behind a turn of one slot, which is made if it isn't there, and a tidying. -/
theorem Apart.turn {v T : Int} {p q : Py} (h : Apart v p q) (hp : PyOk T p) {x : Int} (hx : 1 ≤ x ∧ x ≤ 15) {f : Sl → Sl} (hk : KeyOk f) {p1 : Py} (e1 : roomP p 1 x = some p1) :
    (x ≠ v → Apart v (tidyP (withL p1 (updK p1.l 1 x f))) q) ∧ (x = v → ∃ q1, roomP q 1 x = some q1 ∧ Apart v (tidyP (withL p1 (updK p1.l 1 x f))) (tidyP (withL q1 (updK q1.l 1 x f)))) := by
  rw [h.room hp] at e1
  injection e1 with e1
  have hlq : q.l.length ≤ 15 := by
    rw [h.l]
    exact Nat.le_trans (List.length_filter_le _ _) (h.short hp)
  have d1 : p1.due = p.due ∧ p1.at_ = p.at_ ∧ p1.fails = p.fails := by
    rw [← e1]
    split <;> exact ⟨rfl, rfl, rfl⟩
  have i1 : ∀ s ∈ p1.l, s.t = 1 ∧ 1 ≤ s.v ∧ s.v ≤ 15 := by
    rw [← e1]
    split
    · exact h.ids
    · intro s hs
      rcases mem_ins.1 hs with rfl | hs
      · exact ⟨rfl, hx⟩
      · exact h.ids s hs
  have l1 : x ≠ v → fil v p1.l = fil v p.l := by
    intro hne
    rw [← e1]
    split
    · rfl
    · exact fil_ins (by unfold keyB newS; simpa using hne) p.l
  constructor
  · intro hne
    refine ⟨?_, h.due.trans d1.1.symm, h.at_.trans d1.2.1.symm, d1.2.2.trans h.fails, ids_tidy (ids_map (key_upd hk 1 x) i1), tidy_all⟩
    show q.l = fil v (tidyL (updK p1.l 1 x f))
    rw [fil_tidy, fil_upd hk hne, l1 hne, ← h.l]
    refine (tidy_same fun s hs => ?_).symm
    rw [h.l] at hs
    exact h.tidy s (List.mem_filter.1 hs).1
  · rintro rfl
    refine ⟨_, room_q (v := x) hlq, ?_, ?_, ?_, d1.2.2.trans h.fails, ids_tidy (ids_map (key_upd hk 1 x) i1), tidy_all⟩
    · have hh : hasK q.l 1 x = hasK p.l 1 x := by rw [h.l]; exact fil_has x p.l
      show tidyL (updK (if hasK q.l 1 x = true then q else withL q (insK (newS 1 x) q.l)).l 1 x f) = fil x (tidyL (updK p1.l 1 x f))
      rw [fil_tidy, fil_upd_own hk, ← e1, hh]
      by_cases hc : hasK p.l 1 x = true
      · rw [if_pos hc, if_pos hc, h.l]
      · rw [if_neg hc, if_neg hc]
        have hn := fil_nil (v := x) (l := p.l) (by simpa using hc)
        show tidyL (updK (insK (newS 1 x) q.l) 1 x f) = tidyL (updK (fil x (insK (newS 1 x) p.l)) 1 x f)
        rw [fil_ins_own (show keyB 1 x (newS 1 x) = true by unfold keyB newS; simp) hn, h.l, hn]
        rfl
    · show (if hasK q.l 1 x = true then q else withL q (insK (newS 1 x) q.l)).due = p1.due
      rw [d1.1, ← h.due]
      split <;> rfl
    · show (if hasK q.l 1 x = true then q else withL q (insK (newS 1 x) q.l)).at_ = p1.at_
      rw [d1.2.1, ← h.at_]
      split <;> rfl
theorem Apart.want {v T : Int} {p q : Py} (h : Apart v p q) (hp : PyOk T p) {x : Int} (hx : 1 ≤ x ∧ x ≤ 15) (b : Int) (n : Bool) :
    (x ≠ v → Apart v (wantP p 1 x b n) q) ∧ (x = v → Apart v (wantP p 1 x b n) (wantP q 1 x b n)) := by
  have hr := h.turn hp hx (key_want b n) (h.room hp)
  have hh : x = v → hasK q.l 1 x = hasK p.l 1 x := fun e => by subst e; rw [h.l]; exact fil_has x p.l
  constructor
  · intro hne
    unfold wantP
    split
    · exact h
    · rw [h.room hp]
      exact hr.1 hne
  · intro e
    obtain ⟨q1, h1, h2⟩ := hr.2 e
    unfold wantP
    rw [hh e]
    by_cases hc : hasK p.l 1 x = false ∧ b < 0
    · rw [if_pos hc, if_pos hc]
      exact h
    · rw [if_neg hc, if_neg hc, h.room hp, h1]
      exact h2
theorem Apart.hear {v T : Int} {p q : Py} (h : Apart v p q) (hp : PyOk T p) {x : Int} (hx : 1 ≤ x ∧ x ≤ 15) (e b now : Int) :
    (x ≠ v → Apart v (hearP p ⟨[], [⟨1, x, e, b⟩]⟩ now) q) ∧ (x = v → Apart v (hearP p ⟨[], [⟨1, x, e, b⟩]⟩ now) (hearP q ⟨[], [⟨1, x, e, b⟩]⟩ now)) := by
  have hr := h.turn hp hx (key_hear e b now) (h.room hp)
  have hh : x = v → hasK q.l 1 x = hasK p.l 1 x := fun e => by subst e; rw [h.l]; exact fil_has x p.l
  have hid : Apart v (tidyP p) (tidyP q) := h.map (f := id) (fun _ => ⟨rfl, rfl⟩) (by rw [List.map_id]; rfl) (by rw [List.map_id]; rfl) h.due h.at_ rfl
  have hqt : tidyL q.l = q.l := tidy_same fun s hs => by rw [h.l] at hs; exact h.tidy s (List.mem_filter.1 hs).1
  have hid2 : Apart v (tidyP p) q := ⟨hqt.symm.trans hid.l, hid.due, hid.at_, hid.fails, hid.ids, hid.tidy⟩
  have e0 : ∀ r : Py, hearP r ⟨[], [⟨1, x, e, b⟩]⟩ now = tidyP (wordP1 now r ⟨1, x, e, b⟩) := fun _ => rfl
  rw [e0, e0]
  unfold wordP1
  constructor
  · intro hne
    by_cases hc : hasK p.l 1 x = true
    · have := hr.1 hne
      rw [if_pos hc] at this ⊢
      exact this
    · have h1 := hr.1 hne
      rw [if_neg hc] at h1 ⊢
      split
      · rw [h.room hp, if_neg hc]
        exact h1
      · exact hid2
  · intro ev
    obtain ⟨q1, h1, h2⟩ := hr.2 ev
    have hq := hh ev
    show Apart v (tidyP (if hasK p.l 1 x = true then _ else _)) (tidyP (if hasK q.l 1 x = true then _ else _))
    rw [hq]
    by_cases hc : hasK p.l 1 x = true
    · rw [if_pos hc, if_pos hc]
      rw [if_pos hc] at h2
      have e1 : q1 = q := by
        unfold roomP at h1
        rw [hq, if_pos hc] at h1
        injection h1 with h1
        exact h1.symm
      rw [e1] at h2
      exact h2
    · rw [if_neg hc, if_neg hc]
      rw [if_neg hc] at h2
      show Apart v (tidyP (if comes e then _ else _)) (tidyP (if comes e then _ else _))
      split
      · show Apart v (tidyP (match roomP p 1 x with | some q => _ | none => _)) (tidyP (match roomP q 1 x with | some q => _ | none => _))
        rw [h.room hp, h1, if_neg hc]
        exact h2
      · exact hid
theorem Apart.known {v now : Int} {p q : Py} (h : Apart v p q) : hasP q 1 v = hasP p 1 v ∧ bornP q 1 v now = bornP p 1 v now ∧ saysP q 1 v = saysP p 1 v := by
  unfold hasP bornP saysP
  rw [h.l, fil_find]
  exact ⟨rfl, rfl, rfl⟩
theorem apart_new (jit : Nat → Int) (v : Int) : Apart v (newP jit) (newP jit) := ⟨rfl, rfl, rfl, rfl, fun _ hs => absurd hs List.not_mem_nil, fun _ hs => absurd hs List.not_mem_nil⟩
end Go.Proofs.Ythghedlgeceepaa
