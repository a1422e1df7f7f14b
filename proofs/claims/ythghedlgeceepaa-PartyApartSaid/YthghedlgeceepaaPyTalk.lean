/- Two ports' parts that hear at once all that the other one says, of one attribute (layer 16), as plain data: what one is to say the other one has, as long as it is said, and not much longer. No program's call, no condition. -/
import Derived.Test.YthghedlgeceepaaPyP
namespace Go.Proofs.Ythghedlgeceepaa
set_option maxRecDepth 100000

/-- One slot of the attribute that is talked of. -/
def one9 (r : Rg) (a : Ap) : List Sl := [⟨1, 9, r, a⟩]
/-- A message of it: all may be asked for, a word may be said. -/
structure Mq (m : Msg) (ws : List Wd) : Prop where
  all : m.all = [] ∨ m.all = [1]
  ws : m.ws = ws
def w9 (e b : Int) : Wd := ⟨1, 9, e, b⟩
/-- What is heard: all, then a word. -/
def qAll (m : Msg) (now : Int) (r : Rg) : Rg := if m.all = [] then r else stepR r 2 now
def qAllA (m : Msg) (a : Ap) : Ap := if m.all = [] then a else stepA a 2
theorem tidy_one (r : Rg) (a : Ap) : tidyL (one9 r a) = if idleR r = true ∧ a.state = 0 then [] else one9 r a := by
  unfold tidyL one9 idleS
  rw [List.filter_cons, List.filter_nil]
  cases idleR r <;> by_cases h : a.state = 0 <;> simp [h]
theorem tidy_keep {r : Rg} {a : Ap} (h : ¬ (idleR r = true ∧ a.state = 0)) : tidyL (one9 r a) = one9 r a := by rw [tidy_one, if_neg h]
theorem tidy_gone {r : Rg} {a : Ap} (h : idleR r = true) (h' : a.state = 0) : tidyL (one9 r a) = [] := by rw [tidy_one, if_pos ⟨h, h'⟩]
theorem all_one (k : List Int) (hk : k = [] ∨ k = [1]) (now : Int) (r : Rg) (a : Ap) : allsL k now (one9 r a) = one9 (if k = [] then r else stepR r 2 now) (if k = [] then a else stepA a 2) := by
  rcases hk with rfl | rfl <;> rfl
theorem all_none (k : List Int) (now : Int) : allsL k now [] = [] := by
  unfold allsL
  induction k with
  | nil => rfl
  | cons x k ih => exact ih
theorem hear_one {p : Py} {r : Rg} {a : Ap} (hp : p.l = one9 r a) {m : Msg} (hm : Mq m []) (now : Int) : (hearP p m now).l = tidyL (one9 (qAll m now r) (qAllA m a)) := by
  show tidyL (m.ws.foldl (wordP1 now) (withL p (allsL m.all now p.l))).l = _
  rw [hm.ws, hp, all_one _ hm.all]
  rfl
theorem hear_word {p : Py} {r : Rg} {a : Ap} (hp : p.l = one9 r a) {e b : Int} {m : Msg} (hm : Mq m [w9 e b]) (now : Int) : (hearP p m now).l = tidyL (one9 (hearR (qAll m now r) e b now) (qAllA m a)) := by
  show tidyL (m.ws.foldl (wordP1 now) (withL p (allsL m.all now p.l))).l = _
  rw [hm.ws, hp, all_one _ hm.all]
  rfl
theorem hear_new {p : Py} (hp : p.l = []) {e b : Int} (he : comes e) {m : Msg} (hm : Mq m [w9 e b]) (now : Int) : (hearP p m now).l = tidyL (one9 (hearR ⟨0, 0, 0, 0⟩ e b now) ⟨0, 0⟩) := by
  show tidyL (m.ws.foldl (wordP1 now) (withL p (allsL m.all now p.l))).l = _
  rw [hm.ws, hp, all_none]
  show tidyL (wordP1 now (withL p []) (w9 e b)).l = _
  unfold wordP1
  rw [if_neg (show ¬ hasK (withL p []).l (w9 e b).t (w9 e b).v = true from fun h => by cases h), if_pos (show comes (w9 e b).e from he)]
  rfl
theorem hear_lost {p : Py} (hp : p.l = []) {e b : Int} (he : ¬ comes e) {m : Msg} (hm : Mq m [w9 e b]) (now : Int) : (hearP p m now).l = [] := by
  show tidyL (m.ws.foldl (wordP1 now) (withL p (allsL m.all now p.l))).l = _
  rw [hm.ws, hp, all_none]
  show tidyL (wordP1 now (withL p []) (w9 e b)).l = _
  unfold wordP1
  rw [if_neg (show ¬ hasK (withL p []).l (w9 e b).t (w9 e b).v = true from fun h => by cases h), if_neg (show ¬ comes (w9 e b).e from he)]
  rfl
theorem hear_none {p : Py} (hp : p.l = []) {m : Msg} (hm : m.ws = []) (now : Int) : (hearP p m now).l = [] := by
  show tidyL (m.ws.foldl (wordP1 now) (withL p (allsL m.all now p.l))).l = _
  rw [hm, hp, all_none]
  rfl
/-- What a tick makes of a slot, ahead of what is said. -/
theorem tick1_one {p : Py} {r : Rg} {a : Ap} (hp : p.l = one9 r a) (jit : Nat → Int) (now : Int) : ∃ q : Bool, (tick1 jit p now).l = one9 (if q = true then stepR (tickR r now) 2 now else tickR r now) (if q = true then stepA (if now % 6 = 0 then stepA a 3 else a) 2 else if now % 6 = 0 then stepA a 3 else a) := by
  unfold tick1
  split
  · refine ⟨true, ?_⟩
    show allsL (typesL p.l) now (p.l.map (tickS now)) = _
    rw [hp]
    rfl
  · refine ⟨false, ?_⟩
    show p.l.map (tickS now) = _
    rw [hp]
    rfl
theorem tick_none {p : Py} (hp : p.l = []) (jit : Nat → Int) (now : Int) : (tickP jit p now).l = [] ∧ Mq (saidP jit p now) [] := by
  have h1 : (tick1 jit p now).l = [] := by
    unfold tick1
    split
    · show allsL (typesL p.l) now (p.l.map (tickS now)) = []
      rw [hp]
      exact all_none _ _
    · show p.l.map (tickS now) = []
      rw [hp]
      rfl
  constructor
  · unfold tickP tick2
    show tidyL (if _ then _ else _ : Py).l = []
    split
    · show tidyL ((tick1 jit p now).l.map saidS) = []
      rw [h1]
      rfl
    · rw [h1]
      rfl
  · unfold saidP tellP
    split
    · refine ⟨?_, ?_⟩
      · rw [h1]
        show (if _ then _ else _) = _ ∨ (if _ then _ else _) = _
        split
        · exact .inr rfl
        · exact .inl rfl
      · show saysL (tick1 jit p now).l = []
        rw [h1]
        rfl
    · exact ⟨.inl rfl, rfl⟩
theorem tick2_odd {p : Py} {now : Int} (h : ¬ now % 2 = 0) : (tick2 p now).l = tidyL p.l ∧ tellP p now = ⟨[], []⟩ := by
  unfold tick2 tellP
  rw [if_neg h, if_neg h]
  exact ⟨rfl, rfl⟩
theorem tick2_even {p : Py} {r : Rg} {a : Ap} (hp : p.l = one9 r a) {now : Int} (h : now % 2 = 0) : (tick2 p now).l = tidyL (one9 r (stepA a 4)) ∧ Mq (tellP p now) (if actA a 4 = 0 then [] else [w9 (sayE (actA a 4)) a.born]) := by
  unfold tick2 tellP
  rw [if_pos h, if_pos h]
  refine ⟨?_, ?_, ?_⟩
  · show tidyL (p.l.map saidS) = _
    rw [hp]
    rfl
  · rw [hp]
    show (if _ then _ else _) = _ ∨ (if _ then _ else _) = _
    split
    · exact .inr rfl
    · exact .inl rfl
  · show saysL p.l = _
    rw [hp]
    show List.filterMap sayS [_] = _
    rw [List.filterMap_cons]
    unfold sayS
    by_cases h0 : actA a 4 = 0
    · rw [if_pos h0, if_pos h0]
      rfl
    · rw [if_neg h0, if_neg h0]
      rfl
/- THE SIDE THAT SAYS IT. -/
/-- Its registrar holds nothing, its applicant is in a state, with its word's tick. -/
structure PA (p : Py) (st b : Int) : Prop where
  l : ∃ r : Rg, p.l = one9 r ⟨st, b⟩ ∧ r.mode = 0 ∧ r.state = 0
theorem idle_step {r : Rg} (h : r.mode = 0 ∧ r.state = 0) (e now : Int) (he : e = 1 ∨ e = 2 ∨ e = 3 ∨ e = 4) : (stepR r e now).mode = 0 ∧ (stepR r e now).state = 0 := by
  refine ⟨h.1, ?_⟩
  show (cellR r.state e).1 = 0
  rw [h.2]
  rcases he with rfl | rfl | rfl | rfl <;> rfl
theorem idle_tick {r : Rg} (h : r.mode = 0 ∧ r.state = 0) (now : Int) : tickR r now = r := by
  unfold tickR leaveR
  rw [if_neg (fun c => by rw [h.2] at c; exact absurd c.1 (by decide))]
  unfold ageR
  rw [if_neg (fun c => c.1 h.2)]
/-- The state that a tick makes of an applicant's, ahead of what it says. -/
def stA (st now : Int) (q : Bool) : Int := (if q = true then stepA (if now % 6 = 0 then stepA ⟨st, 0⟩ 3 else ⟨st, 0⟩) 2 else if now % 6 = 0 then stepA ⟨st, 0⟩ 3 else ⟨st, 0⟩).state
theorem stA_is (st b now : Int) (q : Bool) : (if q = true then stepA (if now % 6 = 0 then stepA ⟨st, b⟩ 3 else ⟨st, b⟩) 2 else if now % 6 = 0 then stepA ⟨st, b⟩ 3 else ⟨st, b⟩) = ⟨stA st now q, b⟩ := by
  unfold stA
  by_cases h : now % 6 = 0 <;> cases q <;> simp only [h, if_true, if_false] <;> rfl
theorem stA_cases {st now : Int} (hs : st = 1 ∨ st = 2 ∨ st = 3 ∨ st = 4) (q : Bool) : (st = 1 ∧ stA st now q = 1) ∨ (st = 2 ∧ stA st now q = 2) ∨ (st = 3 ∧ (stA st now q = 2 ∨ (stA st now q = 3 ∧ ¬ now % 6 = 0))) ∨ (st = 4 ∧ stA st now q = 4) := by
  unfold stA
  by_cases h : now % 6 = 0 <;> rcases hs with rfl | rfl | rfl | rfl <;> cases q <;> simp only [h, if_true, if_false, not_true, not_false_eq_true, and_true, and_false] <;> decide
theorem PA.tick {p : Py} {st b : Int} (h : PA p st b) (hs : st = 1 ∨ st = 2 ∨ st = 3 ∨ st = 4) (jit : Nat → Int) (now : Int) :
    ∃ q : Bool, (¬ now % 2 = 0 → PA (tickP jit p now) (stA st now q) b ∧ saidP jit p now = ⟨[], []⟩) ∧
      (now % 2 = 0 → (stA st now q = 1 → PA (tickP jit p now) 2 b ∧ Mq (saidP jit p now) [w9 0 b]) ∧ (stA st now q = 2 → PA (tickP jit p now) 3 b ∧ Mq (saidP jit p now) [w9 1 b]) ∧
        (stA st now q = 3 → PA (tickP jit p now) 3 b ∧ Mq (saidP jit p now) []) ∧ (stA st now q = 4 → (tickP jit p now).l = [] ∧ Mq (saidP jit p now) [w9 5 b])) := by
  obtain ⟨r, hp, hr⟩ := h.l
  obtain ⟨q, h1⟩ := tick1_one hp jit now
  rw [idle_tick hr, stA_is] at h1
  obtain ⟨r1, hr1⟩ : ∃ r1, (if q = true then stepR r 2 now else r) = r1 := ⟨_, rfl⟩
  have hi : r1.mode = 0 ∧ r1.state = 0 := by
    rw [← hr1]
    split
    · exact idle_step hr 2 now (.inr (.inl rfl))
    · exact hr
  rw [hr1] at h1
  have hst := stA_cases (now := now) hs q
  obtain ⟨s1, hs1⟩ : ∃ s1, stA st now q = s1 := ⟨_, rfl⟩
  refine ⟨q, ?_, ?_⟩
  · intro ho
    obtain ⟨e1, e2⟩ := tick2_odd (p := tick1 jit p now) ho
    refine ⟨⟨r1, ?_, hi⟩, e2⟩
    show (tick2 (tick1 jit p now) now).l = _
    rw [e1, h1]
    rw [hs1] at hst ⊢
    refine tidy_keep (fun c => ?_)
    have : s1 = 0 := c.2
    omega
  · intro hv
    obtain ⟨e1, e2⟩ := tick2_even h1 hv
    rw [hs1] at e1 e2 hst ⊢
    refine ⟨?_, ?_, ?_, ?_⟩
    · rintro rfl
      refine ⟨⟨r1, ?_, hi⟩, e2⟩
      show (tick2 (tick1 jit p now) now).l = _
      rw [e1]
      exact tidy_keep (fun c => absurd c.2 (show ¬ (2 : Int) = 0 by decide))
    · rintro rfl
      refine ⟨⟨r1, ?_, hi⟩, e2⟩
      show (tick2 (tick1 jit p now) now).l = _
      rw [e1]
      exact tidy_keep (fun c => absurd c.2 (show ¬ (3 : Int) = 0 by decide))
    · rintro rfl
      refine ⟨⟨r1, ?_, hi⟩, e2⟩
      show (tick2 (tick1 jit p now) now).l = _
      rw [e1]
      exact tidy_keep (fun c => absurd c.2 (show ¬ (3 : Int) = 0 by decide))
    · rintro rfl
      refine ⟨?_, e2⟩
      show (tick2 (tick1 jit p now) now).l = _
      rw [e1]
      refine tidy_gone ?_ rfl
      unfold idleR
      rw [hi.1, hi.2]
      rfl
theorem PA.hear {p : Py} {st b : Int} (h : PA p st b) (hs : st = 1 ∨ st = 2 ∨ st = 3 ∨ st = 4) {m : Msg} (hm : Mq m []) (now : Int) :
    PA (hearP p m now) (if m.all = [] ∨ st ≠ 3 then st else 2) b := by
  obtain ⟨r, hp, hr⟩ := h.l
  have e := hear_one hp hm now
  unfold qAll qAllA at e
  by_cases ha : m.all = []
  · rw [if_pos ha, if_pos ha, tidy_keep (fun c => by have : st = 0 := c.2; omega)] at e
    rw [if_pos (.inl ha)]
    exact ⟨r, e, hr⟩
  · rw [if_neg ha, if_neg ha] at e
    rcases hs with rfl | rfl | rfl | rfl
    · rw [if_pos (.inr (by decide)), ]
      exact ⟨_, e.trans (tidy_keep (fun c => absurd c.2 (show ¬ (1 : Int) = 0 by decide))), idle_step hr 2 now (.inr (.inl rfl))⟩
    · rw [if_pos (.inr (by decide)), ]
      exact ⟨_, e.trans (tidy_keep (fun c => absurd c.2 (show ¬ (2 : Int) = 0 by decide))), idle_step hr 2 now (.inr (.inl rfl))⟩
    · rw [if_neg (fun c => c.elim ha (fun c => c rfl))]
      exact ⟨_, e.trans (tidy_keep (fun c => absurd c.2 (show ¬ (2 : Int) = 0 by decide))), idle_step hr 2 now (.inr (.inl rfl))⟩
    · rw [if_pos (.inr (by decide)), ]
      exact ⟨_, e.trans (tidy_keep (fun c => absurd c.2 (show ¬ (4 : Int) = 0 by decide))), idle_step hr 2 now (.inr (.inl rfl))⟩
/- THE SIDE THAT HEARS IT. -/
/-- It is registered, and nothing is to be said. -/
structure PB (p : Py) (r : Rg) : Prop where
  l : ∃ b : Int, p.l = one9 r ⟨0, b⟩
  mode : r.mode = 0
  state : r.state = 1 ∨ r.state = 2
theorem PB.has {p : Py} {r : Rg} (h : PB p r) : hasP p 1 9 = true := by
  obtain ⟨b, e⟩ := h.l
  unfold hasP findK
  rw [e]
  show hasR r = true
  unfold hasR
  rw [h.mode]
  rcases h.state with e | e <;> rw [e] <;> rfl
theorem has_none {p : Py} (h : p.l = []) : hasP p 1 9 = false := by
  unfold hasP findK
  rw [h]
  rfl
theorem busy {r : Rg} (h : r.state = 1 ∨ r.state = 2) (a : Ap) : ¬ (idleR r = true ∧ a.state = 0) := fun c => by
  have := c.1
  unfold idleR at this
  rw [Bool.and_eq_true, decide_eq_true_eq, decide_eq_true_eq] at this
  omega
theorem all_state {r : Rg} (h : r.state = 1 ∨ r.state = 2) (now : Int) : (stepR r 2 now).state = 1 := by
  show (cellR r.state 2).1 = 1
  rcases h with e | e <;> rw [e] <;> rfl
/-- Heard of late: so many ticks ago at most, and so long it leaves at most. -/
structure Late (now k : Int) (r : Rg) : Prop where
  born : 0 ≤ r.born ∧ r.born ≤ now ∧ now - r.born ≤ k
  left : r.state = 1 → r.left ≤ now ∧ now - r.left ≤ k
theorem Late.more {now k k' : Int} {r : Rg} (h : Late now k r) (hk : k ≤ k') : Late now k' r := ⟨⟨h.born.1, h.born.2.1, by have := h.born.2.2; omega⟩, fun e => ⟨(h.left e).1, by have := (h.left e).2; omega⟩⟩
theorem Late.next {now k : Int} {r : Rg} (h : Late now k r) : Late (now + 1) (k + 1) r := ⟨⟨h.born.1, by have := h.born.2; omega, by have := h.born.2; omega⟩, fun e => by have := h.left e; omega⟩
theorem Late.all {now k : Int} {r : Rg} (h : Late now k r) (hk : 0 ≤ k) (hs : r.state = 1 ∨ r.state = 2) : Late now k (stepR r 2 now) := by
  refine ⟨h.born, fun _ => ?_⟩
  show (if (cellR r.state 2).2 = 1 then now else r.left) ≤ now ∧ now - (if (cellR r.state 2).2 = 1 then now else r.left) ≤ k
  rcases hs with e | e
  · rw [e, if_neg (by decide)]
    exact h.left e
  · rw [e, if_pos (by decide)]
    omega
theorem late_tick {now k : Int} {r : Rg} (h : Late now k r) (hk : k < 24) : tickR r now = r := by
  unfold tickR leaveR
  rw [if_neg (fun c => by have := h.left c.1; omega)]
  unfold ageR
  rw [if_neg (fun c => by have := h.born; omega)]
theorem join_late {now : Int} {r : Rg} (hn : 0 ≤ now) (hs : r.state = 0 ∨ r.state = 1 ∨ r.state = 2) (hb : r.born ≤ now) {e : Int} (he : e = 0 ∨ e = 1) :
    (hearR r e now now).mode = r.mode ∧ (hearR r e now now).state = 2 ∧ Late now 0 (hearR r e now now) := by
  have e1 : hearR r e now now = stepR ⟨r.mode, r.state, now, r.left⟩ 0 now := by
    unfold hearR
    rw [if_pos (by omega)]
    unfold joinR
    rw [Int.min_self, if_neg (by omega)]
    by_cases h0 : r.state = 0
    · rw [if_pos h0]
    · rw [if_neg h0, Int.max_eq_left hb]
  have e2 : (stepR ⟨r.mode, r.state, now, r.left⟩ 0 now).state = 2 := by
    show (cellR r.state 0).1 = 2
    rcases hs with e | e | e <;> rw [e] <;> rfl
  rw [e1]
  refine ⟨rfl, e2, ⟨⟨hn, Int.le_refl _, by show now - now ≤ 0; omega⟩, fun c => ?_⟩⟩
  rw [e2] at c
  exact absurd c (by decide)
/-- The registered side hears. -/
theorem PB.hear_word {p : Py} {r : Rg} (h : PB p r) {now : Int} (hn : 0 ≤ now) (hb : r.born ≤ now) {e : Int} (he : e = 0 ∨ e = 1) {m : Msg} (hm : Mq m [w9 e now]) : ∃ r', PB (hearP p m now) r' ∧ Late now 0 r' := by
  obtain ⟨b, hp⟩ := h.l
  have e0 := Go.Proofs.Ythghedlgeceepaa.hear_word hp hm now
  obtain ⟨r1, hr1⟩ : ∃ r1, qAll m now r = r1 := ⟨_, rfl⟩
  have h1 : r1.mode = 0 ∧ (r1.state = 0 ∨ r1.state = 1 ∨ r1.state = 2) ∧ r1.born ≤ now := by
    rw [← hr1]
    unfold qAll
    split
    · exact ⟨h.mode, .inr h.state, hb⟩
    · exact ⟨h.mode, .inr (.inl (all_state h.state now)), hb⟩
  rw [hr1] at e0
  obtain ⟨j1, j2, j3⟩ := join_late hn h1.2.1 h1.2.2 he
  have hq : (qAllA m ⟨0, b⟩) = ⟨0, b⟩ := by
    unfold qAllA
    split <;> rfl
  rw [hq, tidy_keep (busy (.inr j2) _)] at e0
  exact ⟨_, ⟨⟨b, e0⟩, j1.trans h1.1, .inr j2⟩, j3⟩
theorem pb_new {p : Py} (hp : p.l = []) {now : Int} (hn : 0 ≤ now) {e : Int} (he : e = 0 ∨ e = 1) {m : Msg} (hm : Mq m [w9 e now]) : ∃ r', PB (hearP p m now) r' ∧ Late now 0 r' := by
  have e0 := hear_new hp (show comes e by unfold comes; omega) hm now
  obtain ⟨j1, j2, j3⟩ := join_late (r := ⟨0, 0, 0, 0⟩) hn (.inl rfl) hn he
  rw [tidy_keep (busy (.inr j2) _)] at e0
  exact ⟨_, ⟨⟨0, e0⟩, j1, .inr j2⟩, j3⟩
theorem PB.hear {p : Py} {r : Rg} (h : PB p r) {now k : Int} (hk : 0 ≤ k) (hl : Late now k r) {m : Msg} (hm : Mq m []) : ∃ r', PB (hearP p m now) r' ∧ Late now k r' := by
  obtain ⟨b, hp⟩ := h.l
  have e0 := hear_one hp hm now
  have hq : (qAllA m ⟨0, b⟩) = ⟨0, b⟩ := by
    unfold qAllA
    split <;> rfl
  rw [hq] at e0
  unfold qAll at e0
  by_cases ha : m.all = []
  · rw [if_pos ha, tidy_keep (busy h.state _)] at e0
    exact ⟨r, ⟨⟨b, e0⟩, h.mode, h.state⟩, hl⟩
  · rw [if_neg ha, tidy_keep (busy (.inl (all_state h.state now)) _)] at e0
    exact ⟨_, ⟨⟨b, e0⟩, h.mode, .inl (all_state h.state now)⟩, hl.all hk h.state⟩
/-- Nothing is to be said: what it makes of a tick. -/
theorem zero_step (b : Int) (now : Int) (q : Bool) : (if q = true then stepA (if now % 6 = 0 then stepA ⟨0, b⟩ 3 else ⟨0, b⟩) 2 else if now % 6 = 0 then stepA ⟨0, b⟩ 3 else ⟨0, b⟩) = ⟨0, b⟩ := by
  by_cases h : now % 6 = 0 <;> cases q <;> simp only [h, if_true, if_false] <;> rfl
theorem tick_zero {p : Py} {r : Rg} {b : Int} (hp : p.l = one9 r ⟨0, b⟩) (jit : Nat → Int) (now : Int) : ∃ q : Bool, (tickP jit p now).l = tidyL (one9 (if q = true then stepR (tickR r now) 2 now else tickR r now) ⟨0, b⟩) ∧ Mq (saidP jit p now) [] := by
  obtain ⟨q, h1⟩ := tick1_one hp jit now
  rw [zero_step] at h1
  refine ⟨q, ?_⟩
  by_cases hv : now % 2 = 0
  · obtain ⟨e1, e2⟩ := tick2_even h1 hv
    exact ⟨e1, e2⟩
  · obtain ⟨e1, e2⟩ := tick2_odd (p := tick1 jit p now) hv
    refine ⟨?_, ?_⟩
    · show (tick2 (tick1 jit p now) now).l = _
      rw [e1, h1]
    · unfold saidP
      rw [e2]
      exact ⟨.inl rfl, rfl⟩
theorem PB.tick {p : Py} {r : Rg} (h : PB p r) {now k : Int} (hk : 0 ≤ k ∧ k < 24) (hl : Late now k r) (jit : Nat → Int) : (∃ r', PB (tickP jit p now) r' ∧ Late now k r') ∧ Mq (saidP jit p now) [] := by
  obtain ⟨b, hp⟩ := h.l
  obtain ⟨q, e1, e2⟩ := tick_zero hp jit now
  refine ⟨?_, e2⟩
  rw [late_tick hl hk.2] at e1
  cases q with
  | true =>
    rw [if_pos rfl, tidy_keep (busy (.inl (all_state h.state now)) _)] at e1
    exact ⟨_, ⟨⟨b, e1⟩, h.mode, .inl (all_state h.state now)⟩, hl.all hk.1 h.state⟩
  | false =>
    rw [if_neg (by decide), tidy_keep (busy h.state _)] at e1
    exact ⟨_, ⟨⟨b, e1⟩, h.mode, h.state⟩, hl⟩
/- A TICK OF BOTH. -/
/-- Whether a message says anything. -/
def isM (m : Msg) : Bool := decide (m.all ≠ [] ∨ m.ws ≠ [])
def hears (p : Py) (m : Msg) (now : Int) : Py := if isM m = true then hearP p m now else p
def talkB (jA jB : Nat → Int) (pa pb : Py) (now : Int) : Py := tickP jB (hears pb (saidP jA pa now) now) now
def talkA (jA jB : Nat → Int) (pa pb : Py) (now : Int) : Py := hears (tickP jA pa now) (saidP jB (hears pb (saidP jA pa now) now) now) now
theorem hears_none {p : Py} (hp : p.l = []) {m : Msg} (hm : m.ws = []) (now : Int) : (hears p m now).l = [] := by
  unfold hears
  split
  · exact hear_none hp hm now
  · exact hp
theorem hears_word {p : Py} {m : Msg} {x : Wd} (hm : Mq m [x]) (now : Int) : hears p m now = hearP p m now := by
  unfold hears
  rw [if_pos (by unfold isM; rw [hm.ws]; simp)]
theorem talk_none {pa pb : Py} (ha : pa.l = []) (hb : pb.l = []) (jA jB : Nat → Int) (now : Int) : (talkA jA jB pa pb now).l = [] ∧ (talkB jA jB pa pb now).l = [] := by
  obtain ⟨a1, a2⟩ := tick_none ha jA now
  have b1 := hears_none hb a2.ws now
  obtain ⟨b2, b3⟩ := tick_none b1 jB now
  exact ⟨hears_none a1 b3.ws now, b2⟩
theorem PA.hears {p : Py} {st b : Int} (h : PA p st b) (hs : st = 1 ∨ st = 2 ∨ st = 3) {m : Msg} (hm : Mq m []) (now : Int) : ∃ st', (st' = 1 ∨ st' = 2 ∨ st' = 3) ∧ (st = 1 → st' = 1) ∧ PA (hears p m now) st' b := by
  unfold Go.Proofs.Ythghedlgeceepaa.hears
  split
  · have h1 := h.hear (by omega) hm now
    by_cases hc : m.all = [] ∨ st ≠ 3
    · rw [if_pos hc] at h1
      exact ⟨st, hs, fun e => e, h1⟩
    · rw [if_neg hc] at h1
      exact ⟨2, .inr (.inl rfl), fun e => absurd (.inr (by omega)) hc, h1⟩
  · exact ⟨st, hs, fun e => e, h⟩
theorem PB.hears {p : Py} {r : Rg} (h : PB p r) {now k : Int} (hk : 0 ≤ k) (hl : Late now k r) {m : Msg} (hm : Mq m []) : ∃ r', PB (hears p m now) r' ∧ Late now k r' := by
  unfold Go.Proofs.Ythghedlgeceepaa.hears
  split
  · exact h.hear hk hl hm
  · exact ⟨r, h, hl⟩
/- WANTED. -/
theorem want_none {p : Py} (hp : p.l = []) {b : Int} (hb : 0 ≤ b) : PA (wantP p 1 9 b false) 1 b := by
  obtain ⟨l, due, ask, at_, fails⟩ := p
  subst hp
  unfold wantP
  rw [if_neg (fun c => by have := c.2; omega)]
  refine ⟨⟨⟨0, 0, 0, 0⟩, ?_, rfl, rfl⟩⟩
  show tidyL (one9 ⟨0, 0, 0, 0⟩ (wantA ⟨0, 0⟩ b false)) = _
  have e : wantA ⟨0, 0⟩ b false = ⟨1, b⟩ := by unfold wantA; rw [if_neg (by omega)]; rfl
  rw [e]
  exact tidy_keep (fun c => absurd c.2 (show ¬ (1 : Int) = 0 by decide))
theorem want_more {p : Py} {st c : Int} (h : PA p st c) (hs : st = 1 ∨ st = 2 ∨ st = 3) {b : Int} (hb : 0 ≤ b) : PA (wantP p 1 9 b false) st b := by
  obtain ⟨r, hp, hr⟩ := h.l
  obtain ⟨l, due, ask, at_, fails⟩ := p
  subst hp
  unfold wantP
  rw [if_neg (fun c => by have := c.2; omega)]
  refine ⟨⟨r, ?_, hr⟩⟩
  show tidyL (one9 r (wantA ⟨st, c⟩ b false)) = _
  have e : wantA ⟨st, c⟩ b false = ⟨st, b⟩ := by unfold wantA; rw [if_neg (by omega)]; rcases hs with rfl | rfl | rfl <;> rfl
  rw [e]
  exact tidy_keep (fun c => by have : st = 0 := c.2; omega)
theorem want_end {p : Py} {st c : Int} (h : PA p st c) (hs : st = 1 ∨ st = 2 ∨ st = 3) : PA (wantP p 1 9 (-1) false) 4 c := by
  obtain ⟨r, hp, hr⟩ := h.l
  obtain ⟨l, due, ask, at_, fails⟩ := p
  subst hp
  refine ⟨⟨r, ?_, hr⟩⟩
  show tidyL (one9 r (wantA ⟨st, c⟩ (-1) false)) = _
  have e : wantA ⟨st, c⟩ (-1) false = ⟨4, c⟩ := by rcases hs with rfl | rfl | rfl <;> rfl
  rw [e]
  exact tidy_keep (fun c => absurd c.2 (show ¬ (4 : Int) = 0 by decide))
theorem want_end_none {p : Py} (hp : p.l = []) : wantP p 1 9 (-1) false = p := by
  unfold wantP
  rw [if_pos ⟨by rw [hp]; rfl, by decide⟩]
/- WHILE IT IS WANTED. -/
/-- At the end of a tick: said, or not yet at the first odd one; heard. -/
def Told (now : Int) (st : Int) (pb : Py) : Prop := (pb.l = [] ∧ st = 1) ∨ ∃ r, PB pb r ∧ Late now (now % 6) r
theorem told_step {pa pb : Py} {now st : Int} (hn : 1 ≤ now) (ha : PA pa st now) (hs : st = 1 ∨ st = 2 ∨ st = 3) (hb : Told (now - 1) st pb) (jA jB : Nat → Int) :
    ∃ st', (st' = 1 ∨ st' = 2 ∨ st' = 3) ∧ PA (talkA jA jB pa pb now) st' now ∧ Told now st' (talkB jA jB pa pb now) ∧ (now % 2 = 0 → hasP (talkB jA jB pa pb now) 1 9 = true) ∧ ((∃ r, PB pb r) → hasP (talkB jA jB pa pb now) 1 9 = true) := by
  obtain ⟨q, ho, hv⟩ := ha.tick (by omega) jA now
  have hst := stA_cases (now := now) (show st = 1 ∨ st = 2 ∨ st = 3 ∨ st = 4 by omega) q
  obtain ⟨s1, hs1⟩ : ∃ s1, stA st now q = s1 := ⟨_, rfl⟩
  rw [hs1] at ho hv hst
  -- the end of each way: the other side ticks, and its message is heard
  have fin : ∀ (k st1 : Int) (r : Rg), (st1 = 1 ∨ st1 = 2 ∨ st1 = 3) → PA (tickP jA pa now) st1 now → PB (hears pb (saidP jA pa now) now) r → Late now k r → 0 ≤ k → k ≤ now % 6 →
      ∃ st', (st' = 1 ∨ st' = 2 ∨ st' = 3) ∧ PA (talkA jA jB pa pb now) st' now ∧ Told now st' (talkB jA jB pa pb now) ∧ (now % 2 = 0 → hasP (talkB jA jB pa pb now) 1 9 = true) ∧ ((∃ r, PB pb r) → hasP (talkB jA jB pa pb now) 1 9 = true) := by
    intro k st1 r h1 h2 h3 h4 h5 h6
    obtain ⟨⟨r', p1, p2⟩, p3⟩ := h3.tick ⟨h5, by omega⟩ h4 jB
    obtain ⟨st', q1, _, q3⟩ := h2.hears h1 p3 now
    exact ⟨st', q1, q3, .inr ⟨r', p1, p2.more h6⟩, fun _ => p1.has, fun _ => p1.has⟩
  by_cases h2 : now % 2 = 0
  · obtain ⟨v1, v2, v3, _⟩ := hv h2
    -- a word is said
    have said : ∀ (e st1 : Int), (e = 0 ∨ e = 1) → (st1 = 1 ∨ st1 = 2 ∨ st1 = 3) → PA (tickP jA pa now) st1 now → Mq (saidP jA pa now) [w9 e now] →
        ∃ st', (st' = 1 ∨ st' = 2 ∨ st' = 3) ∧ PA (talkA jA jB pa pb now) st' now ∧ Told now st' (talkB jA jB pa pb now) ∧ (now % 2 = 0 → hasP (talkB jA jB pa pb now) 1 9 = true) ∧ ((∃ r, PB pb r) → hasP (talkB jA jB pa pb now) 1 9 = true) := by
      intro e st1 he h1 h3 hm
      have hh := hears_word (p := pb) hm now
      rcases hb with ⟨hb, _⟩ | ⟨r, hb, hl⟩
      · obtain ⟨r', p1, p2⟩ := pb_new hb (by omega) he hm
        rw [← hh] at p1
        exact fin 0 st1 r' h1 h3 p1 p2 (Int.le_refl _) (by omega)
      · obtain ⟨r', p1, p2⟩ := hb.hear_word (now := now) (by omega) (by have := hl.born; omega) he hm
        rw [← hh] at p1
        exact fin 0 st1 r' h1 h3 p1 p2 (Int.le_refl _) (by omega)
    rcases hst with ⟨_, e⟩ | ⟨_, e⟩ | ⟨e0, e | ⟨e, e6⟩⟩ | ⟨e, _⟩
    · obtain ⟨p, m⟩ := v1 e
      exact said 0 2 (.inl rfl) (by omega) p m
    · obtain ⟨p, m⟩ := v2 e
      exact said 1 3 (.inr rfl) (by omega) p m
    · obtain ⟨p, m⟩ := v2 e
      exact said 1 3 (.inr rfl) (by omega) p m
    · obtain ⟨p, m⟩ := v3 e
      rcases hb with ⟨_, hb⟩ | ⟨r, hb, hl⟩
      · omega
      · have hl2 := hl.next
        rw [show now - 1 + 1 = now from by omega] at hl2
        obtain ⟨r', p1, p2⟩ := hb.hears (now := now) (by omega) hl2 m
        exact fin _ 3 r' (by omega) p p1 p2 (by omega) (by omega)
    · omega
  · obtain ⟨p, m⟩ := ho h2
    have hs2 : s1 = 1 ∨ s1 = 2 ∨ s1 = 3 := by omega
    have hm : hears pb (saidP jA pa now) now = pb := by
      rw [m]
      rfl
    rcases hb with ⟨hb, e1⟩ | ⟨r, hb, hl⟩
    · have hb' : (hears pb (saidP jA pa now) now).l = [] := by rw [hm]; exact hb
      obtain ⟨b2, b3⟩ := tick_none hb' jB now
      obtain ⟨st', q1, q2, q3⟩ := p.hears hs2 b3 now
      exact ⟨st', q1, q3, .inl ⟨b2, q2 (by omega)⟩, fun c => absurd c h2, fun ⟨r, c⟩ => by
        obtain ⟨x, y⟩ := c.l
        rw [hb] at y
        cases y⟩
    · have hl2 := hl.next
      rw [show now - 1 + 1 = now from by omega] at hl2
      have p1 : PB (hears pb (saidP jA pa now) now) r := by rw [hm]; exact hb
      exact fin _ s1 r hs2 p p1 hl2 (by omega) (by omega)
/- WHEN IT IS WANTED NO MORE. -/
/-- It is leaving since a tick. -/
theorem PB.leaving {p : Py} {r : Rg} (h : PB p r) (h1 : r.state = 1) (jit : Nat → Int) (now : Int) : ((tickP jit p now).l = [] ∨ ∃ r', PB (tickP jit p now) r' ∧ r'.state = 1 ∧ r'.left = r.left ∧ now - r.left < 24) ∧ Mq (saidP jit p now) [] := by
  obtain ⟨b, hp⟩ := h.l
  obtain ⟨q, e1, e2⟩ := tick_zero hp jit now
  refine ⟨?_, e2⟩
  have gone : ∀ r1 : Rg, r1.mode = 0 → r1.state = 0 → tidyL (one9 (if q = true then stepR r1 2 now else r1) ⟨0, b⟩) = [] := by
    intro r1 m1 s1
    refine tidy_gone ?_ rfl
    have : (if q = true then stepR r1 2 now else r1).mode = 0 ∧ (if q = true then stepR r1 2 now else r1).state = 0 := by
      split
      · exact idle_step ⟨m1, s1⟩ 2 now (.inr (.inl rfl))
      · exact ⟨m1, s1⟩
    unfold idleR
    rw [this.1, this.2]
    rfl
  by_cases hl : 24 ≤ now - r.left
  · left
    rw [e1]
    have t0 : leaveR r now = stepR r 3 now := by unfold leaveR; rw [if_pos ⟨h1, hl⟩]
    have t1 : (stepR r 3 now).state = 0 := by
      show (cellR r.state 3).1 = 0
      rw [h1]
      rfl
    have t2 : tickR r now = stepR r 3 now := by
      unfold tickR ageR
      rw [t0, if_neg (fun c => c.1 t1)]
    rw [t2]
    exact gone _ h.mode t1
  · have t0 : leaveR r now = r := by unfold leaveR; rw [if_neg (fun c => hl c.2)]
    by_cases hg : 120 < now - r.born
    · left
      rw [e1]
      have t1 : (stepR r 4 now).state = 0 := by
        show (cellR r.state 4).1 = 0
        rw [h1]
        rfl
      have t2 : tickR r now = stepR r 4 now := by
        unfold tickR ageR
        rw [t0, if_pos ⟨by omega, hg⟩]
      rw [t2]
      exact gone _ h.mode t1
    · right
      have t2 : tickR r now = r := by
        unfold tickR ageR
        rw [t0, if_neg (fun c => hg c.2)]
      rw [t2] at e1
      have s2 : (stepR r 2 now).state = 1 := all_state h.state now
      have l2 : (stepR r 2 now).left = r.left := by
        show (if (cellR r.state 2).2 = 1 then now else r.left) = r.left
        rw [h1, if_neg (by decide)]
      cases q with
      | true =>
        rw [if_pos rfl, tidy_keep (busy (.inl s2) _)] at e1
        exact ⟨_, ⟨⟨b, e1⟩, h.mode, .inl s2⟩, s2, l2, by omega⟩
      | false =>
        rw [if_neg (by decide), tidy_keep (busy h.state _)] at e1
        exact ⟨_, ⟨⟨b, e1⟩, h.mode, h.state⟩, h1, rfl, by omega⟩
/-- At the end of a tick behind its end: to be said yet that it leaves; or it is leaving, or gone. -/
def Ends (e now : Int) (pa pb : Py) : Prop :=
  ((∃ b, PA pa 4 b) ∧ e ≤ now ∧ (now = e ∨ (now = e + 1 ∧ ¬ now % 2 = 0)) ∧ (pb.l = [] ∨ ∃ r, PB pb r ∧ Late now (5 + (now - e)) r)) ∨
  (pa.l = [] ∧ (pb.l = [] ∨ ∃ r, PB pb r ∧ r.state = 1 ∧ r.left ≤ e + 2 ∧ now < e + 26))
theorem PB.hears_leaving {p : Py} {r : Rg} (h : PB p r) (h1 : r.state = 1) {m : Msg} (hm : Mq m []) (now : Int) : ∃ r', PB (Go.Proofs.Ythghedlgeceepaa.hears p m now) r' ∧ r'.state = 1 ∧ r'.left = r.left := by
  unfold Go.Proofs.Ythghedlgeceepaa.hears
  split
  · obtain ⟨b, hp⟩ := h.l
    have e0 := hear_one hp hm now
    have hq : (qAllA m ⟨0, b⟩) = ⟨0, b⟩ := by
      unfold qAllA
      split <;> rfl
    rw [hq] at e0
    unfold qAll at e0
    have s2 : (stepR r 2 now).state = 1 := all_state h.state now
    have l2 : (stepR r 2 now).left = r.left := by
      show (if (cellR r.state 2).2 = 1 then now else r.left) = r.left
      rw [h1, if_neg (by decide)]
    by_cases ha : m.all = []
    · rw [if_pos ha, tidy_keep (busy h.state _)] at e0
      exact ⟨r, ⟨⟨b, e0⟩, h.mode, h.state⟩, h1, rfl⟩
    · rw [if_neg ha, tidy_keep (busy (.inl s2) _)] at e0
      exact ⟨_, ⟨⟨b, e0⟩, h.mode, .inl s2⟩, s2, l2⟩
  · exact ⟨r, h, h1, rfl⟩
theorem PB.hear_leave {p : Py} {r : Rg} (h : PB p r) {now k : Int} (hk : 0 ≤ k) (hl : Late now k r) {b : Int} {m : Msg} (hm : Mq m [w9 5 b]) : ∃ r', PB (hearP p m now) r' ∧ r'.state = 1 ∧ r'.left ≤ now := by
  obtain ⟨c, hp⟩ := h.l
  have e0 := Go.Proofs.Ythghedlgeceepaa.hear_word hp hm now
  have hq : (qAllA m ⟨0, c⟩) = ⟨0, c⟩ := by
    unfold qAllA
    split <;> rfl
  obtain ⟨r1, hr1⟩ : ∃ r1, qAll m now r = r1 := ⟨_, rfl⟩
  have h1 : r1.mode = 0 ∧ (r1.state = 1 ∨ r1.state = 2) ∧ Late now k r1 := by
    rw [← hr1]
    unfold qAll
    split
    · exact ⟨h.mode, h.state, hl⟩
    · exact ⟨h.mode, .inl (all_state h.state now), hl.all hk h.state⟩
  rw [hq, hr1, show hearR r1 5 b now = stepR r1 1 now from by unfold hearR; rw [if_neg (by decide), if_pos rfl]] at e0
  have s2 : (stepR r1 1 now).state = 1 := by
    show (cellR r1.state 1).1 = 1
    rcases h1.2.1 with e | e <;> rw [e] <;> rfl
  have l2 : (stepR r1 1 now).left ≤ now := by
    show (if (cellR r1.state 1).2 = 1 then now else r1.left) ≤ now
    rcases h1.2.1 with e | e
    · rw [e, if_neg (by decide)]
      exact (h1.2.2.left e).1
    · rw [e, if_pos (by decide)]
      exact Int.le_refl _
  rw [tidy_keep (busy (.inl s2) _)] at e0
  exact ⟨_, ⟨⟨c, e0⟩, h1.1, .inl s2⟩, s2, l2⟩
theorem ends_step {pa pb : Py} {e now : Int} (h : Ends e (now - 1) pa pb) (_he : 0 ≤ e) (jA jB : Nat → Int) : Ends e now (talkA jA jB pa pb now) (talkB jA jB pa pb now) := by
  -- the end of each way where nothing is said there any more
  have last : ∀ pb1 : Py, hears pb (saidP jA pa now) now = pb1 → (tickP jA pa now).l = [] → (pb1.l = [] ∨ ∃ r, PB pb1 r ∧ r.state = 1 ∧ r.left ≤ e + 2) → Ends e now (talkA jA jB pa pb now) (talkB jA jB pa pb now) := by
    intro pb1 h1 h2 h3
    unfold talkA talkB
    rw [h1]
    rcases h3 with h3 | ⟨r, h3, h4, h5⟩
    · obtain ⟨b2, b3⟩ := tick_none h3 jB now
      exact .inr ⟨hears_none h2 b3.ws now, .inl b2⟩
    · obtain ⟨b2, b3⟩ := h3.leaving h4 jB now
      refine .inr ⟨hears_none h2 b3.ws now, ?_⟩
      rcases b2 with b2 | ⟨r', p1, p2, p3, p4⟩
      · exact .inl b2
      · exact .inr ⟨r', p1, p2, by omega, by omega⟩
  rcases h with ⟨⟨b, ha⟩, he1, hn, hb⟩ | ⟨ha, hb⟩
  · obtain ⟨q, ho, hv⟩ := ha.tick (by omega) jA now
    have hst := stA_cases (now := now) (show (4 : Int) = 1 ∨ (4 : Int) = 2 ∨ (4 : Int) = 3 ∨ (4 : Int) = 4 by omega) q
    have s4 : stA 4 now q = 4 := by omega
    by_cases h2 : now % 2 = 0
    · obtain ⟨p, m⟩ := (hv h2).2.2.2 s4
      have hh := hears_word (p := pb) m now
      refine last _ hh p ?_
      rcases hb with hb | ⟨r, hb, hl⟩
      · exact .inl (hear_lost hb (by unfold comes; omega) m now)
      · have hl2 := hl.next
        rw [show now - 1 + 1 = now from by omega] at hl2
        obtain ⟨r', p1, p2, p3⟩ := hb.hear_leave (by omega) hl2 m
        exact .inr ⟨r', p1, p2, by omega⟩
    · obtain ⟨p, m⟩ := ho h2
      rw [s4] at p
      have hm : hears pb (saidP jA pa now) now = pb := by
        rw [m]
        rfl
      have hn2 : now = e + 1 := by omega
      have back : ∀ y : Msg, Mq y [] → PA (hears (tickP jA pa now) y now) 4 b := by
        intro y hy
        unfold hears
        split
        · have := p.hear (by omega) hy now
          rw [if_pos (.inr (by decide))] at this
          exact this
        · exact p
      unfold talkA talkB
      rw [hm]
      rcases hb with hb | ⟨r, hb, hl⟩
      · obtain ⟨b2, b3⟩ := tick_none hb jB now
        exact .inl ⟨⟨b, back _ b3⟩, by omega, .inr ⟨hn2, h2⟩, .inl b2⟩
      · have hl2 := hl.next
        rw [show now - 1 + 1 = now from by omega] at hl2
        obtain ⟨⟨r', p1, p2⟩, p3⟩ := hb.tick (by omega) hl2 jB
        exact .inl ⟨⟨b, back _ p3⟩, by omega, .inr ⟨hn2, h2⟩, .inr ⟨r', p1, p2.more (by omega)⟩⟩
  · obtain ⟨a1, a2⟩ := tick_none ha jA now
    refine last _ rfl a1 ?_
    rcases hb with hb | ⟨r, hb, h1, h2, _⟩
    · exact .inl (hears_none hb a2.ws now)
    · obtain ⟨r', p1, p2, p3⟩ := hb.hears_leaving h1 a2 now
      exact .inr ⟨r', p1, p2, by omega⟩
theorem ends_has {pa pb : Py} {e now : Int} (h : Ends e now pa pb) (hn : e + 28 ≤ now) : hasP pb 1 9 = false := by
  rcases h with ⟨_, _, h, _⟩ | ⟨_, h | ⟨_, _, _, _, h⟩⟩
  · omega
  · exact has_none h
  · omega
theorem ends_start {pa pb : Py} {e st c : Int} (ha : PA pa st c) (hs : st = 1 ∨ st = 2 ∨ st = 3) (hb : Told e st pb) (_he : 0 ≤ e) : Ends e e (wantP pa 1 9 (-1) false) pb := by
  refine .inl ⟨⟨c, want_end ha hs⟩, Int.le_refl _, .inl rfl, ?_⟩
  rcases hb with ⟨h, _⟩ | ⟨r, h, hl⟩
  · exact .inl h
  · exact .inr ⟨r, h, hl.more (by omega)⟩
end Go.Proofs.Ythghedlgeceepaa
