/- A port's part in telling attributes (layer 16), as plain data: its slots in order, and what each call makes of them. No program's call, no condition. -/
import Derived.Test.YthghedlgeceepaaRgP
import Derived.Test.YthghedlgeceepaaApP
import Derived.Test.YthghedlgeceepaaWdP
namespace Go.Proofs.Ythghedlgeceepaa
set_option maxRecDepth 100000

/-- What is kept of an attribute. -/
structure Sl where
  t : Int
  v : Int
  r : Rg
  a : Ap
def sl0 : Sl := ⟨0, 0, ⟨0, 0, 0, 0⟩, ⟨0, 0⟩⟩
instance : Inhabited Sl := ⟨sl0⟩
/-- A port's part: when all is asked for next, whether that is to be told, how many draws were taken, how often there was no room. -/
structure Py where
  l : List Sl
  due : Int
  ask : Bool
  at_ : Nat
  fails : Nat
def newS (t v : Int) : Sl := ⟨t, v, ⟨0, 0, 0, 0⟩, ⟨0, 0⟩⟩
def keyB (t v : Int) (s : Sl) : Bool := decide (s.t = t) && decide (s.v = v)
def lessS (s u : Sl) : Prop := s.t < u.t ∨ (s.t = u.t ∧ s.v < u.v)
instance (s u : Sl) : Decidable (lessS s u) := by unfold lessS; infer_instance
def hasK (l : List Sl) (t v : Int) : Bool := l.any (keyB t v)
def findK (l : List Sl) (t v : Int) : Option Sl := l.find? (keyB t v)
def insK (x : Sl) : List Sl → List Sl
  | [] => [x]
  | s :: r => if lessS s x then s :: insK x r else x :: s :: r
def updK (l : List Sl) (t v : Int) (f : Sl → Sl) : List Sl := l.map fun s => if keyB t v s = true then f s else s
def idleS (s : Sl) : Bool := idleR s.r && decide (s.a.state = 0)
def tidyL (l : List Sl) : List Sl := l.filter fun s => !idleS s
def tidyP (p : Py) : Py := ⟨tidyL p.l, p.due, p.ask, p.at_, p.fails⟩
def withL (p : Py) (l : List Sl) : Py := ⟨l, p.due, p.ask, p.at_, p.fails⟩
/-- Room for an attribute; none: there is none, and that is counted. -/
def roomP (p : Py) (t v : Int) : Option Py := if hasK p.l t v = true then some p else if 16 ≤ p.l.length then none else some (withL p (insK (newS t v) p.l))
def failP (p : Py) : Py := ⟨p.l, p.due, p.ask, p.at_, p.fails + 1⟩
def modeS (m : Int) (s : Sl) : Sl := ⟨s.t, s.v, ⟨m, s.r.state, s.r.born, s.r.left⟩, s.a⟩
def wantS (b : Int) (n : Bool) (s : Sl) : Sl := ⟨s.t, s.v, s.r, wantA s.a b n⟩
def hearS (e b now : Int) (s : Sl) : Sl := ⟨s.t, s.v, hearR s.r e b now, s.a⟩
def allS (now : Int) (s : Sl) : Sl := ⟨s.t, s.v, stepR s.r 2 now, stepA s.a 2⟩
def flushS (now : Int) (s : Sl) : Sl := ⟨s.t, s.v, stepR s.r 4 now, s.a⟩
def tickS (now : Int) (s : Sl) : Sl := ⟨s.t, s.v, tickR s.r now, if now % 6 = 0 then stepA s.a 3 else s.a⟩
def saidS (s : Sl) : Sl := ⟨s.t, s.v, s.r, stepA s.a 4⟩
/-- Mode and Want of an attribute that can be. -/
def modeP (p : Py) (t v m : Int) : Py := match roomP p t v with
  | some q => tidyP (withL q (updK q.l t v (modeS m)))
  | none => failP p
def wantP (p : Py) (t v b : Int) (n : Bool) : Py := if hasK p.l t v = false ∧ b < 0 then p else match roomP p t v with
  | some q => tidyP (withL q (updK q.l t v (wantS b n)))
  | none => failP p
/-- All of a type is asked for. -/
def allL (k now : Int) (l : List Sl) : List Sl := l.map fun s => if s.t = k then allS now s else s
def allsL (ks : List Int) (now : Int) (l : List Sl) : List Sl := ks.foldl (fun l k => allL k now l) l
def comes (e : Int) : Prop := e = 0 ∨ e = 1 ∨ e = 3
instance (e : Int) : Decidable (comes e) := by unfold comes; infer_instance
/-- A word is heard. -/
def wordP1 (now : Int) (p : Py) (x : Wd) : Py :=
  if hasK p.l x.t x.v = true then withL p (updK p.l x.t x.v (hearS x.e x.b now))
  else if comes x.e then match roomP p x.t x.v with
    | some q => withL q (updK q.l x.t x.v (hearS x.e x.b now))
    | none => failP p
  else p
def hearP (p : Py) (m : Msg) (now : Int) : Py := tidyP (m.ws.foldl (wordP1 now) (withL p (allsL m.all now p.l)))
/-- The types that there are. -/
def typesL (l : List Sl) : List Int := 1 :: ((if l.any (fun s => decide (s.t = 2)) = true then [2] else []) ++ (if l.any (fun s => decide (s.t = 3)) = true then [3] else []))
/-- What a slot says when something may be said. -/
def sayS (s : Sl) : Option Wd := if actA s.a 4 = 0 then none else some ⟨s.t, s.v, sayE (actA s.a 4), s.a.born⟩
def saysL (l : List Sl) : List Wd := l.filterMap sayS
/-- A tick's two halves: time goes on and all may be asked for; something is said, or not. -/
def tick1 (jit : Nat → Int) (p : Py) (now : Int) : Py :=
  if p.due ≤ now then ⟨allsL (typesL p.l) now (p.l.map (tickS now)), now + jit p.at_, true, p.at_ + 1, p.fails⟩ else withL p (p.l.map (tickS now))
def tick2 (p : Py) (now : Int) : Py := tidyP (if now % 2 = 0 then ⟨p.l.map saidS, p.due, false, p.at_, p.fails⟩ else p)
def tellP (p : Py) (now : Int) : Msg := if now % 2 = 0 then ⟨if p.ask = true then typesL p.l else [], saysL p.l⟩ else ⟨[], []⟩
def tickP (jit : Nat → Int) (p : Py) (now : Int) : Py := tick2 (tick1 jit p now) now
def saidP (jit : Nat → Int) (p : Py) (now : Int) : Msg := tellP (tick1 jit p now) now
def flushP (p : Py) (now : Int) : Py := tidyP (withL p (p.l.map (flushS now)))
def newP (jit : Nat → Int) : Py := ⟨[], jit 0, false, 1, 0⟩
/-- What is known of an attribute. -/
def hasP (p : Py) (t v : Int) : Bool := match findK p.l t v with
  | some s => hasR s.r
  | none => false
def bornP (p : Py) (t v now : Int) : Int := match findK p.l t v with
  | some s => bornR s.r now
  | none => -1
def saysP (p : Py) (t v : Int) : Bool := match findK p.l t v with
  | some s => speaksA s.a
  | none => false

/- Keys stay where a slot is turned. -/
def KeyOk (f : Sl → Sl) : Prop := ∀ s, (f s).t = s.t ∧ (f s).v = s.v
theorem key_mode (m : Int) : KeyOk (modeS m) := fun _ => ⟨rfl, rfl⟩
theorem key_want (b : Int) (n : Bool) : KeyOk (wantS b n) := fun _ => ⟨rfl, rfl⟩
theorem key_hear (e b now : Int) : KeyOk (hearS e b now) := fun _ => ⟨rfl, rfl⟩
theorem key_all (now : Int) : KeyOk (allS now) := fun _ => ⟨rfl, rfl⟩
theorem key_flush (now : Int) : KeyOk (flushS now) := fun _ => ⟨rfl, rfl⟩
theorem key_tick (now : Int) : KeyOk (tickS now) := fun _ => ⟨rfl, rfl⟩
theorem key_said : KeyOk saidS := fun _ => ⟨rfl, rfl⟩
theorem key_upd {f : Sl → Sl} (h : KeyOk f) (t v : Int) : KeyOk (fun s => if keyB t v s = true then f s else s) := fun s => by
  dsimp only
  split
  · exact h s
  · exact ⟨rfl, rfl⟩
theorem key_all1 (k now : Int) : KeyOk (fun s => if s.t = k then allS now s else s) := fun s => by
  dsimp only
  split
  · exact key_all now s
  · exact ⟨rfl, rfl⟩
theorem keyB_map {f : Sl → Sl} (h : KeyOk f) (t v : Int) (s : Sl) : keyB t v (f s) = keyB t v s := by unfold keyB; rw [(h s).1, (h s).2]
theorem keyB_iff {t v : Int} {s : Sl} : keyB t v s = true ↔ s.t = t ∧ s.v = v := by unfold keyB; simp
/-- A slot can be, at a tick. -/
structure SlOk (T : Int) (s : Sl) : Prop where
  attr : attrP s.t s.v
  reg : OkR T s.r
  st : S5 s.a.state
  born : 0 ≤ s.a.born ∧ s.a.born ≤ 1048576
structure PyOk (T : Int) (p : Py) : Prop where
  all : ∀ s ∈ p.l, SlOk T s
  ord : p.l.Pairwise lessS
  len : p.l.length ≤ 16
theorem SlOk.more {T T' : Int} {s : Sl} (h : SlOk T s) (hT : T ≤ T') : SlOk T' s := ⟨h.attr, h.reg.more hT, h.st, h.born⟩
theorem slok_new {t v T : Int} (h : attrP t v) (hT : 0 ≤ T) : SlOk T (newS t v) := ⟨h, ⟨.inl rfl, .inl rfl, ⟨Int.le_refl _, hT⟩, ⟨Int.le_refl _, hT⟩⟩, .inl rfl, ⟨Int.le_refl _, by show (0 : Int) ≤ 1048576; decide⟩⟩
theorem SlOk.mode {T m : Int} {s : Sl} (h : SlOk T s) (hm : m = 0 ∨ m = 1 ∨ m = 2) : SlOk T (modeS m s) := ⟨h.attr, ⟨hm, h.reg.state, h.reg.born, h.reg.left⟩, h.st, h.born⟩
theorem wantA_born (a : Ap) (b : Int) (n : Bool) : (wantA a b n).born = if b < 0 then a.born else b := by
  unfold wantA
  split
  · rfl
  · split <;> rfl
theorem SlOk.want {T b : Int} {n : Bool} {s : Sl} (h : SlOk T s) (hb : b ≤ 1048576) : SlOk T (wantS b n s) := by
  refine ⟨h.attr, h.reg, wantA_ok h.st b n, ?_⟩
  have e := wantA_born s.a b n
  have h0 := h.born
  show 0 ≤ (wantA s.a b n).born ∧ (wantA s.a b n).born ≤ 1048576
  rw [e]
  split <;> omega
theorem SlOk.hear {T e b : Int} {s : Sl} (h : SlOk T s) (hT : 0 ≤ T) : SlOk T (hearS e b T s) := ⟨h.attr, h.reg.hear hT e b, h.st, h.born⟩
theorem SlOk.all {T : Int} {s : Sl} (h : SlOk T s) (hT : 0 ≤ T) : SlOk T (allS T s) := ⟨h.attr, h.reg.step hT (.inr (.inr (.inl rfl))), stepA_ok h.st (by unfold E6; omega), h.born⟩
theorem SlOk.flush {T : Int} {s : Sl} (h : SlOk T s) (hT : 0 ≤ T) : SlOk T (flushS T s) := ⟨h.attr, h.reg.step hT (.inr (.inr (.inr (.inr rfl)))), h.st, h.born⟩
theorem SlOk.tick {T : Int} {s : Sl} (h : SlOk T s) (hT : 0 ≤ T) : SlOk T (tickS T s) := by
  refine ⟨h.attr, h.reg.tick hT, ?_, ?_⟩
  · show S5 (if _ then stepA s.a 3 else s.a).state
    split
    · exact stepA_ok h.st (by unfold E6; omega)
    · exact h.st
  · show 0 ≤ (if _ then stepA s.a 3 else s.a).born ∧ (if _ then stepA s.a 3 else s.a).born ≤ 1048576
    split
    · exact h.born
    · exact h.born
theorem SlOk.said {T : Int} {s : Sl} (h : SlOk T s) : SlOk T (saidS s) := ⟨h.attr, h.reg, stepA_ok h.st (by unfold E6; omega), h.born⟩
theorem PyOk.more {T T' : Int} {p : Py} (h : PyOk T p) (hT : T ≤ T') : PyOk T' p := ⟨fun s hs => (h.all s hs).more hT, h.ord, h.len⟩
theorem PyOk.of_map {T T' : Int} {p : Py} (h : PyOk T p) {f : Sl → Sl} (hk : KeyOk f) (hf : ∀ s, SlOk T s → SlOk T' (f s)) {q : Py} (e : q.l = p.l.map f) : PyOk T' q := by
  refine ⟨?_, ?_, ?_⟩
  · rw [e]
    intro s hs
    obtain ⟨s', hs', rfl⟩ := List.mem_map.1 hs
    exact hf s' (h.all s' hs')
  · rw [e, List.pairwise_map]
    refine h.ord.imp ?_
    intro a b hab
    unfold lessS at *
    rw [(hk a).1, (hk a).2, (hk b).1, (hk b).2]
    exact hab
  · rw [e, List.length_map]
    exact h.len
theorem PyOk.same {T : Int} {p q : Py} (h : PyOk T p) (e : q.l = p.l) : PyOk T q := ⟨by rw [e]; exact h.all, by rw [e]; exact h.ord, by rw [e]; exact h.len⟩
theorem PyOk.tidy {T : Int} {p : Py} (h : PyOk T p) : PyOk T (tidyP p) :=
  ⟨fun s hs => h.all s (List.mem_filter.1 hs).1, h.ord.sublist List.filter_sublist, Nat.le_trans (List.length_filter_le _ _) h.len⟩
theorem PyOk.upd {T : Int} {p : Py} (h : PyOk T p) {t v : Int} {f : Sl → Sl} (hk : KeyOk f) (hf : ∀ s, SlOk T s → SlOk T (f s)) : PyOk T (withL p (updK p.l t v f)) :=
  h.of_map (key_upd hk t v) (fun s hs => by
    split
    · exact hf s hs
    · exact hs) rfl
theorem mem_ins {x s : Sl} {l : List Sl} : s ∈ insK x l ↔ s = x ∨ s ∈ l := by
  induction l with
  | nil => simp [insK]
  | cons a l ih =>
    unfold insK
    split
    · rw [List.mem_cons, ih, List.mem_cons]
      constructor
      · rintro (h | h | h)
        · exact .inr (.inl h)
        · exact .inl h
        · exact .inr (.inr h)
      · rintro (h | h | h)
        · exact .inr (.inl h)
        · exact .inl h
        · exact .inr (.inr h)
    · rw [List.mem_cons]
theorem len_ins (x : Sl) (l : List Sl) : (insK x l).length = l.length + 1 := by
  induction l with
  | nil => rfl
  | cons a l ih =>
    unfold insK
    split
    · rw [List.length_cons, ih, List.length_cons]
    · rfl
theorem lessS_trans {a b c : Sl} (h : lessS a b) (h' : lessS b c) : lessS a c := by unfold lessS at *; omega
theorem lessS_total {a b : Sl} (h : ¬ lessS a b) (hk : ¬ (a.t = b.t ∧ a.v = b.v)) : lessS b a := by unfold lessS at *; omega
theorem ord_ins {x : Sl} {l : List Sl} (h : l.Pairwise lessS) (hx : ∀ s ∈ l, ¬ (s.t = x.t ∧ s.v = x.v)) : (insK x l).Pairwise lessS := by
  induction l with
  | nil => exact List.pairwise_singleton _ _
  | cons a l ih =>
    have h' := List.pairwise_cons.1 h
    unfold insK
    split
    · rename_i hlt
      refine List.pairwise_cons.2 ⟨?_, ih h'.2 (fun s hs => hx s (List.mem_cons_of_mem _ hs))⟩
      intro s hs
      rcases mem_ins.1 hs with rfl | hs
      · exact hlt
      · exact h'.1 s hs
    · rename_i hlt
      have hxa := lessS_total hlt (hx a List.mem_cons_self)
      refine List.pairwise_cons.2 ⟨?_, h⟩
      intro s hs
      rcases List.mem_cons.1 hs with rfl | hs
      · exact hxa
      · exact lessS_trans hxa (h'.1 s hs)
theorem hasK_false {l : List Sl} {t v : Int} (h : ¬ hasK l t v = true) : ∀ s ∈ l, ¬ (s.t = t ∧ s.v = v) := by
  intro s hs hk
  apply h
  unfold hasK
  rw [List.any_eq_true]
  exact ⟨s, hs, keyB_iff.2 hk⟩
theorem PyOk.room {T : Int} {p q : Py} (h : PyOk T p) (hT : 0 ≤ T) {t v : Int} (ha : attrP t v) (e : roomP p t v = some q) : PyOk T q := by
  unfold roomP at e
  split at e
  · injection e with e
    subst e
    exact h
  · rename_i hh
    split at e
    · cases e
    · rename_i hl
      injection e with e
      subst e
      refine ⟨fun s hs => ?_, ord_ins h.ord (hasK_false hh), ?_⟩
      · rcases mem_ins.1 hs with rfl | hs
        · exact slok_new ha hT
        · exact h.all s hs
      · show (insK _ p.l).length ≤ 16
        rw [len_ins]
        omega
theorem PyOk.mode {T : Int} {p : Py} (h : PyOk T p) (hT : 0 ≤ T) {t v m : Int} (ha : attrP t v) (hm : m = 0 ∨ m = 1 ∨ m = 2) : PyOk T (modeP p t v m) := by
  unfold modeP
  split
  · rename_i q e
    exact ((h.room hT ha e).upd (key_mode m) (fun s hs => hs.mode hm)).tidy
  · exact h.same rfl
theorem PyOk.want {T : Int} {p : Py} (h : PyOk T p) (hT : 0 ≤ T) {t v b : Int} {n : Bool} (ha : attrP t v) (hb : b ≤ 1048576) : PyOk T (wantP p t v b n) := by
  unfold wantP
  split
  · exact h
  · split
    · rename_i q e
      exact ((h.room hT ha e).upd (key_want b n) (fun s hs => hs.want hb)).tidy
    · exact h.same rfl
theorem PyOk.alls {T : Int} {p : Py} (h : PyOk T p) (hT : 0 ≤ T) (ks : List Int) : PyOk T (withL p (allsL ks T p.l)) := by
  unfold allsL
  induction ks generalizing p with
  | nil => exact h.same rfl
  | cons k ks ih =>
    have h1 : PyOk T (withL p (allL k T p.l)) := h.of_map (key_all1 k T) (fun s hs => by
      split
      · exact hs.all hT
      · exact hs) rfl
    exact (ih h1).same rfl
theorem PyOk.word {T : Int} {p : Py} (h : PyOk T p) (hT : 0 ≤ T) {x : Wd} (hx : attrP x.t x.v) : PyOk T (wordP1 T p x) := by
  unfold wordP1
  split
  · exact h.upd (key_hear _ _ _) (fun s hs => hs.hear hT)
  · split
    · split
      · rename_i q e
        exact (h.room hT hx e).upd (key_hear _ _ _) (fun s hs => hs.hear hT)
      · exact h.same rfl
    · exact h
theorem PyOk.words {T : Int} {p : Py} (h : PyOk T p) (hT : 0 ≤ T) {ws : List Wd} (hx : ∀ x ∈ ws, attrP x.t x.v) : PyOk T (ws.foldl (wordP1 T) p) := by
  induction ws generalizing p with
  | nil => exact h
  | cons x ws ih => exact ih (h.word hT (hx x List.mem_cons_self)) (fun y hy => hx y (List.mem_cons_of_mem _ hy))
theorem PyOk.hear {T : Int} {p : Py} (h : PyOk T p) (hT : 0 ≤ T) {m : Msg} (hm : m.Good) : PyOk T (hearP p m T) :=
  ((h.alls hT m.all).words hT (fun x hx => (hm.2.1 x hx).1)).tidy
theorem PyOk.flush {T : Int} {p : Py} (h : PyOk T p) (hT : 0 ≤ T) : PyOk T (flushP p T) :=
  (h.of_map (q := withL p (p.l.map (flushS T))) (key_flush T) (fun _ hs => hs.flush hT) rfl).tidy
theorem PyOk.tick1 {T : Int} {p : Py} (h : PyOk T p) (hT : 0 ≤ T) (jit : Nat → Int) : PyOk T (tick1 jit p T) := by
  have h1 : PyOk T (withL p (p.l.map (tickS T))) := h.of_map (key_tick T) (fun _ hs => hs.tick hT) rfl
  unfold Go.Proofs.Ythghedlgeceepaa.tick1
  split
  · exact (h1.alls hT (typesL p.l)).same rfl
  · exact h1
theorem PyOk.tick {T : Int} {p : Py} (h : PyOk T p) (hT : 0 ≤ T) (jit : Nat → Int) : PyOk T (tickP jit p T) := by
  have h1 := h.tick1 hT jit
  unfold tickP tick2
  refine PyOk.tidy ?_
  split
  · exact h1.of_map key_said (fun _ hs => hs.said) rfl
  · exact h1
theorem PyOk.new (jit : Nat → Int) (T : Int) : PyOk T (newP jit) := ⟨fun _ hs => absurd hs List.not_mem_nil, List.Pairwise.nil, Nat.zero_le _⟩
/- What is said can be. -/
theorem types_good (l : List Sl) : (∀ k ∈ typesL l, vs k ≠ 0) ∧ (typesL l).Pairwise (fun a b => a < b) := by
  unfold typesL
  cases l.any (fun s => decide (s.t = 2)) <;> cases l.any (fun s => decide (s.t = 3)) <;> exact ⟨by decide, by decide⟩
theorem sayE_in {s : Int} (hs : S5 s) : 0 ≤ sayE ((cellA s 4).2) ∧ sayE ((cellA s 4).2) ≤ 5 := by
  rcases cellA_act hs with e | e | e | e <;> rw [e] <;> decide
theorem says_good {T : Int} {l : List Sl} (h : ∀ s ∈ l, SlOk T s) (ho : l.Pairwise lessS) : (∀ w ∈ saysL l, wordP w) ∧ (saysL l).Pairwise lessP := by
  constructor
  · intro w hw
    obtain ⟨s, hs, e⟩ := List.mem_filterMap.1 hw
    unfold sayS at e
    split at e
    · cases e
    · injection e with e
      subst e
      have hk := h s hs
      exact ⟨hk.attr, (sayE_in hk.st).1, (sayE_in hk.st).2, hk.born⟩
  · refine List.Pairwise.filterMap sayS ?_ ho
    intro a b hab x hx y hy
    unfold sayS at hx hy
    split at hx
    · cases hx
    · split at hy
      · cases hy
      · injection hx with hx
        injection hy with hy
        subst hx hy
        exact hab
theorem tell_good {T : Int} {p : Py} (h : PyOk T p) (now : Int) : (tellP p now).Good := by
  have hs := says_good h.all h.ord
  unfold tellP
  split
  · refine ⟨?_, hs⟩
    split
    · exact types_good p.l
    · exact ⟨fun _ h => absurd h List.not_mem_nil, List.Pairwise.nil⟩
  · exact ⟨⟨fun _ h => absurd h List.not_mem_nil, List.Pairwise.nil⟩, fun _ h => absurd h List.not_mem_nil, List.Pairwise.nil⟩
theorem said_good {T : Int} {p : Py} (h : PyOk T p) (hT : 0 ≤ T) (jit : Nat → Int) : (saidP jit p T).Good := tell_good (h.tick1 hT jit) T
end Go.Proofs.Ythghedlgeceepaa
