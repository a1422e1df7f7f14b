/- Messages about attributes as plain data: what can be, and what bytes say. No program's call, no condition. -/
import Derived.Test.YthghedlgeceepaaAddr
import Derived.Test.YthghedlgeceepaaPk
import Derived.Test.YthghedlgeceepaaOct
import Derived.Test.YthghedlgeceepaaWdP
namespace Go.Proofs.Ythghedlgeceepaa

def lastL {α : Type} (l : List α) : List α := l.drop (l.length - 1)
/-- Can a message still be with what a vector says behind it? -/
def joinsP (p v : Msg) : Prop := Msg.Good ⟨lastL p.all ++ v.all, lastL p.ws ++ v.ws⟩
instance (p v : Msg) : Decidable (joinsP p v) := by unfold joinsP; infer_instance

theorem lastL_cases {α : Type} (l : List α) : (l = [] ∧ lastL l = []) ∨ ∃ a x, l = a ++ [x] ∧ lastL l = [x] := by
  rcases List.eq_nil_or_concat l with rfl | ⟨a, x, rfl⟩
  · exact .inl ⟨rfl, rfl⟩
  · refine .inr ⟨a, x, by simp, ?_⟩
    simp [lastL]
theorem pair_last {α : Type} {R : α → α → Prop} (tr : ∀ {a b c}, R a b → R b c → R a c) {l m : List α} (h : l.Pairwise R) (h' : (lastL l ++ m).Pairwise R) : (l ++ m).Pairwise R := by
  rcases lastL_cases l with ⟨rfl, e⟩ | ⟨a, x, rfl, e⟩
  · rw [e] at h'; exact h'
  · rw [e, List.pairwise_append] at h'
    refine List.pairwise_append.2 ⟨h, h'.2.1, fun y hy z hz => ?_⟩
    have hx := h'.2.2 x (by simp) z hz
    rcases List.mem_append.1 hy with hy | hy
    · exact tr ((List.pairwise_append.1 h).2.2 y hy x (by simp)) hx
    · obtain rfl : y = x := by simpa using hy
      exact hx
theorem lastL_sub {α : Type} (l m n : List α) : List.Sublist (lastL l ++ m) (l ++ (m ++ n)) := by
  rw [← List.append_assoc]
  exact ((List.drop_sublist _ l).append (List.Sublist.refl m)).trans (List.sublist_append_left _ _)
theorem Msg.Good.sub {m m' : Msg} (h : m.Good) (h1 : List.Sublist m'.all m.all) (h2 : List.Sublist m'.ws m.ws) : m'.Good :=
  ⟨⟨fun k hk => h.1.1 k (h1.subset hk), h.1.2.sublist h1⟩, fun w hw => h.2.1 w (h2.subset hw), h.2.2.sublist h2⟩
theorem good_none : Msg.none.Good := ⟨⟨by simp [Msg.none], by simp [Msg.none]⟩, by simp [Msg.none], by simp [Msg.none]⟩
theorem good_joins {p v : Msg} (h : p.Good) (hj : joinsP p v) : (p.app v).Good := by
  refine ⟨⟨fun k hk => ?_, pair_last (R := fun a b : Int => a < b) (fun h h' => Int.lt_trans h h') h.1.2 hj.1.2⟩, fun w hw => ?_, pair_last (R := lessP) (fun h h' => lessP_trans h h') h.2.2 hj.2.2⟩
  · rcases List.mem_append.1 hk with hk | hk
    · exact h.1.1 k hk
    · exact hj.1.1 k (List.mem_append.2 (.inr hk))
  · rcases List.mem_append.1 hw with hw | hw
    · exact h.2.1 w hw
    · exact hj.2.1 w (List.mem_append.2 (.inr hw))
theorem joins_good {p v u : Msg} (h : (p.app (v.app u)).Good) : joinsP p v := h.sub (lastL_sub _ _ _) (lastL_sub _ _ _)

/-- What stands next in a part: nothing that can be, its end, or a vector. -/
inductive Step where
  | bad
  | stop (l : List UInt8)
  | row (v : Msg) (l : List UInt8)
/-- The words of a vector. -/
def wordsOf (k : Int) (n : Nat) (value born : Nat) (ev : List UInt8) : List Wd := (List.range n).map fun (i : Nat) => ⟨k, (value : Int) + (i : Int), (evt ev i : Int), (born : Int)⟩
/-- What a vector says whose number was read, and which is whole. -/
def sayOf (k : Int) (number : Nat) (value born : Nat) (ev : List UInt8) : Msg := ⟨if 8192 ≤ number then [k] else [], wordsOf k (number % 8192) value born ev⟩
def vecOk (number : Nat) (value born : Nat) (ev : List UInt8) : Prop := evsOk ev (number % 8192) ∧ ¬ (number % 8192 = 0 ∧ (value ≠ 0 ∨ born ≠ 0))
instance (s : List UInt8) (n : Nat) : Decidable (evsOk s n) := by unfold evsOk; infer_instance
instance (number value born : Nat) (ev : List UInt8) : Decidable (vecOk number value born ev) := by unfold vecOk; infer_instance
def vecAt (k : Int) (l : List UInt8) : Step :=
  if l.length < 2 then .bad
  else if num (l.take 2) = 0 then .stop (l.drop 2)
  else if 16383 < num (l.take 2) then .bad
  else if (l.drop 2).length < vs k + 4 + sz (num (l.take 2) % 8192) 3 then .bad
  else if vecOk (num (l.take 2)) (num ((l.drop 2).take (vs k))) (num ((l.drop (2 + vs k)).take 4)) ((l.drop (2 + vs k + 4)).take (sz (num (l.take 2) % 8192) 3)) then
    .row (sayOf k (num (l.take 2)) (num ((l.drop 2).take (vs k))) (num ((l.drop (2 + vs k)).take 4)) ((l.drop (2 + vs k + 4)).take (sz (num (l.take 2) % 8192) 3))) (l.drop (2 + vs k + 4 + sz (num (l.take 2) % 8192) 3))
  else .bad
theorem vec_row_lt {k : Int} {l l' : List UInt8} {v : Msg} (h : vecAt k l = .row v l') : l'.length < l.length := by
  unfold vecAt at h
  split at h
  · cases h
  split at h
  · cases h
  split at h
  · cases h
  split at h
  · cases h
  split at h
  · injection h with _ h
    subst h
    rw [List.length_drop]
    omega
  · cases h
theorem vec_stop_lt {k : Int} {l l' : List UInt8} (h : vecAt k l = .stop l') : l'.length < l.length := by
  unfold vecAt at h
  split at h
  · cases h
  split at h
  · injection h with h
    subst h
    rw [List.length_drop]
    omega
  split at h
  · cases h
  split at h
  · cases h
  split at h
  · cases h
  · cases h

/-- What a part says behind its first two bytes, and what stands behind it. -/
def partLoop (k : Int) (silent : Bool) (p : Msg) (l : List UInt8) : Option (Msg × List UInt8) :=
  match _h : vecAt k l with
  | .bad => none
  | .stop l1 => if silent then none else some (p, l1)
  | .row v l2 => if joinsP p v then partLoop k false (p.app v) l2 else none
termination_by l.length
decreasing_by exact vec_row_lt _h
theorem part_bad {k : Int} {l : List UInt8} (h : vecAt k l = .bad) (s : Bool) (p : Msg) : partLoop k s p l = none := by
  rw [partLoop]; split
  · rfl
  · rename_i e; rw [h] at e; cases e
  · rename_i e; rw [h] at e; cases e
theorem part_stop {k : Int} {l l1 : List UInt8} (h : vecAt k l = .stop l1) (s : Bool) (p : Msg) : partLoop k s p l = if s then none else some (p, l1) := by
  rw [partLoop]; split
  · rename_i e; rw [h] at e; cases e
  · rename_i e; rw [h] at e; injection e with e; rw [e]
  · rename_i e; rw [h] at e; cases e
theorem part_row {k : Int} {l l2 : List UInt8} {v : Msg} (h : vecAt k l = .row v l2) (s : Bool) (p : Msg) : partLoop k s p l = if joinsP p v then partLoop k false (p.app v) l2 else none := by
  rw [partLoop]; split
  · rename_i e; rw [h] at e; cases e
  · rename_i e; rw [h] at e; cases e
  · rename_i e; rw [h] at e; injection e with e1 e2; rw [e1, e2]

/-- What a part does to a message: it grows; and what can be stays so; less is left. -/
theorem part_some {k : Int} : ∀ (N : Nat) {s : Bool} {p q : Msg} {l l' : List UInt8}, l.length ≤ N → partLoop k s p l = some (q, l') → l'.length < l.length ∧ (∃ x, q = p.app x) ∧ (p.Good → q.Good) ∧ ∀ t, partLoop k s p (l ++ t) = some (q, l' ++ t) := by
  intro N
  induction N with
  | zero =>
    intro s p q l l' hl h
    have : l = [] := List.eq_nil_of_length_eq_zero (by omega)
    subst this
    rw [part_bad (by simp [vecAt])] at h
    cases h
  | succ N ih =>
    intro s p q l l' hl h
    cases hv : vecAt k l with
    | bad => rw [part_bad hv] at h; cases h
    | stop l1 =>
      rw [part_stop hv] at h
      have hlt := vec_stop_lt hv
      cases s
      · simp only [Bool.false_eq_true, ite_false, Option.some.injEq, Prod.mk.injEq] at h
        obtain ⟨rfl, rfl⟩ := h
        refine ⟨hlt, ⟨Msg.none, (Msg.app_none _).symm⟩, id, fun t => ?_⟩
        have h2 : ¬ l.length < 2 := by intro h; simp [vecAt, h] at hv
        have hv' : vecAt k (l ++ t) = .stop (l1 ++ t) := by
          unfold vecAt at hv ⊢
          rw [if_neg h2] at hv
          rw [if_neg (by rw [List.length_append]; omega), List.take_append_of_le_length (by omega), List.drop_append_of_le_length (by omega)]
          split at hv
          · rename_i h0
            rw [if_pos h0]
            injection hv with hv
            rw [hv]
          split at hv
          · cases hv
          split at hv
          · cases hv
          split at hv
          · cases hv
          · cases hv
        rw [part_stop hv']
        simp
      · simp at h
    | row v l2 =>
      rw [part_row hv] at h
      have hlt := vec_row_lt hv
      split at h
      · rename_i hj
        obtain ⟨h1, ⟨x, hx⟩, h3, h4⟩ := ih (by omega) h
        refine ⟨by omega, ⟨v.app x, by rw [hx, Msg.app_assoc]⟩, fun hp => h3 (good_joins hp hj), fun t => ?_⟩
        have hv' : vecAt k (l ++ t) = .row v (l2 ++ t) := by
          have h2 : ¬ l.length < 2 := by intro h; simp [vecAt, h] at hv
          unfold vecAt at hv ⊢
          rw [if_neg h2] at hv
          rw [if_neg (by rw [List.length_append]; omega), List.take_append_of_le_length (by omega)]
          split at hv
          · cases hv
          rename_i c0
          rw [if_neg c0]
          split at hv
          · cases hv
          rename_i c1
          rw [if_neg c1]
          split at hv
          · cases hv
          rename_i c2
          rw [List.length_drop] at c2
          rw [if_neg (by rw [List.length_drop, List.length_append]; omega)]
          generalize num (l.take 2) = m at *
          have e1 : ((l ++ t).drop 2).take (vs k) = (l.drop 2).take (vs k) := by
            rw [List.drop_append_of_le_length (by omega), List.take_append_of_le_length (by rw [List.length_drop]; omega)]
          have e2 : ((l ++ t).drop (2 + vs k)).take 4 = (l.drop (2 + vs k)).take 4 := by
            rw [List.drop_append_of_le_length (by omega), List.take_append_of_le_length (by rw [List.length_drop]; omega)]
          have e3 : ((l ++ t).drop (2 + vs k + 4)).take (sz (m % 8192) 3) = (l.drop (2 + vs k + 4)).take (sz (m % 8192) 3) := by
            rw [List.drop_append_of_le_length (by omega), List.take_append_of_le_length (by rw [List.length_drop]; omega)]
          have e4 : (l ++ t).drop (2 + vs k + 4 + sz (m % 8192) 3) = l.drop (2 + vs k + 4 + sz (m % 8192) 3) ++ t := List.drop_append_of_le_length (by omega)
          rw [e1, e2, e3, e4]
          split at hv
          · rename_i c3
            rw [if_pos c3]
            injection hv with hv1 hv2
            rw [hv1, hv2]
          · cases hv
        rw [part_row hv', if_pos hj]
        exact h4 t
      · cases h

/-- What the parts say, and whether something is wrong. -/
def msgLoop (p : Msg) (l : List UInt8) : Msg × Bool :=
  if l.length < 2 then (p, true)
  else if num (l.take 1) = 0 ∧ num ((l.drop 1).take 1) = 0 then (p, decide (l.drop 2 ≠ []))
  else if vs (num (l.take 1)) = 0 ∨ vs (num (l.take 1)) ≠ num ((l.drop 1).take 1) then (p, true)
  else match _h : partLoop (num (l.take 1)) true p (l.drop 2) with
    | none => (p, true)
    | some (q, l') => msgLoop q l'
termination_by l.length
decreasing_by
  have := (part_some _ (Nat.le_refl _) _h).1
  rw [List.length_drop] at this
  omega
theorem msg_short {l : List UInt8} (h : l.length < 2) (p : Msg) : msgLoop p l = (p, true) := by rw [msgLoop, if_pos h]
theorem msg_end {l : List UInt8} (h : ¬ l.length < 2) (h0 : num (l.take 1) = 0 ∧ num ((l.drop 1).take 1) = 0) (p : Msg) : msgLoop p l = (p, decide (l.drop 2 ≠ [])) := by rw [msgLoop, if_neg h, if_pos h0]
theorem msg_odd {l : List UInt8} (h : ¬ l.length < 2) (h0 : ¬ (num (l.take 1) = 0 ∧ num ((l.drop 1).take 1) = 0)) (h1 : vs (num (l.take 1)) = 0 ∨ vs (num (l.take 1)) ≠ num ((l.drop 1).take 1)) (p : Msg) : msgLoop p l = (p, true) := by
  rw [msgLoop, if_neg h, if_neg h0, if_pos h1]
theorem msg_part {l : List UInt8} (h : ¬ l.length < 2) (h0 : ¬ (num (l.take 1) = 0 ∧ num ((l.drop 1).take 1) = 0)) (h1 : ¬ (vs (num (l.take 1)) = 0 ∨ vs (num (l.take 1)) ≠ num ((l.drop 1).take 1))) (p : Msg) :
    msgLoop p l = match partLoop (num (l.take 1)) true p (l.drop 2) with
      | none => (p, true)
      | some (q, l') => msgLoop q l' := by
  rw [msgLoop, if_neg h, if_neg h0, if_neg h1]
  split <;> simp_all

theorem msg_more : ∀ (N : Nat) {p : Msg} {l : List UInt8}, l.length ≤ N → (∃ x, (msgLoop p l).1 = p.app x) ∧ (p.Good → (msgLoop p l).1.Good) := by
  intro N
  induction N with
  | zero =>
    intro p l hl
    rw [msg_short (by omega)]
    exact ⟨⟨Msg.none, (Msg.app_none _).symm⟩, id⟩
  | succ N ih =>
    intro p l hl
    by_cases h : l.length < 2
    · rw [msg_short h]
      exact ⟨⟨Msg.none, (Msg.app_none _).symm⟩, id⟩
    · by_cases h0 : num (l.take 1) = 0 ∧ num ((l.drop 1).take 1) = 0
      · rw [msg_end h h0]
        exact ⟨⟨Msg.none, (Msg.app_none _).symm⟩, id⟩
      · by_cases h1 : vs (num (l.take 1)) = 0 ∨ vs (num (l.take 1)) ≠ num ((l.drop 1).take 1)
        · rw [msg_odd h h0 h1]
          exact ⟨⟨Msg.none, (Msg.app_none _).symm⟩, id⟩
        · rw [msg_part h h0 h1]
          cases hp : partLoop (num (l.take 1)) true p (l.drop 2) with
          | none => exact ⟨⟨Msg.none, (Msg.app_none _).symm⟩, id⟩
          | some r =>
            obtain ⟨q, l'⟩ := r
            obtain ⟨g1, ⟨x, hx⟩, g3, g4⟩ := part_some _ (Nat.le_refl _) hp
            rw [List.length_drop] at g1
            obtain ⟨⟨y, hy⟩, i2⟩ := ih (p := q) (l := l') (by omega)
            exact ⟨⟨x.app y, by show (msgLoop q l').1 = _; rw [hy, hx, Msg.app_assoc]⟩, fun h => i2 (g3 h)⟩
theorem msg_grow (p : Msg) (l : List UInt8) : ∃ x, (msgLoop p l).1 = p.app x := (msg_more _ (Nat.le_refl _)).1
/-- What can be stays so, whatever is read. -/
theorem msg_good {p : Msg} (h : p.Good) (l : List UInt8) : (msgLoop p l).1.Good := (msg_more _ (Nat.le_refl _)).2 h

/-- A text that goes on says what its beginning says, and maybe more; if its beginning is whole, something is wrong. -/
theorem msg_cut : ∀ (N : Nat) {p : Msg} {l : List UInt8}, l.length ≤ N → ∀ t, (∃ x, (msgLoop p (l ++ t)).1 = (msgLoop p l).1.app x) ∧ ((msgLoop p l).2 = false → t ≠ [] → msgLoop p (l ++ t) = ((msgLoop p l).1, true)) := by
  intro N
  induction N with
  | zero =>
    intro p l hl t
    rw [msg_short (l := l) (by omega)]
    exact ⟨msg_grow _ _, by simp⟩
  | succ N ih =>
    intro p l hl t
    by_cases h : l.length < 2
    · rw [msg_short h]
      exact ⟨msg_grow _ _, by simp⟩
    · have h' : ¬ (l ++ t).length < 2 := by rw [List.length_append]; omega
      have e1 : (l ++ t).take 1 = l.take 1 := List.take_append_of_le_length (by omega)
      have e2 : ((l ++ t).drop 1).take 1 = (l.drop 1).take 1 := by rw [List.drop_append_of_le_length (by omega), List.take_append_of_le_length (by rw [List.length_drop]; omega)]
      have e3 : (l ++ t).drop 2 = l.drop 2 ++ t := List.drop_append_of_le_length (by omega)
      by_cases h0 : num (l.take 1) = 0 ∧ num ((l.drop 1).take 1) = 0
      · rw [msg_end h h0, msg_end h' (by rw [e1, e2]; exact h0), e3]
        refine ⟨⟨Msg.none, (Msg.app_none _).symm⟩, fun _ ht => ?_⟩
        simp [ht]
      · by_cases h1 : vs (num (l.take 1)) = 0 ∨ vs (num (l.take 1)) ≠ num ((l.drop 1).take 1)
        · rw [msg_odd h h0 h1]
          exact ⟨msg_grow _ _, by simp⟩
        · cases hp : partLoop (num (l.take 1)) true p (l.drop 2) with
          | none =>
            have : msgLoop p l = (p, true) := by rw [msg_part h h0 h1, hp]
            rw [this]
            exact ⟨msg_grow _ _, by simp⟩
          | some r =>
            obtain ⟨q, l'⟩ := r
            obtain ⟨g1, _, _, g4⟩ := part_some _ (Nat.le_refl _) hp
            rw [List.length_drop] at g1
            have a1 : msgLoop p l = msgLoop q l' := by rw [msg_part h h0 h1, hp]
            have a2 : msgLoop p (l ++ t) = msgLoop q (l' ++ t) := by
              rw [msg_part h' (by rw [e1, e2]; exact h0) (by rw [e1, e2]; exact h1), e1, e3, g4 t]
            rw [a1, a2]
            exact ih (by omega) t
end Go.Proofs.Ythghedlgeceepaa
