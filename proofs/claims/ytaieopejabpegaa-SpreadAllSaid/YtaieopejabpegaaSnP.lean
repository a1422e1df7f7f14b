/- What is heard at some ports is said at the others (layer 17), as plain data. No program's call, no condition. -/
namespace Go.Proofs.Ytaieopejabpegaa
set_option maxRecDepth 100000

structure At where
  t : Int
  v : Int
deriving DecidableEq
def at0 : At := ⟨0, 0⟩
instance : Inhabited At := ⟨at0⟩
structure Vw where
  op : Bool
  xs : List At
  bs : List Int
def vw0 : Vw := ⟨false, [], []⟩
instance : Inhabited Vw := ⟨vw0⟩
/-- The first place of an attribute. -/
def placeA (a : At) : List At → Option Nat
  | [] => none
  | x :: l => if x = a then some 0 else (placeA a l).map (· + 1)
theorem placeA_some {a : At} : ∀ {l : List At} {i : Nat}, placeA a l = some i → i < l.length ∧ l.getD i at0 = a ∧ ∀ k, k < i → l.getD k at0 ≠ a
  | [], i, h => by cases h
  | x :: l, i, h => by
    unfold placeA at h
    split at h
    · rename_i c
      injection h with h
      subst h
      exact ⟨by simp, by simpa using c, fun k hk => absurd hk (Nat.not_lt_zero k)⟩
    · rename_i c
      cases hp : placeA a l with
      | none => rw [hp] at h; cases h
      | some i' =>
        rw [hp] at h
        have h : some (i' + 1) = some i := h
        injection h with h
        subst h
        obtain ⟨h1, h2, h3⟩ := placeA_some hp
        refine ⟨by simp only [List.length_cons]; omega, by simpa using h2, fun k hk => ?_⟩
        cases k with
        | zero => simpa using c
        | succ k => simpa using h3 k (by omega)
theorem placeA_none {a : At} : ∀ {l : List At}, placeA a l = none → ∀ k, k < l.length → l.getD k at0 ≠ a
  | [], _, k, hk => absurd hk (Nat.not_lt_zero k)
  | x :: l, h, k, hk => by
    unfold placeA at h
    split at h
    · cases h
    · rename_i c
      cases k with
      | zero => simpa using c
      | succ k =>
        cases hp : placeA a l with
        | none => simpa using placeA_none hp k (by simpa using hk)
        | some i' => rw [hp] at h; cases h
/-- A place of an attribute that has none before it is the first. -/
theorem placeA_at {a : At} {l : List At} {i : Nat} (hi : i < l.length) (h : l.getD i at0 = a) (hb : ∀ k, k < i → l.getD k at0 ≠ a) : placeA a l = some i := by
  cases hp : placeA a l with
  | none => exact absurd h (placeA_none hp i hi)
  | some j =>
    obtain ⟨h1, h2, h3⟩ := placeA_some hp
    by_cases e : j = i
    · rw [e]
    · rcases Nat.lt_or_gt_of_ne e with c | c
      · exact absurd h2 (hb j c)
      · exact absurd h (h3 i c)
theorem placeA_no {a : At} {l : List At} (h : ∀ k, k < l.length → l.getD k at0 ≠ a) : placeA a l = none := by
  cases hp : placeA a l with
  | none => rfl
  | some j =>
    obtain ⟨h1, h2, _⟩ := placeA_some hp
    exact absurd h2 (h j h1)
def bornO (v : Vw) (a : At) : Int := match placeA a v.xs with
  | some i => if i < v.bs.length then v.bs.getD i 0 else -1
  | none => -1
def bornV (v : Vw) (a : At) : Int := if v.op = true then bornO v a else -1
def hasV (v : Vw) (a : At) : Bool := decide (a ∈ v.xs)
/-- The best by the first j ports. -/
def bestTo (l : List Vw) (a : At) (own : Int) (port : Nat) : Nat → Int
  | 0 => max own (-1)
  | j + 1 => if j ≠ port ∧ bestTo l a own port j < bornV (l.getD j vw0) a then bornV (l.getD j vw0) a else bestTo l a own port j
def wantV (l : List Vw) (a : At) (own : Int) (port : Nat) : Int := if (l.getD port vw0).op = true then bestTo l a own port l.length else -1
def wantsL (l : List Vw) (a : At) (own : Int) : List Int := (List.range l.length).map (wantV l a own)
theorem wantsL_length (l : List Vw) (a : At) (own : Int) : (wantsL l a own).length = l.length := by simp [wantsL]
theorem wantsL_at (l : List Vw) (a : At) (own : Int) {i : Nat} (hi : i < l.length) : (wantsL l a own).getD i 0 = wantV l a own i := by
  unfold wantsL
  rw [List.getD_eq_getElem?_getD, List.getElem?_map, List.getElem?_range hi]
  rfl
theorem best_ge (l : List Vw) (a : At) (own : Int) (port j : Nat) : -1 ≤ bestTo l a own port j ∧ own ≤ bestTo l a own port j := by
  induction j with
  | zero => unfold bestTo; omega
  | succ j ih => unfold bestTo; split <;> omega
/-- Something is said if the bridge says it, or one of the others has it. -/
theorem best_said (l : List Vw) (a : At) (own : Int) (port j : Nat) : 0 ≤ bestTo l a own port j ↔ 0 ≤ own ∨ ∃ k, k < j ∧ k ≠ port ∧ 0 ≤ bornV (l.getD k vw0) a := by
  induction j with
  | zero =>
    unfold bestTo
    constructor
    · intro h; exact .inl (by omega)
    · rintro (h | ⟨k, hk, _⟩)
      · omega
      · exact absurd hk (Nat.not_lt_zero k)
  | succ j ih =>
    have hg := best_ge l a own port j
    unfold bestTo
    constructor
    · intro h
      split at h
      · rename_i c
        exact .inr ⟨j, by omega, c.1, h⟩
      · rcases ih.1 h with h | ⟨k, hk, h⟩
        · exact .inl h
        · exact .inr ⟨k, by omega, h⟩
    · intro h
      split
      · omega
      · rename_i c
        rcases h with h | ⟨k, hk, hp, hb⟩
        · exact ih.2 (.inl h)
        · by_cases e : k = j
          · subst e
            by_cases c2 : bestTo l a own port k < bornV (l.getD k vw0) a
            · exact absurd ⟨hp, c2⟩ c
            · omega
          · exact ih.2 (.inr ⟨k, by omega, hp, hb⟩)
/-- How many of the first j ports have it, and the last of these. -/
def cntS (l : List Vw) (a : At) : Nat → Nat
  | 0 => 0
  | j + 1 => if 0 ≤ bornV (l.getD j vw0) a then cntS l a j + 1 else cntS l a j
def lastS (l : List Vw) (a : At) : Nat → Int
  | 0 => -1
  | j + 1 => if 0 ≤ bornV (l.getD j vw0) a then j else lastS l a j
theorem cntS_le (l : List Vw) (a : At) (j : Nat) : cntS l a j ≤ j := by
  induction j with
  | zero => exact Nat.le_refl _
  | succ j ih => unfold cntS; split <;> omega
theorem lastS_in (l : List Vw) (a : At) (j : Nat) : -1 ≤ lastS l a j ∧ lastS l a j < j ∧ (cntS l a j = 0 ↔ lastS l a j = -1) := by
  induction j with
  | zero => exact ⟨by unfold lastS; omega, by unfold lastS; omega, by unfold lastS cntS; simp⟩
  | succ j ih =>
    unfold lastS cntS
    split
    · exact ⟨by omega, by omega, by omega⟩
    · exact ⟨ih.1, by omega, ih.2.2⟩
theorem cnt_one (l : List Vw) (a : At) (j : Nat) : (cntS l a j = 0 ↔ ∀ k, k < j → ¬ 0 ≤ bornV (l.getD k vw0) a) ∧ (cntS l a j = 1 → ∀ k, k < j → 0 ≤ bornV (l.getD k vw0) a → lastS l a j = k) := by
  induction j with
  | zero => exact ⟨⟨fun _ k hk => absurd hk (Nat.not_lt_zero k), fun _ => rfl⟩, fun _ k hk => absurd hk (Nat.not_lt_zero k)⟩
  | succ j ih =>
    unfold lastS cntS
    split
    · rename_i c
      refine ⟨⟨fun h => by omega, fun h => absurd c (h j (by omega))⟩, fun h k hk hb => ?_⟩
      by_cases e : k = j
      · subst e; rfl
      · exact absurd hb (ih.1.1 (by omega) k (by omega))
    · rename_i c
      refine ⟨⟨fun h k hk => ?_, fun h => ih.1.2 fun k hk => h k (by omega)⟩, fun h k hk hb => ?_⟩
      · by_cases e : k = j
        · subst e; exact c
        · exact ih.1.1 h k (by omega)
      · by_cases e : k = j
        · subst e; exact absurd hb c
        · exact ih.2 h k (by omega) hb
/-- Two have it: one of these isn't i. -/
theorem cnt_two (l : List Vw) (a : At) (i j : Nat) (h : 2 ≤ cntS l a j) : ∃ k, k < j ∧ k ≠ i ∧ 0 ≤ bornV (l.getD k vw0) a := by
  induction j with
  | zero => unfold cntS at h; omega
  | succ j ih =>
    unfold cntS at h
    split at h
    · rename_i c
      by_cases e : j = i
      · subst e
        have h1 : ¬ cntS l a j = 0 := by omega
        rw [(cnt_one l a j).1] at h1
        have : ∃ k, k < j ∧ 0 ≤ bornV (l.getD k vw0) a := by
          refine Classical.byContradiction fun c2 => h1 fun k hk hb => c2 ⟨k, hk, hb⟩
        obtain ⟨k, hk, hb⟩ := this
        exact ⟨k, by omega, by omega, hb⟩
      · exact ⟨j, by omega, e, c⟩
    · obtain ⟨k, hk, h2⟩ := ih h
      exact ⟨k, by omega, h2⟩
/-- SpreadBack's content. -/
theorem back_plain (l : List Vw) (a : At) (own : Int) {i : Nat} (_hi : i < l.length) :
    0 ≤ wantV l a own i ↔ (l.getD i vw0).op = true ∧ (0 ≤ own ∨ 2 ≤ cntS l a l.length ∨ (cntS l a l.length = 1 ∧ ¬ (i : Int) = lastS l a l.length)) := by
  unfold wantV
  by_cases ho : (l.getD i vw0).op = true
  · rw [if_pos ho, best_said]
    refine ⟨fun h => ⟨ho, ?_⟩, fun h => ?_⟩
    · rcases h with h | ⟨k, hk, hne, hb⟩
      · exact .inl h
      · by_cases c2 : 2 ≤ cntS l a l.length
        · exact .inr (.inl c2)
        · have c0 : ¬ cntS l a l.length = 0 := fun c => absurd hb ((cnt_one l a l.length).1.1 c k hk)
          have c1 : cntS l a l.length = 1 := by omega
          have := (cnt_one l a l.length).2 c1 k hk hb
          exact .inr (.inr ⟨c1, by omega⟩)
    · rcases h.2 with h | h | ⟨h1, h2⟩
      · exact .inl h
      · exact .inr (cnt_two l a i l.length h)
      · have c0 : ¬ cntS l a l.length = 0 := by omega
        rw [(cnt_one l a l.length).1] at c0
        have : ∃ k, k < l.length ∧ 0 ≤ bornV (l.getD k vw0) a := by
          refine Classical.byContradiction fun c2 => c0 fun k hk hb => c2 ⟨k, hk, hb⟩
        obtain ⟨k, hk, hb⟩ := this
        have := (cnt_one l a l.length).2 h1 k hk hb
        exact .inr ⟨k, hk, by omega, hb⟩
  · rw [if_neg ho]
    exact ⟨fun h => absurd h (by omega), fun h => absurd h.1 ho⟩
/-- SpreadUp's content: one port's view turned to a later one. -/
def upV (v : Vw) (a : At) (born : Int) : Vw := ⟨v.op, [a], [max born (bornO v a)]⟩
theorem up_born (v : Vw) (a : At) (born : Int) : bornV v a ≤ bornV (upV v a born) a := by
  unfold bornV upV
  show (if v.op = true then _ else _) ≤ (if v.op = true then _ else _)
  split
  · have e : bornO ⟨v.op, [a], [max born (bornO v a)]⟩ a = max born (bornO v a) := by
      unfold bornO placeA
      rw [if_pos rfl]
      rfl
    rw [e]
    omega
  · exact Int.le_refl _
theorem set_at {l : List Vw} {at_ : Nat} (h : at_ < l.length) (x : Vw) (k : Nat) : (l.set at_ x).getD k vw0 = if k = at_ then x else l.getD k vw0 := by
  rw [List.getD_eq_getElem?_getD, List.getD_eq_getElem?_getD, List.getElem?_set]
  by_cases e : at_ = k
  · subst e
    rw [if_pos rfl, if_pos h, if_pos rfl]
    rfl
  · rw [if_neg e, if_neg (fun c => e c.symm)]
theorem up_best (l : List Vw) (a : At) (own : Int) {at_ : Nat} (h : at_ < l.length) (born : Int) (port j : Nat) :
    bestTo l a own port j ≤ bestTo (l.set at_ (upV (l.getD at_ vw0) a born)) a own port j ∧ (port = at_ → bestTo (l.set at_ (upV (l.getD at_ vw0) a born)) a own port j = bestTo l a own port j) := by
  induction j with
  | zero => exact ⟨Int.le_refl _, fun _ => rfl⟩
  | succ j ih =>
    unfold bestTo
    rw [set_at h]
    by_cases e : j = at_
    · subst e
      rw [if_pos rfl]
      have hb := up_born (l.getD j vw0) a born
      refine ⟨?_, fun e => ?_⟩
      · split <;> split <;> omega
      · subst e
        rw [if_neg (fun c => c.1 rfl), if_neg (fun c => c.1 rfl)]
        exact ih.2 rfl
    · rw [if_neg e]
      refine ⟨?_, fun e => ?_⟩
      · split <;> split <;> omega
      · rw [ih.2 e]
theorem up_plain (l : List Vw) (a : At) (own : Int) {at_ : Nat} (h : at_ < l.length) (born : Int) (i : Nat) :
    wantV l a own i ≤ wantV (l.set at_ (upV (l.getD at_ vw0) a born)) a own i ∧ (i = at_ → wantV (l.set at_ (upV (l.getD at_ vw0) a born)) a own i = wantV l a own i) := by
  have ho : ((l.set at_ (upV (l.getD at_ vw0) a born)).getD i vw0).op = (l.getD i vw0).op := by
    rw [set_at h]
    split
    · rename_i e; subst e; rfl
    · rfl
  unfold wantV
  rw [ho, List.length_set]
  have hb := up_best l a own h born i l.length
  split
  · exact hb
  · exact ⟨Int.le_refl _, fun _ => rfl⟩
/-- SpreadClosed's content: without a port that doesn't forward. -/
def cutV (l : List Vw) (at_ : Nat) : List Vw := l.take at_ ++ l.drop (at_ + 1)
theorem cut_length {l : List Vw} {at_ : Nat} (h : at_ < l.length) : (cutV l at_).length = l.length - 1 := by
  unfold cutV
  rw [List.length_append, List.length_take, List.length_drop]
  omega
theorem cut_at {l : List Vw} {at_ : Nat} (h : at_ < l.length) (k : Nat) : (cutV l at_).getD k vw0 = l.getD (if k < at_ then k else k + 1) vw0 := by
  unfold cutV
  rw [List.getD_eq_getElem?_getD, List.getD_eq_getElem?_getD, List.getElem?_append, List.length_take, Nat.min_eq_left (by omega)]
  split
  · rw [List.getElem?_take, if_pos (by assumption)]
  · rw [List.getElem?_drop]
    congr 2
    omega
theorem closed_born {v : Vw} (h : v.op = false) (a : At) : bornV v a = -1 := by unfold bornV; rw [if_neg (by rw [h]; decide)]
theorem cut_best {l : List Vw} {at_ : Nat} (h : at_ < l.length) (hc : (l.getD at_ vw0).op = false) (a : At) (own : Int) (i i' : Nat) (hi : i ≠ at_) (hi1 : i < at_ → i' = i) (hi2 : at_ < i → i' + 1 = i) (j : Nat) :
    bestTo (cutV l at_) a own i' j = bestTo l a own i (if j ≤ at_ then j else j + 1) := by
  induction j with
  | zero => rw [if_pos (Nat.zero_le _)]; rfl
  | succ j ih =>
    have hg := best_ge l a own i
    by_cases c1 : j + 1 ≤ at_
    · rw [show (if j + 1 ≤ at_ then j + 1 else j + 1 + 1) = j + 1 from if_pos c1]
      rw [show (if j ≤ at_ then j else j + 1) = j from if_pos (by omega)] at ih
      unfold bestTo
      rw [ih, cut_at h, show (if j < at_ then j else j + 1) = j from if_pos (by omega)]
      have : (j ≠ i') ↔ j ≠ i := by omega
      simp only [this]
    · rw [show (if j + 1 ≤ at_ then j + 1 else j + 1 + 1) = j + 1 + 1 from if_neg c1]
      have e2 : bestTo l a own i (j + 1) = bestTo (cutV l at_) a own i' j := by
        rw [ih]
        by_cases c2 : j ≤ at_
        · have : j = at_ := by omega
          subst this
          rw [if_pos (Nat.le_refl _)]
          show (if j ≠ i ∧ bestTo l a own i j < bornV (l.getD j vw0) a then _ else _) = _
          rw [closed_born hc, if_neg (by have := (hg j).1; omega)]
        · rw [if_neg c2]
      show (if _ then _ else _) = (if _ then _ else _)
      rw [cut_at h, show (if j < at_ then j else j + 1) = j + 1 from if_neg (by omega), e2]
      have : (j ≠ i') ↔ j + 1 ≠ i := by omega
      simp only [this]
theorem closed_plain {l : List Vw} {at_ : Nat} (h : at_ < l.length) (hc : (l.getD at_ vw0).op = false) (a : At) (own : Int) :
    wantV l a own at_ = -1 ∧ ∀ k, k < l.length - 1 → wantV (cutV l at_) a own k = wantV l a own (if k < at_ then k else k + 1) := by
  refine ⟨by unfold wantV; rw [hc]; rfl, fun k hk => ?_⟩
  unfold wantV
  rw [cut_at h, cut_length h]
  have hb := cut_best h hc a own (if k < at_ then k else k + 1) k (by split <;> omega) (by split <;> omega) (by split <;> omega) (l.length - 1)
  rw [hb]
  by_cases c : l.length - 1 ≤ at_
  · rw [if_pos c]
    have e3 : l.length = (l.length - 1) + 1 := by omega
    have e4 : at_ = l.length - 1 := by omega
    have hg := best_ge l a own (if k < at_ then k else k + 1) (l.length - 1)
    have : bestTo l a own (if k < at_ then k else k + 1) l.length = bestTo l a own (if k < at_ then k else k + 1) (l.length - 1) := by
      conv => lhs; rw [e3]
      show (if _ then _ else _) = _
      rw [← e4, closed_born hc, if_neg (by rw [e4]; rw [e4] at hg; omega)]
    rw [this]
  · rw [if_neg c, show l.length - 1 + 1 = l.length by omega]
theorem wantsL_get (l : List Vw) (a : At) (own : Int) (i : Nat) : (wantsL l a own)[i]? = if i < l.length then some (wantV l a own i) else none := by
  unfold wantsL
  rw [List.getElem?_map]
  split
  · rename_i h; rw [List.getElem?_range h]; rfl
  · rename_i h; rw [List.getElem?_eq_none (by rw [List.length_range]; omega)]; rfl
theorem closed_list {l : List Vw} {k : Nat} (h : k < l.length) (hc : (l.getD k vw0).op = false) (a : At) (own : Int) :
    (wantsL l a own).take k ++ (wantsL l a own).drop (k + 1) = wantsL (cutV l k) a own := by
  refine List.ext_getElem? fun i => ?_
  rw [wantsL_get, cut_length h, List.getElem?_append, List.length_take, wantsL_length, Nat.min_eq_left (by omega), List.getElem?_take, List.getElem?_drop, wantsL_get, wantsL_get]
  by_cases hi : i < l.length - 1
  · rw [if_pos hi, (closed_plain h hc a own).2 i hi]
    by_cases c : i < k
    · rw [if_pos c, if_pos c, if_pos (by omega), if_pos c]
    · rw [if_neg c, if_pos (by omega), if_neg c, show k + 1 + (i - k) = i + 1 by omega]
  · rw [if_neg hi, if_neg (by omega), if_neg (by omega)]
end Go.Proofs.Ytaieopejabpegaa
