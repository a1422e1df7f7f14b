/- A table of places kept in order (layer 18), as plain data, and how it goes with the document's. No program's call, no condition. -/
import Derived.Test.YtnhnllkcnpbgoaaFbP
namespace Go.Proofs.Ytnhnllkcnpbgoaa
open Go.RowKit
set_option maxRecDepth 100000

/-- In order: by networks, then by addresses. -/
def ltK (x y : Pl) : Prop := x.v < y.v ∨ x.v = y.v ∧ x.m < y.m
instance (x y : Pl) : Decidable (ltK x y) := by unfold ltK; infer_instance
theorem ltK_trans {x y z : Pl} (h : ltK x y) (h' : ltK y z) : ltK x z := by unfold ltK at *; omega
def Srt (l : List Pl) : Prop := l.Pairwise ltK
/-- Laid into its place. -/
def insP (x : Pl) : List Pl → List Pl
  | [] => [x]
  | y :: l => if ltK y x then y :: insP x l else x :: y :: l
def putS (d : Dt) (x : Pl) : Dt × Int := match ixP x.v x.m d.l with
  | some i => (⟨d.l.set i x, d.f⟩, 0)
  | none => if 24 ≤ d.l.length then (if oldTo d.l d.l.length < 0 then (⟨d.l, wrap64 (d.f + 1)⟩, 6) else (⟨insP x (rmP d.l (oldTo d.l d.l.length).toNat), d.f⟩, 0)) else (⟨insP x d.l, d.f⟩, 0)
def learnS (d : Dt) (v m p now : Int) : Dt × Int :=
  if fineP v m p then (match ixP v m d.l with
    | some i => if (d.l.getD i pl0).st = true then (d, 0) else putS d ⟨v, m, p, now, false⟩
    | none => putS d ⟨v, m, p, now, false⟩) else (d, 1)
def fixS (d : Dt) (v m p : Int) : Dt × Int := if fineP v m p then putS d ⟨v, m, p, 0, true⟩ else (d, 1)
theorem getD_get {l : List Pl} {i : Nat} (h : i < l.length) : l.getD i pl0 = l[i] := by rw [List.getD_eq_getElem?_getD, List.getElem?_eq_getElem h]; rfl
theorem getD_mem {l : List Pl} {i : Nat} (h : i < l.length) : l.getD i pl0 ∈ l := by rw [getD_get h]; exact List.getElem_mem h
theorem mem_get {l : List Pl} {x : Pl} (h : x ∈ l) : ∃ i, i < l.length ∧ l.getD i pl0 = x := by
  obtain ⟨i, hi, e⟩ := List.mem_iff_getElem.1 h
  exact ⟨i, hi, (getD_get hi).trans e⟩
/-- No two of one key. -/
def Keys (l : List Pl) : Prop := (l.map fun x => (x.v, x.m)).Nodup
theorem Srt.keys {l : List Pl} (h : Srt l) : Keys l := by
  unfold Keys List.Nodup
  rw [List.pairwise_map]
  refine List.Pairwise.imp (fun {a b} hab e => ?_) h
  injection e with e1 e2
  unfold ltK at hab
  omega
theorem Keys.perm {l m : List Pl} (h : Keys l) (p : l.Perm m) : Keys m := (p.map _).nodup_iff.1 h
theorem Keys.one {l : List Pl} (h : Keys l) {x y : Pl} (hx : x ∈ l) (hy : y ∈ l) (e : x.v = y.v ∧ x.m = y.m) : x = y := by
  induction l with
  | nil => cases hx
  | cons z l ih =>
    unfold Keys at h
    rw [List.map_cons, List.nodup_cons] at h
    rcases List.mem_cons.1 hx with rfl | hx'
    · rcases List.mem_cons.1 hy with rfl | hy'
      · rfl
      · exact absurd (List.mem_map.2 ⟨y, hy', by rw [e.1, e.2]⟩) h.1
    · rcases List.mem_cons.1 hy with rfl | hy'
      · exact absurd (List.mem_map.2 ⟨x, hx', by rw [e.1, e.2]⟩) h.1
      · exact ih h.2 hx' hy'
theorem ixP_mem {v m : Int} {l : List Pl} : (∃ i, ixP v m l = some i) ↔ ∃ x, x ∈ l ∧ x.is v m := by
  constructor
  · rintro ⟨i, h⟩
    obtain ⟨h1, h2, _⟩ := ixP_some h
    exact ⟨_, getD_mem h1, h2⟩
  · rintro ⟨x, hx, h⟩
    cases hi : ixP v m l with
    | some i => exact ⟨i, rfl⟩
    | none =>
      obtain ⟨k, hk, e⟩ := mem_get hx
      exact absurd (e ▸ h) (ixP_none hi k hk)
theorem rm_perm {l : List Pl} {i : Nat} (h : i < l.length) : l.Perm (l.getD i pl0 :: rmP l i) := by
  have e : l = l.take i ++ (l[i] :: l.drop (i + 1)) := by
    conv => lhs; rw [← List.take_append_drop i l, List.drop_eq_getElem_cons h]
  unfold rmP
  rw [getD_get h]
  conv => lhs; rw [e]
  exact List.perm_middle
theorem set_perm {l : List Pl} {i : Nat} (h : i < l.length) (x : Pl) : (l.set i x).Perm (rmP l i ++ [x]) := by
  have e : l.set i x = l.take i ++ x :: l.drop (i + 1) := List.set_eq_take_append_cons_drop.trans (if_pos h)
  rw [e]
  unfold rmP
  exact List.perm_middle.trans (List.perm_append_singleton x _).symm
theorem ins_perm (x : Pl) (l : List Pl) : (insP x l).Perm (l ++ [x]) := by
  induction l with
  | nil => exact List.Perm.refl _
  | cons y l ih =>
    unfold insP
    split
    · exact ih.cons y
    · exact (List.perm_append_singleton x (y :: l)).symm
theorem ins_len (x : Pl) (l : List Pl) : (insP x l).length = l.length + 1 := by rw [(ins_perm x l).length_eq, List.length_append]; rfl
theorem ins_mem {x y : Pl} {l : List Pl} : y ∈ insP x l ↔ y = x ∨ y ∈ l := by
  rw [(ins_perm x l).mem_iff, List.mem_append, List.mem_singleton]
  exact or_comm
theorem ins_srt {x : Pl} {l : List Pl} (h : Srt l) (hn : ∀ y ∈ l, ¬ (y.v = x.v ∧ y.m = x.m)) : Srt (insP x l) := by
  induction l with
  | nil => exact List.pairwise_singleton _ _
  | cons y l ih =>
    obtain ⟨h1, h2⟩ := List.pairwise_cons.1 h
    have hny := hn y List.mem_cons_self
    unfold insP
    split
    · rename_i c
      refine List.pairwise_cons.2 ⟨fun z hz => ?_, ih h2 fun z hz => hn z (List.mem_cons_of_mem _ hz)⟩
      rcases ins_mem.1 hz with rfl | hz
      · exact c
      · exact h1 z hz
    · rename_i c
      have hxy : ltK x y := by unfold ltK at *; omega
      refine List.pairwise_cons.2 ⟨fun z hz => ?_, h⟩
      rcases List.mem_cons.1 hz with rfl | hz
      · exact hxy
      · exact ltK_trans hxy (h1 z hz)
theorem rm_srt {l : List Pl} (h : Srt l) (i : Nat) : Srt (rmP l i) := by
  refine List.Pairwise.sublist ?_ h
  unfold rmP
  conv => rhs; rw [← List.take_append_drop i l]
  refine List.Sublist.append (List.Sublist.refl _) ?_
  rw [← List.drop_drop]
  exact List.drop_sublist _ _
theorem set_srt {l : List Pl} (h : Srt l) {i : Nat} {x : Pl} (hi : i < l.length) (e : (l.getD i pl0).v = x.v ∧ (l.getD i pl0).m = x.m) : Srt (l.set i x) := by
  rw [getD_get hi] at e
  unfold Srt
  rw [List.pairwise_iff_getElem] at *
  intro a b ha hb hab
  rw [List.length_set] at ha hb
  have h0 := (List.pairwise_iff_getElem.1 h) a b ha hb hab
  rw [List.getElem_set, List.getElem_set]
  split
  · rename_i c
    subst c
    rw [if_neg (by omega)]
    unfold ltK at *
    omega
  · split
    · rename_i c
      subst c
      unfold ltK at *
      omega
    · exact h0
/-- The one that was seen first: least of all that aren't static. -/
theorem old_least {l : List Pl} (hk : Keys l) (k : Nat) (hkl : k ≤ l.length) : (oldTo l k < 0 ∧ ∀ j, j < k → (l.getD j pl0).st = true) ∨
    (0 ≤ oldTo l k ∧ (oldTo l k).toNat < k ∧ (l.getD (oldTo l k).toNat pl0).st = false ∧ ∀ j, j < k → (l.getD j pl0).st = false → j = (oldTo l k).toNat ∨ ltS (l.getD (oldTo l k).toNat pl0) (l.getD j pl0)) := by
  induction k with
  | zero => exact .inl ⟨by show (-1 : Int) < 0; omega, fun j hj => absurd hj (Nat.not_lt_zero j)⟩
  | succ k ih =>
    have ih := ih (by omega)
    have hne : ∀ j, j < k → ¬ ((l.getD j pl0).v = (l.getD k pl0).v ∧ (l.getD j pl0).m = (l.getD k pl0).m) := fun j hj e => by
      unfold Keys at hk
      have h1 := List.pairwise_iff_getElem.1 hk j k (by rw [List.length_map]; omega) (by rw [List.length_map]; omega) hj
      rw [List.getElem_map, List.getElem_map] at h1
      rw [getD_get (by omega), getD_get (by omega)] at e
      exact h1 (by rw [e.1, e.2])
    unfold oldTo
    by_cases hst : (l.getD k pl0).st = false
    · rcases ih with ⟨h1, h2⟩ | ⟨h0, h1, h2, h3⟩
      · rw [if_pos ⟨hst, .inl h1⟩]
        refine .inr ⟨by omega, by omega, by simpa using hst, fun j hj hjs => ?_⟩
        by_cases e : j = k
        · exact .inl (by omega)
        · rw [h2 j (by omega)] at hjs
          cases hjs
      · by_cases hlt : ltS (l.getD k pl0) (l.getD (oldTo l k).toNat pl0)
        · rw [if_pos ⟨hst, .inr hlt⟩]
          refine .inr ⟨by omega, by omega, by simpa using hst, fun j hj hjs => ?_⟩
          by_cases e : j = k
          · exact .inl (by omega)
          · rcases h3 j (by omega) hjs with h | h
            · subst h
              exact .inr (by simpa using hlt)
            · refine .inr ?_
              rw [show ((k : Int)).toNat = k from rfl]
              unfold ltS at *
              omega
        · rw [if_neg (by rintro ⟨_, c | c⟩; omega; exact hlt c)]
          refine .inr ⟨h0, by omega, h2, fun j hj hjs => ?_⟩
          by_cases e : j = k
          · subst e
            refine .inr ?_
            have := hne (oldTo l j).toNat h1
            unfold ltS at *
            omega
          · exact h3 j (by omega) hjs
    · rw [if_neg (fun c => hst c.1)]
      rcases ih with ⟨h1, h2⟩ | ⟨h0, h1, h2, h3⟩
      · refine .inl ⟨h1, fun j hj => ?_⟩
        by_cases e : j = k
        · subst e; simpa using hst
        · exact h2 j (by omega)
      · refine .inr ⟨h0, by omega, h2, fun j hj hjs => ?_⟩
        by_cases e : j = k
        · subst e; exact absurd hjs hst
        · exact h3 j (by omega) hjs
/-- Rows of the same places have the same oldest. -/
theorem old_same {l m : List Pl} (hk : Keys l) (p : l.Perm m) : (oldTo l l.length < 0 ↔ oldTo m m.length < 0) ∧ (0 ≤ oldTo l l.length → l.getD (oldTo l l.length).toNat pl0 = m.getD (oldTo m m.length).toNat pl0) := by
  have hl := old_least hk l.length (Nat.le_refl _)
  have hm := old_least (hk.perm p) m.length (Nat.le_refl _)
  rcases hl with ⟨l1, l2⟩ | ⟨l0, l1, l2, l3⟩
  · rcases hm with ⟨m1, m2⟩ | ⟨m0, m1, m2, m3⟩
    · exact ⟨⟨fun _ => m1, fun _ => l1⟩, fun h => by omega⟩
    · obtain ⟨j, hj, e⟩ := mem_get (p.mem_iff.2 (getD_mem m1))
      have := l2 j hj
      rw [e, m2] at this
      cases this
  · rcases hm with ⟨m1, m2⟩ | ⟨m0, m1, m2, m3⟩
    · obtain ⟨j, hj, e⟩ := mem_get (p.mem_iff.1 (getD_mem l1))
      have := m2 j hj
      rw [e, l2] at this
      cases this
    · refine ⟨⟨fun h => by omega, fun h => by omega⟩, fun _ => ?_⟩
      obtain ⟨j, hj, e⟩ := mem_get (p.mem_iff.2 (getD_mem m1))
      obtain ⟨i, hi, e'⟩ := mem_get (p.mem_iff.1 (getD_mem l1))
      rcases l3 j hj (by rw [e]; exact m2) with h | h
      · subst h; exact e
      · rw [e] at h
        rcases m3 i hi (by rw [e']; exact l2) with h' | h'
        · subst h'; exact e'.symm
        · rw [e'] at h'
          unfold ltS at *
          omega
/-- A table in order and one in none hold the same places. -/
structure Rel (s d : Dt) : Prop where
  srt : Srt s.l
  perm : s.l.Perm d.l
  f : s.f = d.f
theorem Rel.keys {s d : Dt} (h : Rel s d) : Keys d.l := h.srt.keys.perm h.perm
theorem Rel.ix {s d : Dt} (h : Rel s d) (v m : Int) : (ixP v m s.l = none ∧ ixP v m d.l = none) ∨ ∃ i j, ixP v m s.l = some i ∧ ixP v m d.l = some j ∧ s.l.getD i pl0 = d.l.getD j pl0 := by
  cases hs : ixP v m s.l with
  | none =>
    cases hd : ixP v m d.l with
    | none => exact .inl ⟨rfl, rfl⟩
    | some j =>
      obtain ⟨x, hx, hi⟩ := ixP_mem.1 ⟨j, hd⟩
      obtain ⟨i, hi⟩ := ixP_mem.2 ⟨x, h.perm.mem_iff.2 hx, hi⟩
      rw [hs] at hi
      cases hi
  | some i =>
    cases hd : ixP v m d.l with
    | none =>
      obtain ⟨x, hx, hi⟩ := ixP_mem.1 ⟨i, hs⟩
      obtain ⟨i, hi⟩ := ixP_mem.2 ⟨x, h.perm.mem_iff.1 hx, hi⟩
      rw [hd] at hi
      cases hi
    | some j =>
      obtain ⟨s1, s2, _⟩ := ixP_some hs
      obtain ⟨d1, d2, _⟩ := ixP_some hd
      exact .inr ⟨i, j, rfl, rfl, h.srt.keys.one (getD_mem s1) (h.perm.mem_iff.2 (getD_mem d1)) ⟨s2.1.trans d2.1.symm, s2.2.trans d2.2.symm⟩⟩
theorem Rel.rm {s d : Dt} (h : Rel s d) {i j : Nat} (hi : i < s.l.length) (hj : j < d.l.length) (e : s.l.getD i pl0 = d.l.getD j pl0) : (rmP s.l i).Perm (rmP d.l j) := by
  have h1 := (rm_perm hi).symm.trans (h.perm.trans (rm_perm hj))
  rw [e] at h1
  exact List.Perm.cons_inv h1
theorem Rel.put {s d : Dt} (h : Rel s d) (x : Pl) : Rel (putS s x).1 (putD d x).1 ∧ (putS s x).2 = (putD d x).2 := by
  have hlen := h.perm.length_eq
  unfold putS putD
  rcases h.ix x.v x.m with ⟨hs, hd⟩ | ⟨i, j, hs, hd, e⟩
  · rw [hs, hd]
    have hno : ∀ y ∈ s.l, ¬ (y.v = x.v ∧ y.m = x.m) := fun y hy c => by
      obtain ⟨k, hk, e⟩ := mem_get hy
      exact ixP_none hs k hk (by rw [e]; exact c)
    simp only
    rw [hlen]
    by_cases c24 : 24 ≤ d.l.length
    · rw [if_pos c24, if_pos c24]
      obtain ⟨ho, hoe⟩ := old_same h.srt.keys h.perm
      rw [hlen] at ho hoe
      by_cases c : oldTo d.l d.l.length < 0
      · rw [if_pos c, if_pos (ho.2 c)]
        exact ⟨⟨h.srt, h.perm, by show wrap64 (s.f + 1) = _; rw [h.f]⟩, rfl⟩
      · have c' : ¬ oldTo s.l d.l.length < 0 := fun q => c (ho.1 q)
        rw [if_neg c, if_neg c']
        have hi := (old_in s.l d.l.length).2.1
        have hj := (old_in d.l d.l.length).2.1
        have hp := h.rm (by omega) (by omega) (hoe (by omega))
        refine ⟨⟨ins_srt (rm_srt h.srt _) fun y hy => hno y ?_, (ins_perm x _).trans (hp.append_right _), h.f⟩, rfl⟩
        have hm := (rm_perm (l := s.l) (i := (oldTo s.l d.l.length).toNat) (by omega)).mem_iff (a := y)
        exact hm.2 (List.mem_cons_of_mem _ hy)
    · rw [if_neg c24, if_neg c24]
      exact ⟨⟨ins_srt h.srt hno, (ins_perm x _).trans (h.perm.append_right _), h.f⟩, rfl⟩
  · rw [hs, hd]
    obtain ⟨s1, s2, _⟩ := ixP_some hs
    obtain ⟨d1, d2, _⟩ := ixP_some hd
    exact ⟨⟨set_srt h.srt s1 s2, (set_perm s1 x).trans ((h.rm s1 d1 e).append_right _), h.f⟩, rfl⟩
theorem Rel.learn {s d : Dt} (h : Rel s d) (v m p now : Int) : Rel (learnS s v m p now).1 (learnD d v m p now).1 ∧ (learnS s v m p now).2 = (learnD d v m p now).2 := by
  unfold learnS learnD
  by_cases c : fineP v m p
  · rw [if_pos c, if_pos c]
    rcases h.ix v m with ⟨hs, hd⟩ | ⟨i, j, hs, hd, e⟩
    · rw [hs, hd]
      exact h.put _
    · rw [hs, hd]
      simp only
      rw [e]
      split
      · exact ⟨h, rfl⟩
      · exact h.put _
  · rw [if_neg c, if_neg c]
    exact ⟨h, rfl⟩
theorem Rel.fix {s d : Dt} (h : Rel s d) (v m p : Int) : Rel (fixS s v m p).1 (fixD d v m p).1 ∧ (fixS s v m p).2 = (fixD d v m p).2 := by
  unfold fixS fixD
  by_cases c : fineP v m p
  · rw [if_pos c, if_pos c]
    exact h.put _
  · rw [if_neg c, if_neg c]
    exact ⟨h, rfl⟩
theorem Rel.drop {s d : Dt} (h : Rel s d) (v m : Int) : Rel (dropD s v m).1 (dropD d v m).1 ∧ (dropD s v m).2 = (dropD d v m).2 := by
  unfold dropD
  rcases h.ix v m with ⟨hs, hd⟩ | ⟨i, j, hs, hd, e⟩
  · rw [hs, hd]
    exact ⟨h, rfl⟩
  · rw [hs, hd]
    exact ⟨⟨rm_srt h.srt i, h.rm (ixP_some hs).1 (ixP_some hd).1 e, h.f⟩, rfl⟩
theorem Rel.keep {s d : Dt} (h : Rel s d) (kind n : Int) : Rel (keepD s kind n) (keepD d kind n) :=
  ⟨List.Pairwise.filter _ h.srt, h.perm.filter _, h.f⟩
/-- Where an address is. -/
def findS (l : List Pl) (v m : Int) : Int := match ixP v m l with
  | some i => (l.getD i pl0).p
  | none => -1
theorem Rel.find {s d : Dt} (h : Rel s d) (v m : Int) : findS s.l v m = findS d.l v m := by
  unfold findS
  rcases h.ix v m with ⟨hs, hd⟩ | ⟨i, j, hs, hd, e⟩
  · rw [hs, hd]
  · rw [hs, hd]
    simp only
    rw [e]
end Go.Proofs.Ytnhnllkcnpbgoaa
