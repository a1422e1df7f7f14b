/- Which states are come to: by going over all cells again and again, and by a list that grows. Plain; no condition. -/
import Derived.Test.YtkdnngcmiggoeaaJtab
namespace Go.Proofs.Ytkdnngcmiggoeaa
set_option maxRecDepth 100000

def edgeT (t : Tb) (a b : Nat) : Prop := a < t.length ∧ b < t.length ∧ ∃ c ∈ t.getD a [], c.1 = (b : Int)
inductive Rch (t : Tb) (s : Nat) : Nat → Prop
  | here : s < t.length → Rch t s s
  | step {a b : Nat} : Rch t s a → edgeT t a b → Rch t s b
theorem Rch.lt {t : Tb} {s b : Nat} (h : Rch t s b) : b < t.length := by
  cases h with
  | here h => exact h
  | step _ h => exact h.2.1
/-- One cell of a row, one row, all rows: what is set. -/
def swC (n : Nat) (a : Nat) (S : List Bool) (c : Ce) : List Bool := if S.getD a false = true ∧ 0 ≤ c.1 ∧ c.1 < n then S.set c.1.toNat true else S
def swR (n : Nat) (a : Nat) (S : List Bool) (r : List Ce) : List Bool := r.foldl (swC n a) S
def swT (t : Tb) (S : List Bool) (k : Nat) : List Bool := (List.range k).foldl (fun S a => swR t.length a S (t.getD a [])) S
def swK (t : Tb) (S : List Bool) : Nat → List Bool
  | 0 => S
  | k + 1 => swT t (swK t S k) t.length
def start (n s : Nat) : List Bool := (List.replicate n false).set s true
theorem swR_append (n a : Nat) (S : List Bool) (r1 r2 : List Ce) : swR n a S (r1 ++ r2) = swR n a (swR n a S r1) r2 := List.foldl_append
theorem swT_succ (t : Tb) (S : List Bool) (k : Nat) : swT t S (k + 1) = swR t.length k (swT t S k) (t.getD k []) := by
  unfold swT
  rw [List.range_succ, List.foldl_append]
  rfl
theorem getD_set (S : List Bool) (i j : Nat) : (S.set i true).getD j false = true ↔ (j = i ∧ i < S.length) ∨ S.getD j false = true := by
  rw [List.getD_eq_getElem?_getD, List.getD_eq_getElem?_getD, List.getElem?_set]
  by_cases h : i = j
  · subst h
    by_cases hl : i < S.length
    · simp [hl]
    · rw [if_pos rfl, if_neg hl, List.getElem?_eq_none (by omega)]
      simp [hl]
  · rw [if_neg h]
    constructor
    · exact .inr
    · rintro (⟨h', _⟩ | h')
      · exact absurd h'.symm h
      · exact h'
/-- What is kept by a step: lengths, what was set, and that all that is set has p, if p goes on along edges from a. -/
structure Goes (p : Nat → Prop) (S S' : List Bool) : Prop where
  len : S'.length = S.length
  mono : ∀ b, S.getD b false = true → S'.getD b false = true
  only : (∀ b, S.getD b false = true → p b) → ∀ b, S'.getD b false = true → p b
theorem Goes.refl (p : Nat → Prop) (S : List Bool) : Goes p S S := ⟨rfl, fun _ h => h, fun h => h⟩
theorem Goes.trans {p : Nat → Prop} {S S' S'' : List Bool} (h : Goes p S S') (h' : Goes p S' S'') : Goes p S S'' :=
  ⟨h'.len.trans h.len, fun b hb => h'.mono b (h.mono b hb), fun hb => h'.only (h.only hb)⟩
section
variable {t : Tb} {p : Nat → Prop} (hp : ∀ a b, p a → edgeT t a b → p b)
include hp
theorem swC_goes {a : Nat} (ha : a < t.length) {S : List Bool} {c : Ce} (hc : c ∈ t.getD a []) : Goes p S (swC t.length a S c) := by
  unfold swC
  by_cases h : S.getD a false = true ∧ 0 ≤ c.1 ∧ c.1 < (t.length : Int)
  · rw [if_pos h]
    refine ⟨List.length_set, fun b hb => (getD_set S _ b).2 (.inr hb), fun hall b hb => ?_⟩
    rcases (getD_set S _ b).1 hb with ⟨rfl, _⟩ | hb
    · exact hp a _ (hall a h.1) ⟨ha, by omega, c, hc, by omega⟩
    · exact hall b hb
  · rw [if_neg h]
    exact Goes.refl p S
theorem swR_goes {a : Nat} (ha : a < t.length) (r : List Ce) : (∀ c ∈ r, c ∈ t.getD a []) → ∀ S, Goes p S (swR t.length a S r) := by
  induction r with
  | nil => exact fun _ S => Goes.refl p S
  | cons c r ih => exact fun h S => (swC_goes hp ha (h c (List.mem_cons_self ..))).trans (ih (fun x hx => h x (List.mem_cons_of_mem _ hx)) _)
theorem swT_goes (S : List Bool) (k : Nat) (hk : k ≤ t.length) : Goes p S (swT t S k) := by
  induction k with
  | zero => exact Goes.refl p S
  | succ k ih =>
    rw [swT_succ]
    exact (ih (by omega)).trans (swR_goes hp (by omega) _ (fun _ h => h) _)
theorem swK_goes (S : List Bool) (k : Nat) : Goes p S (swK t S k) := by
  induction k with
  | zero => exact Goes.refl p S
  | succ k ih => exact ih.trans (swT_goes hp _ _ (Nat.le_refl _))
end
theorem swR_hits {n a : Nat} {r : List Ce} {c : Ce} {b : Nat} (hc : c ∈ r) (hb : c.1 = (b : Int)) (hbn : b < n) : ∀ S : List Bool, S.length = n → S.getD a false = true → (swR n a S r).getD b false = true := by
  have hmono : ∀ (r : List Ce) (S : List Bool) (x : Nat), S.getD x false = true → (swR n a S r).getD x false = true := fun r => by
    induction r with
    | nil => exact fun S x h => h
    | cons d r ih =>
      intro S x h
      refine ih _ x ?_
      unfold swC
      split
      · exact (getD_set S _ x).2 (.inr h)
      · exact h
  induction r with
  | nil => cases hc
  | cons d r ih =>
    intro S hl ha
    rcases List.mem_cons.1 hc with rfl | hc
    · refine hmono r _ b ?_
      unfold swC
      rw [if_pos ⟨ha, by omega, by omega⟩]
      exact (getD_set S _ b).2 (.inl ⟨by omega, by omega⟩)
    · have hl2 : (swC n a S d).length = n := by
        unfold swC
        split
        · rw [List.length_set, hl]
        · exact hl
      have ha2 : (swC n a S d).getD a false = true := hmono [d] S a ha
      exact ih hc _ hl2 ha2
theorem edge_true {t : Tb} : ∀ a b, (fun _ : Nat => True) a → edgeT t a b → (fun _ : Nat => True) b := fun _ _ _ _ => trivial
theorem swT_hits {t : Tb} {S : List Bool} (hl : S.length = t.length) {a b : Nat} (ha : S.getD a false = true) (he : edgeT t a b) (k : Nat) (hk : k ≤ t.length) (hak : a < k) : (swT t S k).getD b false = true := by
  induction k with
  | zero => omega
  | succ k ih =>
    have hg := swT_goes (t := t) (p := fun _ => True) edge_true S k (by omega)
    rw [swT_succ]
    by_cases h : a = k
    · subst h
      obtain ⟨h1, h2, c, hc, hcb⟩ := he
      exact swR_hits hc hcb h2 _ (hg.len.trans hl) (hg.mono a ha)
    · exact (swR_goes (t := t) (p := fun _ => True) edge_true (by omega) _ (fun _ h => h) _).mono b (ih (by omega) (by omega))
/-- How many are set. -/
def cnt (S : List Bool) : Nat := S.countP id
theorem cnt_le (S : List Bool) : cnt S ≤ S.length := List.countP_le_length
theorem cnt_mono {S S' : List Bool} (hl : S'.length = S.length) (hm : ∀ b, S.getD b false = true → S'.getD b false = true) : cnt S ≤ cnt S' ∧ (∀ b, S.getD b false ≠ true → S'.getD b false = true → cnt S < cnt S') := by
  induction S generalizing S' with
  | nil =>
    cases S' with
    | nil => exact ⟨Nat.le_refl _, fun b _ h => by simp at h⟩
    | cons _ _ => simp at hl
  | cons x S ih =>
    cases S' with
    | nil => simp at hl
    | cons y S' =>
      obtain ⟨h1, h2⟩ := ih (S' := S') (by simpa using hl) (fun b hb => by simpa using hm (b + 1) (by simpa using hb))
      have h0 := hm 0
      simp only [List.getD_cons_zero] at h0
      have ex : cnt (x :: S) = cnt S + if x = true then 1 else 0 := by unfold cnt; rw [List.countP_cons]; simp
      have ey : cnt (y :: S') = cnt S' + if y = true then 1 else 0 := by unfold cnt; rw [List.countP_cons]; simp
      rw [ex, ey]
      refine ⟨?_, fun b hb hb' => ?_⟩
      · by_cases hx : x = true
        · rw [if_pos hx, if_pos (h0 hx)]; omega
        · rw [if_neg hx]; omega
      · cases b with
        | zero =>
          simp only [List.getD_cons_zero] at hb hb'
          rw [if_neg hb, if_pos hb']; omega
        | succ b =>
          have := h2 b (by simpa using hb) (by simpa using hb')
          by_cases hx : x = true
          · rw [if_pos hx, if_pos (h0 hx)]; omega
          · rw [if_neg hx]; omega
def Closed (t : Tb) (S : List Bool) : Prop := ∀ a b, S.getD a false = true → edgeT t a b → S.getD b false = true
theorem closed_keeps {t : Tb} {S : List Bool} (h : Closed t S) (b : Nat) (hb : (swT t S t.length).getD b false = true) : S.getD b false = true :=
  (swT_goes (t := t) (p := fun b => S.getD b false = true) (fun a b ha he => h a b ha he) S t.length (Nat.le_refl _)).only (fun _ h => h) b hb
theorem closed_or {t : Tb} {S : List Bool} (hl : S.length = t.length) (h1 : 1 ≤ cnt S) (k : Nat) : (swK t S k).length = t.length ∧ (Closed t (swK t S k) ∨ k + 1 ≤ cnt (swK t S k)) := by
  induction k with
  | zero => exact ⟨hl, .inr h1⟩
  | succ k ih =>
    obtain ⟨il, ih⟩ := ih
    have hg := swT_goes (t := t) (p := fun _ => True) edge_true (swK t S k) t.length (Nat.le_refl _)
    refine ⟨hg.len.trans il, ?_⟩
    by_cases hc : Closed t (swK t S k)
    · exact .inl fun a b ha he => hg.mono b (hc a b (closed_keeps hc a ha) he)
    · right
      have ih := ih.resolve_left hc
      have : ∃ a b, (swK t S k).getD a false = true ∧ edgeT t a b ∧ ¬ (swK t S k).getD b false = true := by
        apply Classical.byContradiction
        intro hn
        exact hc fun a b ha he => Classical.byContradiction fun hb => hn ⟨a, b, ha, he, hb⟩
      obtain ⟨a, b, ha, he, hb⟩ := this
      have := (cnt_mono hg.len hg.mono).2 b hb (swT_hits il ha he t.length (Nat.le_refl _) he.1)
      show k + 1 + 1 ≤ cnt (swT t (swK t S k) t.length)
      omega
theorem start_at {n s : Nat} (hs : s < n) (b : Nat) : (start n s).getD b false = true ↔ b = s := by
  unfold start
  rw [getD_set, List.length_replicate]
  constructor
  · rintro (⟨h, _⟩ | h)
    · exact h
    · rw [List.getD_eq_getElem?_getD, List.getElem?_replicate] at h
      split at h <;> simp at h
  · rintro rfl
    exact .inl ⟨rfl, hs⟩
theorem start_len (n s : Nat) : (start n s).length = n := by unfold start; rw [List.length_set, List.length_replicate]
theorem start_cnt {n s : Nat} (hs : s < n) : 1 ≤ cnt (start n s) := by
  have := (cnt_mono (S := List.replicate n false) (S' := start n s) (by rw [start_len, List.length_replicate]) (fun b hb => by
    rw [List.getD_eq_getElem?_getD, List.getElem?_replicate] at hb
    split at hb <;> simp at hb)).2 s (by
      rw [List.getD_eq_getElem?_getD, List.getElem?_replicate, if_pos hs]
      simp) ((start_at hs s).2 rfl)
  omega
/-- Going over all cells as many times as there are states sets just what is come to. -/
theorem sweep_is {t : Tb} {s : Nat} (hs : s < t.length) (b : Nat) : (swK t (start t.length s) t.length).getD b false = true ↔ Rch t s b := by
  obtain ⟨hl, hc⟩ := closed_or (t := t) (start_len t.length s) (start_cnt hs) t.length
  have hcl : Closed t (swK t (start t.length s) t.length) := by
    rcases hc with h | h
    · exact h
    · have := cnt_le (swK t (start t.length s) t.length)
      omega
  constructor
  · exact (swK_goes (t := t) (p := Rch t s) (fun a b ha he => Rch.step ha he) (start t.length s) t.length).only (fun b hb => by rw [(start_at hs b).1 hb]; exact Rch.here hs) b
  · intro h
    induction h with
    | here _ => exact (swK_goes (t := t) (p := fun _ => True) edge_true (start t.length s) t.length).mono s ((start_at hs s).2 rfl)
    | step _ he ih => exact hcl _ _ ih he
/-- The states that are come to, rising. -/
def reachN (t : Tb) (s : Nat) : List Nat := (List.range t.length).filter fun b => (swK t (start t.length s) t.length).getD b false
def reachL (t : Tb) (s : Int) : List Int := if hasB t s = true then (reachN t s.toNat).map Int.ofNat else []
/-- A list that grows while it is gone over: what is marked is listed, once, and come to. -/
structure Bfs (t : Tb) (s : Nat) (L : List Nat) (S : List Bool) : Prop where
  len : S.length = t.length
  mark : ∀ b, S.getD b false = true ↔ b ∈ L
  nodup : L.Nodup
  come : ∀ b ∈ L, Rch t s b
  first : s ∈ L
theorem Bfs.start {t : Tb} {s : Nat} (hs : s < t.length) : Bfs t s [s] (start t.length s) :=
  ⟨start_len _ _, fun b => by rw [start_at hs]; simp, by simp, fun b hb => by rw [List.mem_singleton.1 hb]; exact Rch.here hs, by simp⟩
theorem Bfs.push {t : Tb} {s : Nat} {L : List Nat} {S : List Bool} (h : Bfs t s L S) {a b : Nat} (ha : a ∈ L) (he : edgeT t a b) (hb : S.getD b false ≠ true) : Bfs t s (L ++ [b]) (S.set b true) := by
  have hbL : b ∉ L := fun hL => hb ((h.mark b).2 hL)
  refine ⟨by rw [List.length_set]; exact h.len, fun x => ?_, ?_, fun x hx => ?_, List.mem_append_left _ h.first⟩
  · rw [getD_set, h.mark, List.mem_append, List.mem_singleton]
    constructor
    · rintro (⟨rfl, _⟩ | hx)
      · exact .inr rfl
      · exact .inl hx
    · rintro (hx | rfl)
      · exact .inr hx
      · exact .inl ⟨rfl, by rw [h.len]; exact he.2.1⟩
  · rw [List.nodup_append]
    exact ⟨h.nodup, by simp, fun x hx y hy => by rw [List.mem_singleton.1 hy]; rintro rfl; exact hbL hx⟩
  · rcases List.mem_append.1 hx with hx | hx
    · exact h.come x hx
    · rw [List.mem_singleton.1 hx]
      exact Rch.step (h.come a ha) he
theorem Bfs.count {t : Tb} {s : Nat} {L : List Nat} {S : List Bool} (h : Bfs t s L S) : L.length ≤ t.length := by
  have hsub : ∀ x ∈ L, x ∈ List.range t.length := fun x hx => List.mem_range.2 (h.come x hx).lt
  have hp : L.Perm ((List.range t.length).filter fun x => decide (x ∈ L)) := by
    rw [List.perm_ext_iff_of_nodup h.nodup (List.nodup_range.filter _)]
    intro x
    simp only [List.mem_filter, decide_eq_true_eq]
    exact ⟨fun hx => ⟨hsub x hx, hx⟩, fun hx => hx.2⟩
  have h1 := hp.length_eq
  have h2 := List.length_filter_le (fun x => decide (x ∈ L)) (List.range t.length)
  rw [List.length_range] at h2
  omega
/-- Gone over whole, and sorted, it is the states that are come to, rising. -/
theorem Bfs.done {t : Tb} {s : Nat} {L : List Nat} {S : List Bool} (h : Bfs t s L S) (hc : ∀ a ∈ L, ∀ b, edgeT t a b → b ∈ L) : ((L.map Int.ofNat).mergeSort fun x y => decide (x ≤ y)) = reachL t s := by
  have hs : s < t.length := (h.come s h.first).lt
  have hall : ∀ b, Rch t s b → b ∈ L := fun b hb => by
    induction hb with
    | here _ => exact h.first
    | step _ he ih => exact hc _ ih _ he
  have hp : L.Perm (reachN t s) := by
    unfold reachN
    rw [List.perm_ext_iff_of_nodup h.nodup (List.nodup_range.filter _)]
    intro x
    rw [List.mem_filter, List.mem_range, sweep_is hs]
    exact ⟨fun hx => ⟨(h.come x hx).lt, h.come x hx⟩, fun hx => hall x hx.2⟩
  have hr : reachL t s = (reachN t s).map Int.ofNat := by
    unfold reachL hasB
    rw [if_pos (by simp only [Bool.and_eq_true, decide_eq_true_eq]; omega)]
    rfl
  rw [hr]
  refine List.Perm.eq_of_pairwise (le := fun x y : Int => x ≤ y) (fun a b _ _ h1 h2 => by omega) ?_ ?_ ((List.mergeSort_perm _ _).trans (hp.map _))
  · have := List.pairwise_mergeSort (le := fun x y : Int => decide (x ≤ y)) (fun a b c h1 h2 => by simp only [decide_eq_true_eq] at *; omega) (fun a b => by simp only [Bool.or_eq_true, decide_eq_true_eq]; omega) (L.map Int.ofNat)
    exact this.imp fun h => by simpa using h
  · unfold reachN
    rw [List.pairwise_map]
    exact (List.pairwise_lt_range.filter _).imp fun h => by show (_ : Int) ≤ _; exact Int.ofNat_le.2 (Nat.le_of_lt h)
theorem reach_reg : (reachL regT 0).length = 3 := by decide +kernel
theorem reach_app : (reachL appT 0).length = 5 := by decide +kernel
end Go.Proofs.Ytkdnngcmiggoeaa
