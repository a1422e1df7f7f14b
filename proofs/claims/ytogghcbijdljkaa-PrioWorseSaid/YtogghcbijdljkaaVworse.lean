/- What a worse vector changes: nothing (plain); a row of what was heard with one element stored anew. Its condition: fewer than 2^20 ports. -/
import Derived.Test.YtogghcbijdljkaaVroles
namespace Go.Proofs.Ytogghcbijdljkaa
open Go.RowKit
set_option maxRecDepth 100000

def candP (id : Int) (h : Hd) : Prop := useB id h = true ∧ h.root < id
def thr (h : Hd) : Vec := throughV h.vec h.way
/-- What the best is, said without an order of steps. -/
def IsBest (id : Int) (l : List Hd) (n : Nat) (s : Vec × Int) : Prop :=
  (s = (ownV id, -1) ∨ ∃ i : Nat, i < n ∧ s.2 = i ∧ candP id (l.getD i hd0) ∧ s.1 = thr (l.getD i hd0) ∧ ltV s.1 (ownV id) ∧ ∀ i', i' < i → candP id (l.getD i' hd0) → ltV s.1 (thr (l.getD i' hd0))) ∧
  ∀ i, i < n → candP id (l.getD i hd0) → ¬ ltV (thr (l.getD i hd0)) s.1
theorem isBest (id : Int) (l : List Hd) (n : Nat) : IsBest id l n (bestTo id l n) := by
  induction n with
  | zero => exact ⟨.inl rfl, fun i hi => absurd hi (Nat.not_lt_zero _)⟩
  | succ n ih =>
    rw [bestTo]
    obtain ⟨h1, h2⟩ := ih
    obtain ⟨s, hs⟩ : ∃ s, bestTo id l n = s := ⟨_, rfl⟩
    rw [hs] at h1 h2 ⊢
    unfold stepB
    split
    · rename_i h
      obtain ⟨hu, hr, hl⟩ := h
      have hc : candP id (l.getD n hd0) := ⟨hu, hr⟩
      refine ⟨.inr ⟨n, Nat.lt_succ_self _, rfl, hc, rfl, ?_, fun i' hi' hc' => ?_⟩, fun i hi hc' => ?_⟩
      · rcases h1 with h1 | ⟨_, _, _, _, _, h1, _⟩
        · rw [h1] at hl; exact hl
        · exact ltV_trans hl h1
      · have h3 := h2 i' hi' hc'
        show ltV (thr (l.getD n hd0)) _
        have hl' : ltV (thr (l.getD n hd0)) s.1 := hl
        unfold ltV at hl' h3 ⊢
        omega
      · by_cases e : i = n
        · subst e; exact ltV_irrefl _
        · have h3 := h2 i (by omega) hc'
          show ¬ ltV _ (thr (l.getD n hd0))
          have hl' : ltV (thr (l.getD n hd0)) s.1 := hl
          unfold ltV at hl' h3 ⊢
          omega
    · rename_i h
      refine ⟨?_, fun i hi hc' => ?_⟩
      · rcases h1 with h1 | ⟨i, hi, h1⟩
        · exact .inl h1
        · exact .inr ⟨i, by omega, h1⟩
      · by_cases e : i = n
        · subst e
          exact fun hl => h ⟨hc'.1, hc'.2, hl⟩
        · exact h2 i (by omega) hc'
theorem isBest_one {id : Int} {l : List Hd} {n : Nat} {s s' : Vec × Int} (h : IsBest id l n s) (h' : IsBest id l n s') : s = s' := by
  obtain ⟨h1, h2⟩ := h
  obtain ⟨h1', h2'⟩ := h'
  rcases h1 with rfl | ⟨i, hi, e, hc, hb, ho, hf⟩
  · rcases h1' with rfl | ⟨i', hi', e', hc', hb', ho', hf'⟩
    · rfl
    · exact absurd (hb' ▸ ho') (h2 i' hi' hc')
  · rcases h1' with rfl | ⟨i', hi', e', hc', hb', ho', hf'⟩
    · exact absurd (hb ▸ ho) (h2' i hi hc)
    · rcases Nat.lt_trichotomy i i' with hlt | rfl | hlt
      · have := hf' i hlt hc
        rw [hb'] at this
        exact absurd (hb ▸ this) (h2 i' hi' hc')
      · exact Prod.ext (by rw [hb, hb']) (by rw [e, e'])
      · have := hf i' hlt hc'
        rw [hb] at this
        exact absurd (hb' ▸ this) (h2' i hi hc)
theorem bestTo_ok {id : Int} {l : List Hd} (hid : In64 id) (hok : ∀ x ∈ l, x.ok) (n : Nat) (hn : n ≤ l.length) : (bestTo id l n).1.ok ∧ 0 ≤ (bestTo id l n).1.cost := by
  rcases (isBest id l n).1 with h | ⟨i, hi, _, _, h, _, _⟩
  · rw [h]
    exact ⟨⟨hid, ⟨by show (-9223372036854775808 : Int) ≤ 0; omega, by show (0 : Int) ≤ 9223372036854775807; omega⟩, hid, ⟨by show (-9223372036854775808 : Int) ≤ 0; omega, by show (0 : Int) ≤ 9223372036854775807; omega⟩⟩, Int.le_refl _⟩
  · rw [h]
    have hm : l.getD i hd0 ∈ l := by rw [List.getD_eq_getElem?_getD, List.getElem?_eq_getElem (by omega : i < l.length)]; exact List.getElem_mem _
    have hx := hok _ hm
    have hs := sumS_in (l.getD i hd0).vec.cost (l.getD i hd0).way
    exact ⟨⟨hx.1.1, ⟨by show -9223372036854775808 ≤ sumS _ _; omega, hs.2⟩, hx.1.2.2.1, hx.1.2.2.2⟩, hs.1⟩
/-- One that is worse than the best. -/
def worseH (b : Vec) (x : Hd) (more : Int) : Hd := ⟨b.root, b.cost + more, x.bridge, x.port, 1, 1, false⟩
theorem getD_set (l : List Hd) (k i : Nat) (x : Hd) (hk : k < l.length) : (l.set k x).getD i hd0 = if i = k then x else l.getD i hd0 := by
  rw [List.getD_eq_getElem?_getD, List.getElem?_set]
  by_cases e : k = i
  · subst e
    rw [if_pos rfl, if_pos rfl, if_pos hk]; rfl
  · rw [if_neg e, if_neg (fun h => e h.symm), List.getD_eq_getElem?_getD]
theorem worse_best (id : Int) (l : List Hd) (k : Nat) (more : Int) (hk : k < l.length) (hne : (bestTo id l l.length).2 ≠ k) (h0 : 0 ≤ (bestTo id l l.length).1.cost) (h1 : (bestTo id l l.length).1.cost ≤ 1099511627776) (hm : 1 ≤ more) (hm2 : more ≤ 1048576) :
    bestTo id (l.set k (worseH (bestTo id l l.length).1 (l.getD k hd0) more)) l.length = bestTo id l l.length := by
  obtain ⟨s, hs⟩ : ∃ s, bestTo id l l.length = s := ⟨_, rfl⟩
  have hb := isBest id l l.length
  rw [hs] at hb hne h0 h1 ⊢
  obtain ⟨w, hw⟩ : ∃ w, worseH s.1 (l.getD k hd0) more = w := ⟨_, rfl⟩
  have hworse : ltV s.1 (thr w) := by
    rw [← hw]
    have e : (thr (worseH s.1 (l.getD k hd0) more)).cost = s.1.cost + more + 1 := by
      show sumS (s.1.cost + more) 1 = _
      unfold sumS
      (repeat' split) <;> omega
    unfold ltV
    refine .inr ⟨rfl, .inl ?_⟩
    rw [e]; omega
  rw [hw]
  refine isBest_one (isBest id (l.set k w) l.length) ⟨?_, fun i hi hc => ?_⟩
  · rcases hb.1 with h | ⟨i, hi, e, hc, hbe, ho, hf⟩
    · exact .inl h
    · have hik : i ≠ k := fun h => hne (by rw [e, h])
      refine .inr ⟨i, hi, e, ?_, ?_, ho, fun i' hi' hc' => ?_⟩
      · rw [getD_set l k i w hk, if_neg hik]; exact hc
      · rw [getD_set l k i w hk, if_neg hik]; exact hbe
      · rw [getD_set l k i' w hk] at hc' ⊢
        by_cases e' : i' = k
        · rw [if_pos e']; exact hworse
        · rw [if_neg e'] at hc' ⊢; exact hf i' hi' hc'
  · rw [getD_set l k i w hk] at hc ⊢
    by_cases e' : i = k
    · rw [if_pos e']
      unfold ltV at hworse ⊢
      omega
    · rw [if_neg e'] at hc ⊢
      exact hb.2 i hi hc
theorem worse_role (id : Int) (l : List Hd) (k : Nat) (more : Int) (hk : k < l.length) (hne : (bestTo id l l.length).2 ≠ k) (h0 : 0 ≤ (bestTo id l l.length).1.cost) (h1 : (bestTo id l l.length).1.cost ≤ 1099511627776) (hm : 1 ≤ more) (hm2 : more ≤ 1048576) :
    roleAt id (l.set k (worseH (bestTo id l l.length).1 (l.getD k hd0) more)) k = 2 ∧ ∀ i, i ≠ k → roleAt id (l.set k (worseH (bestTo id l l.length).1 (l.getD k hd0) more)) i = roleAt id l i := by
  have hb := worse_best id l k more hk hne h0 h1 hm hm2
  unfold roleAt
  rw [List.length_set, hb]
  refine ⟨?_, fun i hi => ?_⟩
  · rw [if_neg (fun h => hne h.symm), getD_set l k k _ hk, if_pos rfl]
    refine if_neg fun h => h.2 ?_
    unfold ltV
    refine .inr ⟨rfl, .inl ?_⟩
    show _ < _ + more
    show (bestTo id l l.length).1.cost < (bestTo id l l.length).1.cost + more
    omega
  · rw [getD_set l k i _ hk, if_neg hi]
theorem hdL_set (l : List Hd) (k : Nat) (x : Hd) (hk : k < l.length) {cs : Array Value} (hcs : ∀ (j : Nat) (u : Value), (hdL l)[j]? = some u → cs[j]? = some u) (j : Nat) (u : Value) (hj : (hdL (l.set k x))[j]? = some u) :
    (((((((cs.setIfInBounds (k * 7) (.int .i64 x.root)).setIfInBounds (k * 7 + 1) (.int .i64 x.cost)).setIfInBounds (k * 7 + 2) (.int .i64 x.bridge)).setIfInBounds (k * 7 + 3) (.int .i64 x.port)).setIfInBounds (k * 7 + 4) (.int .i64 x.age)).setIfInBounds (k * 7 + 5) (.int .i64 x.way)).setIfInBounds (k * 7 + 6) (.bool x.none))[j]? = some u := by
  have hsz : l.length * 7 ≤ cs.size := by
    by_cases h0 : 0 < l.length * 7
    · have h1 : (hdL l)[l.length * 7 - 1]? = some ((hdL l)[l.length * 7 - 1]'(by rw [hdL_length]; omega)) := List.getElem?_eq_getElem _
      have := hcs _ _ h1
      have h2 := (Array.getElem?_eq_some_iff.1 this).1
      omega
    · omega
  have hjl : j < l.length * 7 := by have := (List.getElem?_eq_some_iff.1 hj).1; rw [hdL_length, List.length_set] at this; exact this
  have hjj : j / 7 * 7 + j % 7 = j := by omega
  have hu := hdL_at (l.set k x) (j / 7) (by rw [List.length_set]; omega) (j % 7) (by omega)
  rw [hjj, hj, getD_set l k _ x hk] at hu
  by_cases e : j / 7 = k
  · rw [if_pos e] at hu
    rcases (show j = k * 7 ∨ j = k * 7 + 1 ∨ j = k * 7 + 2 ∨ j = k * 7 + 3 ∨ j = k * 7 + 4 ∨ j = k * 7 + 5 ∨ j = k * 7 + 6 from by omega) with h | h | h | h | h | h | h
    · rw [show j % 7 = 0 by omega] at hu; rw [hu]; subst h; simp [Array.getElem?_setIfInBounds, Hd.cells]; omega
    · rw [show j % 7 = 1 by omega] at hu; rw [hu]; subst h; simp [Array.getElem?_setIfInBounds, Hd.cells]; omega
    · rw [show j % 7 = 2 by omega] at hu; rw [hu]; subst h; simp [Array.getElem?_setIfInBounds, Hd.cells]; omega
    · rw [show j % 7 = 3 by omega] at hu; rw [hu]; subst h; simp [Array.getElem?_setIfInBounds, Hd.cells]; omega
    · rw [show j % 7 = 4 by omega] at hu; rw [hu]; subst h; simp [Array.getElem?_setIfInBounds, Hd.cells]; omega
    · rw [show j % 7 = 5 by omega] at hu; rw [hu]; subst h; simp [Array.getElem?_setIfInBounds, Hd.cells]; omega
    · rw [show j % 7 = 6 by omega] at hu; rw [hu]; subst h; simp [Array.getElem?_setIfInBounds, Hd.cells]; omega
  · rw [if_neg e] at hu
    have hold := hdL_at l (j / 7) (by omega) (j % 7) (by omega)
    rw [hjj, ← hu] at hold
    rw [Array.getElem?_setIfInBounds_ne (by omega), Array.getElem?_setIfInBounds_ne (by omega), Array.getElem?_setIfInBounds_ne (by omega), Array.getElem?_setIfInBounds_ne (by omega), Array.getElem?_setIfInBounds_ne (by omega), Array.getElem?_setIfInBounds_ne (by omega), Array.getElem?_setIfInBounds_ne (by omega)]
    exact hcs j u hold
/-- One element stored anew. -/
def setHd (w : World) (g k : Nat) (x : Hd) : World :=
  ((((((w.setCell ⟨g, k * 7, none⟩ (.int .i64 x.root)).setCell ⟨g, k * 7 + 1, none⟩ (.int .i64 x.cost)).setCell ⟨g, k * 7 + 2, none⟩ (.int .i64 x.bridge)).setCell ⟨g, k * 7 + 3, none⟩ (.int .i64 x.port)).setCell ⟨g, k * 7 + 4, none⟩ (.int .i64 x.age)).setCell ⟨g, k * 7 + 5, none⟩ (.int .i64 x.way)).setCell ⟨g, k * 7 + 6, none⟩ (.bool x.none)
/-- A row of one's own that isn't empty: its block, what may be stored, and how it reads then. -/
theorem own_hd {t : TypeId} {w : World} {base c : Nat} {A : Option Addr} {l : List Hd} (h : OwnH t w base A c l) {k : Nat} (hk : k < l.length) :
    ∃ g, A = some ⟨g, 0, none⟩ ∧ base ≤ g ∧ (∀ j, j < 7 → ∃ v, w.cell? ⟨g, k * 7 + j, none⟩ = some v) ∧ (∀ j, w.frozen? ⟨g, j, none⟩ = false) ∧
      ∀ x, HdAt (setHd w g k x) (setHd w g k x).heap.size A (l.set k x) ∧ Below base w (setHd w g k x) := by
  rcases h.2 with ⟨h0, _⟩ | ⟨g, cap, cur, e, hb, hg, hn, hm, hs, ht⟩
  · injection h0 with _ h0 _
    omega
  · injection e with e1 _ e3
    subst e1 e3
    have hbk : Blk w g t cur := hg
    have hcs : ∀ (j : Nat) (u : Value), (hdL l)[j]? = some u → cur[j]? = some u := fun j u hu => by
      rw [← ht, List.getElem?_take] at hu
      split at hu
      · simpa using hu
      · cases hu
    have hsz : l.length * 7 ≤ cur.size := by rw [hs]; exact Nat.mul_le_mul_right _ hn
    refine ⟨g, rfl, hb, fun j hj => ⟨cur[k * 7 + j]'(by omega), by rw [hbk.cell, Array.getElem?_eq_getElem (by omega)]⟩, fun j => hbk.frozen j, fun x => ?_⟩
    have hb' : Blk (setHd w g k x) g t _ := ((((((hbk.set_ (k * 7) (.int .i64 x.root)).set_ (k * 7 + 1) (.int .i64 x.cost)).set_ (k * 7 + 2) (.int .i64 x.bridge)).set_ (k * 7 + 3) (.int .i64 x.port)).set_ (k * 7 + 4) (.int .i64 x.age)).set_ (k * 7 + 5) (.int .i64 x.way)).set_ (k * 7 + 6) (.bool x.none)
    refine ⟨HdAt.of_flat (fun _ => hb'.lt) fun j u hu => ?_, ?_⟩
    · rw [Nat.zero_add, hb'.cell]
      exact hdL_set l k x hk hcs j u hu
    · unfold setHd
      exact (((((((Below.refl _ _).setCell (p := ⟨g, k * 7, none⟩) hb _).setCell (p := ⟨g, k * 7 + 1, none⟩) hb _).setCell (p := ⟨g, k * 7 + 2, none⟩) hb _).setCell (p := ⟨g, k * 7 + 3, none⟩) hb _).setCell (p := ⟨g, k * 7 + 4, none⟩) hb _).setCell (p := ⟨g, k * 7 + 5, none⟩) hb _).setCell (p := ⟨g, k * 7 + 6, none⟩) hb _
end Go.Proofs.Ytogghcbijdljkaa
