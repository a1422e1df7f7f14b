/- A message's bytes, read again: plain. No program's call, no condition. -/
import Derived.Test.YthghedlgeceepaaMrBytes
namespace Go.Proofs.Ythghedlgeceepaa

theorem part_back {k : Int} (hk : k = 1 ∨ k = 2 ∨ k = 3) (all : Bool) (p : Msg) (l : List Wd) (rest : List UInt8) (hg : ∀ a ∈ l, wordP a ∧ a.t = k) (hG : (p.app ⟨if all then [k] else [], l⟩).Good) :
    msgLoop p (partBytes k all l ++ rest) = msgLoop (p.app ⟨if all then [k] else [], l⟩) rest := by
  unfold partBytes
  by_cases h : all = false ∧ l = []
  · obtain ⟨rfl, rfl⟩ := h
    simp [Msg.app]
  · rw [if_neg h]
    have hb := vecs_back l.length all true p l rest (Nat.le_refl _) hg hG (fun _ => by
      cases all
      · right; exact fun e => h ⟨rfl, e⟩
      · left; rfl)
    have hl : (be k 1 ++ (be (vs k) 1 ++ (vecs k all l ++ [0, 0]))) ++ rest = be k 1 ++ (be (vs k) 1 ++ (vecs k all l ++ 0 :: 0 :: rest)) := by simp
    rw [hl]
    have go : ∀ (a z : UInt8), num [a] ≠ 0 → vs (num [a] : Int) ≠ 0 → vs (num [a] : Int) = num [z] → ((num [a] : Nat) : Int) = k → msgLoop p ([a] ++ ([z] ++ (vecs k all l ++ 0 :: 0 :: rest))) = msgLoop (p.app ⟨if all then [k] else [], l⟩) rest := by
      intro a z h0 h1 h2 h3
      have t1 : ([a] ++ ([z] ++ (vecs k all l ++ 0 :: 0 :: rest))).take 1 = [a] := by simp
      have t2 : (([a] ++ ([z] ++ (vecs k all l ++ 0 :: 0 :: rest))).drop 1).take 1 = [z] := by simp
      have t3 : ([a] ++ ([z] ++ (vecs k all l ++ 0 :: 0 :: rest))).drop 2 = vecs k all l ++ 0 :: 0 :: rest := by simp
      rw [msg_part (by simp) (by rw [t1]; exact fun h => h0 h.1) (by rw [t1, t2]; rintro (h | h); exact h1 h; exact h h2), t1, t3, h3, hb]
    rcases hk with rfl | rfl | rfl
    · exact go 1 2 (by decide) (by decide) (by decide) (by decide)
    · exact go 2 6 (by decide) (by decide) (by decide) (by decide)
    · exact go 3 1 (by decide) (by decide) (by decide) (by decide)

/-- What rises by a key of 1, 2 or 3 falls into three. -/
theorem split3 {α : Type} (f : α → Int) (l : List α) (hs : l.Pairwise (fun a b => f a ≤ f b)) (h : ∀ a ∈ l, f a = 1 ∨ f a = 2 ∨ f a = 3) :
    l.filter (fun a => decide (f a = 1)) ++ (l.filter (fun a => decide (f a = 2)) ++ l.filter (fun a => decide (f a = 3))) = l := by
  induction l with
  | nil => rfl
  | cons a t ih =>
    have hs' := List.pairwise_cons.1 hs
    have iht := ih hs'.2 (fun b hb => h b (List.mem_cons_of_mem _ hb))
    have hno : ∀ k : Int, k < f a → t.filter (fun b => decide (f b = k)) = [] := fun k hk => List.filter_eq_nil_iff.2 fun b hb => by
      have := hs'.1 b hb
      simp
      omega
    rcases h a (by simp) with e | e | e
    · simp only [List.filter_cons, e]
      simpa using iht
    · have n1 := hno 1 (by omega)
      rw [n1] at iht
      simp only [List.filter_cons, e]
      simp [n1]
      simpa using iht
    · have n1 := hno 1 (by omega)
      have n2 := hno 2 (by omega)
      rw [n1, n2] at iht
      simp only [List.filter_cons, e]
      simp [n1, n2]
      simpa using iht
theorem filter_key (l : List Int) (k : Int) (hs : l.Pairwise (fun a b => a < b)) : l.filter (fun a => decide (a = k)) = if decide (k ∈ l) then [k] else [] := by
  induction l with
  | nil => rfl
  | cons a t ih =>
    have hs' := List.pairwise_cons.1 hs
    have iht := ih hs'.2
    by_cases e : a = k
    · subst e
      have : t.filter (fun b => decide (b = a)) = [] := List.filter_eq_nil_iff.2 fun b hb => by
        have := hs'.1 b hb
        simp
        omega
      simp [this]
    · rw [List.filter_cons, if_neg (by simpa using e), iht]
      have : k ∈ a :: t ↔ k ∈ t := by
        rw [List.mem_cons]
        exact ⟨fun h => by rcases h with h | h; exact absurd h.symm e; exact h, .inr⟩
      simp only [this]
/-- A message that can be falls into three parts. -/
theorem Msg.parts {m : Msg} (h : m.Good) :
    ((Msg.none.app ⟨if decide ((1 : Int) ∈ m.all) then [1] else [], ofK 1 m.ws⟩).app ⟨if decide ((2 : Int) ∈ m.all) then [2] else [], ofK 2 m.ws⟩).app ⟨if decide ((3 : Int) ∈ m.all) then [3] else [], ofK 3 m.ws⟩ = m := by
  have hall := split3 id m.all (h.1.2.imp fun h => Int.le_of_lt h) (fun a ha => vs_cases (h.1.1 a ha))
  have hws := split3 Wd.t m.ws (h.2.2.imp fun {a b} h => by unfold lessP at h; omega) (fun a ha => by have := (h.2.1 a ha).1; unfold attrP at this; omega)
  simp only [id] at hall
  rw [filter_key _ _ h.1.2, filter_key _ _ h.1.2, filter_key _ _ h.1.2] at hall
  refine Msg.eq ?_ ?_
  · simp only [Msg.app, Msg.none, List.nil_append, List.append_assoc]
    exact hall
  · simp only [Msg.app, Msg.none, List.nil_append, List.append_assoc]
    exact hws
theorem ofK_good {m : Msg} (h : m.Good) (k : Int) : ∀ a ∈ ofK k m.ws, wordP a ∧ a.t = k := fun a ha => by
  have := List.mem_filter.1 ha
  exact ⟨h.2.1 a this.1, by simpa using this.2⟩
/-- Of what a message says ahead of a type, and of it. -/
def Msg.upto (m : Msg) : Nat → Msg
  | 0 => Msg.none
  | 1 => Msg.none.app ⟨if decide ((1 : Int) ∈ m.all) then [1] else [], ofK 1 m.ws⟩
  | 2 => (Msg.none.app ⟨if decide ((1 : Int) ∈ m.all) then [1] else [], ofK 1 m.ws⟩).app ⟨if decide ((2 : Int) ∈ m.all) then [2] else [], ofK 2 m.ws⟩
  | _ => m
/-- A message's bytes, the last two left away, and whatever stands behind them. -/
theorem bytes_back {m : Msg} (h : m.Good) (rest : List UInt8) :
    msgLoop Msg.none (partBytes 1 (decide ((1 : Int) ∈ m.all)) (ofK 1 m.ws) ++ (partBytes 2 (decide ((2 : Int) ∈ m.all)) (ofK 2 m.ws) ++ (partBytes 3 (decide ((3 : Int) ∈ m.all)) (ofK 3 m.ws) ++ rest))) = msgLoop m rest := by
  have hp := Msg.parts h
  have g3 : (((Msg.none.app ⟨if decide ((1 : Int) ∈ m.all) then [1] else [], ofK 1 m.ws⟩).app ⟨if decide ((2 : Int) ∈ m.all) then [2] else [], ofK 2 m.ws⟩).app ⟨if decide ((3 : Int) ∈ m.all) then [3] else [], ofK 3 m.ws⟩).Good := by rw [hp]; exact h
  have g2 := g3.sub (m' := (Msg.none.app ⟨if decide ((1 : Int) ∈ m.all) then [1] else [], ofK 1 m.ws⟩).app ⟨if decide ((2 : Int) ∈ m.all) then [2] else [], ofK 2 m.ws⟩) (List.sublist_append_left _ _) (List.sublist_append_left _ _)
  have g1 := g2.sub (m' := Msg.none.app ⟨if decide ((1 : Int) ∈ m.all) then [1] else [], ofK 1 m.ws⟩) (List.sublist_append_left _ _) (List.sublist_append_left _ _)
  rw [part_back (.inl rfl) _ _ _ _ (ofK_good h 1) g1, part_back (.inr (.inl rfl)) _ _ _ _ (ofK_good h 2) g2, part_back (.inr (.inr rfl)) _ _ _ _ (ofK_good h 3) g3, hp]
theorem end_zero (m : Msg) (rest : List UInt8) : msgLoop m (0 :: 0 :: rest) = (m, decide (rest ≠ [])) := by
  rw [msg_end (by simp) ⟨by rfl, by rfl⟩]
  rfl
/-- What has bytes is read from them, with nothing wrong; with something behind them, with something wrong. -/
theorem bytes_read {m : Msg} (h : m.Good) (more : List UInt8) : ∃ t, m.bytes ++ more = 0 :: t ∧ msgLoop Msg.none t = (m, decide (more ≠ [])) := by
  refine ⟨_, rfl, ?_⟩
  have := bytes_back h (0 :: 0 :: more)
  rw [end_zero] at this
  simpa [List.append_assoc] using this
theorem bytes_inj {m n : Msg} (h : m.Good) (h' : n.Good) (e : m.bytes = n.bytes) : m = n := by
  obtain ⟨t, h1, h2⟩ := bytes_read h []
  obtain ⟨t', h1', h2'⟩ := bytes_read h' []
  rw [e, h1'] at h1
  injection h1 with _ h1
  rw [h1, h2] at h2'
  injection h2'
end Go.Proofs.Ythghedlgeceepaa
