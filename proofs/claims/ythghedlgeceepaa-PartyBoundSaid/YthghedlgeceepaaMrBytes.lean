/- Messages' bytes as plain data: what is written, and that it is read again. No program's call, no condition. -/
import Derived.Test.YthghedlgeceepaaMrPlain
namespace Go.Proofs.Ythghedlgeceepaa

/-- May a word stand behind another one in a row? -/
def nextP (a b : Wd) : Prop := a.v + 1 = b.v ∧ a.b = b.b
instance (a b : Wd) : Decidable (nextP a b) := by unfold nextP; infer_instance
/-- How many words go on behind one, at most so many. -/
def rowFrom : Nat → Wd → List Wd → Nat
  | 0, _, _ => 0
  | _ + 1, _, [] => 0
  | c + 1, a, w :: l => if nextP a w then rowFrom c w l + 1 else 0
def rowLen : List Wd → Nat
  | [] => 0
  | w :: l => rowFrom 199 w l + 1
theorem rowFrom_le (c : Nat) (a : Wd) (l : List Wd) : rowFrom c a l ≤ l.length ∧ rowFrom c a l ≤ c := by
  induction c generalizing a l with
  | zero => simp [rowFrom]
  | succ c ih =>
    cases l with
    | nil => simp [rowFrom]
    | cons w l =>
      simp only [rowFrom]
      split
      · have := ih w l; simp; omega
      · simp
/-- The events of a row. -/
def evN (l : List Wd) (i : Nat) : Nat := (match l[i]? with | some a => a.e | none => 0).toNat
def headV : List Wd → Int
  | a :: _ => a.v
  | [] => 0
def headB : List Wd → Int
  | a :: _ => a.b
  | [] => 0
/-- A row's bytes. -/
def vecBytes (k : Int) (more : Bool) (l : List Wd) : List UInt8 :=
  be ((l.length : Int) + (if more then 8192 else 0)) 2 ++ (be (headV l) (vs k) ++ (be (headB l) 4 ++ rows 3 6 (evN l) l.length (sz l.length 3)))
/-- The vectors of a part. -/
def vecs (k : Int) (more : Bool) (l : List Wd) : List UInt8 :=
  match _h : l with
  | [] => if more then vecBytes k true [] else []
  | w :: t => vecBytes k more ((w :: t).take (rowLen (w :: t))) ++ vecs k false ((w :: t).drop (rowLen (w :: t)))
termination_by l.length
decreasing_by
  subst _h
  rw [List.length_drop]
  simp only [rowLen, List.length_cons]
  omega
theorem vecs_nil (k : Int) (more : Bool) : vecs k more [] = if more then vecBytes k true [] else [] := by rw [vecs]
theorem vecs_cons (k : Int) (more : Bool) (w : Wd) (t : List Wd) : vecs k more (w :: t) = vecBytes k more ((w :: t).take (rowLen (w :: t))) ++ vecs k false ((w :: t).drop (rowLen (w :: t))) := by rw [vecs]
def partBytes (k : Int) (all : Bool) (l : List Wd) : List UInt8 := if all = false ∧ l = [] then [] else be k 1 ++ (be (vs k) 1 ++ (vecs k all l ++ [0, 0]))
def ofK (k : Int) (l : List Wd) : List Wd := l.filter fun w => decide (w.t = k)
def Msg.bytes (m : Msg) : List UInt8 :=
  [0] ++ (partBytes 1 (decide (1 ∈ m.all)) (ofK 1 m.ws) ++ (partBytes 2 (decide (2 ∈ m.all)) (ofK 2 m.ws) ++ (partBytes 3 (decide (3 ∈ m.all)) (ofK 3 m.ws) ++ [0, 0])))
theorem num_nat (n k : Nat) (h : n < 256 ^ k) : num (be (n : Int) k) = n := by
  have h1 := num_be (n : Int) k
  rw [← Int.natCast_emod, Nat.mod_eq_of_lt h] at h1
  omega
/-- The bytes of events tell them. -/
theorem byt_rows (x : Nat → Nat) (n j : Nat) (hx : Kinds 6 x n) (hj : j < sz n 3) : byt (rows 3 6 x n (sz n 3)) j = rb 3 6 x n j := by
  unfold byt
  rw [List.getD_eq_getElem?_getD, rows_at _ _ _ _ _ _ hj]
  show (UInt8.ofNat _).toNat = _
  rw [UInt8.toNat_ofNat', Nat.mod_eq_of_lt (rb_lt' 3 6 x n j (by unfold LK; decide) hx).1]
theorem evt_rows (x : Nat → Nat) (n i : Nat) (hx : Kinds 6 x n) (hi : i < n) : evt (rows 3 6 x n (sz n 3)) i = x i := by
  unfold evt
  rw [byt_rows x n (i / 3) hx (row_lt n 3 6 i (by unfold LK; decide) hi)]
  exact rb_digit 3 6 x n i (by unfold LK; decide) hx hi
theorem evsOk_rows (x : Nat → Nat) (n : Nat) (hx : Kinds 6 x n) : evsOk (rows 3 6 x n (sz n 3)) n := by
  refine ⟨rows_length _ _ _ _ _, fun j hj => ?_, fun h => ?_⟩
  · rw [byt_rows x n j hx hj]
    exact (rb_lt' 3 6 x n j (by unfold LK; decide) hx).2 rfl
  · rw [byt_rows x n (n / 3) hx (by unfold sz; omega), rb_last 3 6 x n (by unfold LK; decide)]
    exact Nat.mul_mod_left _ _

/-- A row of words: of one type and one tick, their values going up by one. -/
def RowOk (k : Int) (v0 b0 : Nat) (r : List Wd) : Prop := ∀ (i : Nat) (a : Wd), r[i]? = some a → a.t = k ∧ a.v = (v0 : Int) + (i : Int) ∧ a.b = (b0 : Int) ∧ 0 ≤ a.e ∧ a.e ≤ 5
theorem evN_kinds {k : Int} {v0 b0 : Nat} {r : List Wd} (h : RowOk k v0 b0 r) : Kinds 6 (evN r) r.length := fun i hi => by
  have h1 := h i r[i] (List.getElem?_eq_getElem hi)
  unfold evN
  rw [List.getElem?_eq_getElem hi]
  simp only
  omega
theorem row_words {k : Int} {v0 b0 : Nat} {r : List Wd} (h : RowOk k v0 b0 r) : wordsOf k r.length v0 b0 (rows 3 6 (evN r) r.length (sz r.length 3)) = r := by
  apply List.ext_getElem?
  intro i
  by_cases hi : i < r.length
  · have h1 := h i r[i] (List.getElem?_eq_getElem hi)
    rw [List.getElem?_eq_getElem hi]
    unfold wordsOf
    rw [List.getElem?_map, List.getElem?_range hi]
    simp only [Option.map_some]
    rw [evt_rows _ _ _ (evN_kinds h) hi]
    congr 1
    refine Wd.eq h1.1.symm h1.2.1.symm ?_ h1.2.2.1.symm
    show ((evN r i : Nat) : Int) = _
    unfold evN
    rw [List.getElem?_eq_getElem hi]
    simp only
    omega
  · rw [List.getElem?_eq_none (l := r) (by omega)]
    exact List.getElem?_eq_none (by simp only [wordsOf, List.length_map, List.length_range]; omega)
/-- A vector that is written is read. -/
theorem vec_back {k : Int} {v0 b0 : Nat} {r : List Wd} (more : Bool) (h : RowOk k v0 b0 r) (hn : r.length ≤ 8191) (hv : v0 < 256 ^ vs k) (hb : b0 < 256 ^ 4) (hne : r = [] → more = true ∧ v0 = 0 ∧ b0 = 0) (rest : List UInt8) :
    vecAt k (vecBytes k more r ++ rest) = .row ⟨if more then [k] else [], r⟩ rest := by
  have hz := vs_le k
  have e1 : ((r.length : Int) + (if more then 8192 else 0)) = ((r.length + (if more then 8192 else 0) : Nat) : Int) := by split <;> simp
  have e2 : headV r = (v0 : Int) := by
    cases r with
    | nil => rw [(hne rfl).2.1]; rfl
    | cons a t => have := (h 0 a rfl).2.1; simp only [headV]; omega
  have e3 : headB r = (b0 : Int) := by
    cases r with
    | nil => rw [(hne rfl).2.2]; rfl
    | cons a t => have := (h 0 a rfl).2.2.1; simp only [headB]; omega
  have hmd : (r.length + (if more then 8192 else 0)) % 8192 = r.length := by split <;> omega
  have hm0 : r.length + (if more then 8192 else 0) ≠ 0 := by
    cases r with
    | nil => rw [(hne rfl).1]; simp
    | cons a t => simp
  have hmle : r.length + (if more then 8192 else 0) ≤ 16383 := by split <;> omega
  have hge : (8192 ≤ r.length + (if more then 8192 else 0)) ↔ more = true := by cases more <;> simp <;> omega
  unfold vecBytes
  rw [e1, e2, e3]
  generalize r.length + (if more then 8192 else 0) = m at *
  obtain ⟨q, hq⟩ : ∃ q, rows 3 6 (evN r) r.length (sz r.length 3) = q := ⟨_, rfl⟩
  have hql : q.length = sz r.length 3 := by rw [← hq, rows_length]
  have hqo : evsOk q r.length := by rw [← hq]; exact evsOk_rows _ _ (evN_kinds h)
  have hqw : wordsOf k r.length v0 b0 q = r := by rw [← hq]; exact row_words h
  rw [hq]
  obtain ⟨a, ha, hal⟩ : ∃ a, be (m : Int) 2 = a ∧ a.length = 2 := ⟨_, rfl, be_length _ _⟩
  obtain ⟨b, hbb, hbl⟩ : ∃ b, be (v0 : Int) (vs k) = b ∧ b.length = vs k := ⟨_, rfl, be_length _ _⟩
  obtain ⟨c, hc, hcl⟩ : ∃ c, be (b0 : Int) 4 = c ∧ c.length = 4 := ⟨_, rfl, be_length _ _⟩
  have na : num a = m := by rw [← ha]; exact num_nat m 2 (by omega)
  have nb : num b = v0 := by rw [← hbb]; exact num_nat v0 _ hv
  have nc : num c = b0 := by rw [← hc]; exact num_nat b0 4 hb
  rw [ha, hbb, hc]
  have hl : ((a ++ (b ++ (c ++ q))) ++ rest) = a ++ (b ++ (c ++ (q ++ rest))) := by simp
  rw [hl]
  have t0 : (a ++ (b ++ (c ++ (q ++ rest)))).take 2 = a := by rw [← hal, List.take_left]
  have d0 : (a ++ (b ++ (c ++ (q ++ rest)))).drop 2 = b ++ (c ++ (q ++ rest)) := by rw [← hal, List.drop_left]
  have t1 : (b ++ (c ++ (q ++ rest))).take (vs k) = b := by rw [← hbl, List.take_left]
  have d1 : (a ++ (b ++ (c ++ (q ++ rest)))).drop (2 + vs k) = c ++ (q ++ rest) := by rw [← List.drop_drop, d0, ← hbl, List.drop_left]
  have t2 : (c ++ (q ++ rest)).take 4 = c := by rw [← hcl, List.take_left]
  have d2 : (a ++ (b ++ (c ++ (q ++ rest)))).drop (2 + vs k + 4) = q ++ rest := by rw [← List.drop_drop, d1, ← hcl, List.drop_left]
  have t3 : (q ++ rest).take (sz r.length 3) = q := by rw [← hql, List.take_left]
  have d3 : (a ++ (b ++ (c ++ (q ++ rest)))).drop (2 + vs k + 4 + sz r.length 3) = rest := by rw [← List.drop_drop, d2, ← hql, List.drop_left]
  unfold vecAt
  rw [t0, d0, d1, d2, na, t1, t2, hmd, t3, d3, nb, nc]
  have hvo : vecOk m v0 b0 q := ⟨by rw [hmd]; exact hqo, by
    rw [hmd]
    rintro ⟨h0, h1⟩
    have := hne (List.eq_nil_of_length_eq_zero h0)
    omega⟩
  rw [if_neg (by simp [hal]), if_neg hm0, if_neg (by omega), if_neg (by simp only [List.length_append, hbl, hcl, hql]; omega), if_pos hvo]
  unfold sayOf
  rw [hmd, hqw]
  congr 2
  cases more
  · rw [if_neg (fun e => by have := hge.1 e; cases this)]; rfl
  · rw [if_pos (hge.2 rfl)]; rfl

theorem rowFrom_at (c : Nat) (a : Wd) (l : List Wd) : ∀ (i : Nat) (w : Wd), (l.take (rowFrom c a l))[i]? = some w → w.v = a.v + 1 + (i : Int) ∧ w.b = a.b := by
  induction c generalizing a l with
  | zero => intro i w h; simp [rowFrom] at h
  | succ c ih =>
    intro i w h
    cases l with
    | nil => simp [rowFrom] at h
    | cons x l =>
      simp only [rowFrom] at h
      split at h
      · rename_i hn
        rw [List.take_succ_cons] at h
        cases i with
        | zero =>
          simp at h
          subst h
          exact ⟨by rw [← hn.1]; simp, hn.2.symm⟩
        | succ i =>
          rw [List.getElem?_cons_succ] at h
          have := ih x l i w h
          refine ⟨?_, by rw [this.2]; exact hn.2.symm⟩
          rw [this.1, ← hn.1]
          simp only [Int.natCast_add, Int.cast_ofNat_Int]
          omega
      · simp at h
theorem row_ok {k : Int} {w : Wd} {t : List Wd} (hg : ∀ a ∈ w :: t, wordP a ∧ a.t = k) : RowOk k w.v.toNat w.b.toNat ((w :: t).take (rowLen (w :: t))) := by
  have h0 := hg w (by simp)
  have h1 := attr_range h0.1.1
  have h2 := h0.1.2
  intro i a ha
  have hm : a ∈ w :: t := List.mem_of_mem_take (List.mem_of_getElem? ha)
  have hh := hg a hm
  have he := hh.1.2
  simp only [rowLen, List.take_succ_cons] at ha
  cases i with
  | zero =>
    simp at ha
    subst ha
    exact ⟨hh.2, by simp; omega, by omega, he.1, he.2.1⟩
  | succ i =>
    rw [List.getElem?_cons_succ] at ha
    have := rowFrom_at 199 w t i a ha
    refine ⟨hh.2, ?_, ?_, he.1, he.2.1⟩
    · rw [this.1]
      simp only [Int.natCast_add, Int.cast_ofNat_Int]
      omega
    · rw [this.2]; omega
theorem stop_zero (k : Int) (rest : List UInt8) : vecAt k (0 :: 0 :: rest) = .stop rest := by
  unfold vecAt
  rw [if_neg (by simp), if_pos (by rfl)]
  rfl
/-- A part's vectors that are written are read. -/
theorem vecs_back {k : Int} : ∀ (N : Nat) (more s : Bool) (p : Msg) (l : List Wd) (rest : List UInt8), l.length ≤ N → (∀ a ∈ l, wordP a ∧ a.t = k) → (p.app ⟨if more then [k] else [], l⟩).Good → (s = true → more = true ∨ l ≠ []) →
    partLoop k s p (vecs k more l ++ 0 :: 0 :: rest) = some (p.app ⟨if more then [k] else [], l⟩, rest) := by
  have nil : ∀ (more s : Bool) (p : Msg) (rest : List UInt8), (p.app ⟨if more then [k] else [], []⟩).Good → (s = true → more = true) → partLoop k s p (vecs k more [] ++ 0 :: 0 :: rest) = some (p.app ⟨if more then [k] else [], []⟩, rest) := by
    intro more s p rest hg hs
    cases more
    · have : s = false := by cases s; rfl; have := hs rfl; cases this
      subst this
      rw [vecs_nil]
      simp only [Bool.false_eq_true, ite_false, List.nil_append]
      rw [part_stop (stop_zero k rest)]
      simp [Msg.app]
    · rw [vecs_nil]
      simp only [ite_true] at hg ⊢
      have hv := vec_back (k := k) (v0 := 0) (b0 := 0) (r := []) true (fun i a h => by simp at h) (by simp) (Nat.pow_pos (by omega)) (by decide) (fun _ => ⟨rfl, rfl, rfl⟩) (0 :: 0 :: rest)
      simp only [ite_true] at hv
      rw [part_row hv, if_pos (joins_good (u := Msg.none) (by rw [Msg.app_none]; exact hg)), part_stop (stop_zero k rest)]
      simp
  intro N
  induction N with
  | zero =>
    intro more s p l rest hl hg hG hs
    have : l = [] := List.eq_nil_of_length_eq_zero (by omega)
    subst this
    exact nil more s p rest hG (fun h => by rcases hs h with h | h; exact h; exact absurd rfl h)
  | succ N ih =>
    intro more s p l rest hl hg hG hs
    cases l with
    | nil => exact nil more s p rest hG (fun h => by rcases hs h with h | h; exact h; exact absurd rfl h)
    | cons w t =>
      have hrow := row_ok hg
      have h0 := hg w (by simp)
      have h1 := attr_range h0.1.1
      have h2 := h0.1.2
      have hle := rowFrom_le 199 w t
      have hn : ((w :: t).take (rowLen (w :: t))).length ≤ 8191 := by rw [List.length_take]; simp only [rowLen]; omega
      have hne : (w :: t).take (rowLen (w :: t)) = [] → more = true ∧ w.v.toNat = 0 ∧ w.b.toNat = 0 := fun h => by simp [rowLen] at h
      have hvv : w.v.toNat < 256 ^ vs k := by
        have := h1.2.2.1
        rw [h0.2] at this
        have e : ((256 ^ vs k : Nat) : Int) = (256 : Int) ^ vs k := by simp
        omega
      have hv := vec_back more hrow hn hvv (by have := h2.2.2.2; show w.b.toNat < 4294967296; omega) hne (vecs k false ((w :: t).drop (rowLen (w :: t))) ++ 0 :: 0 :: rest)
      rw [vecs_cons, List.append_assoc, part_row hv]
      have happ : (p.app ⟨if more then [k] else [], (w :: t).take (rowLen (w :: t))⟩).app ⟨[], (w :: t).drop (rowLen (w :: t))⟩ = p.app ⟨if more then [k] else [], w :: t⟩ := by
        simp only [Msg.app, List.append_nil, List.append_assoc, List.take_append_drop]
      have hG2 : (p.app ((⟨if more then [k] else [], (w :: t).take (rowLen (w :: t))⟩ : Msg).app ⟨[], (w :: t).drop (rowLen (w :: t))⟩)).Good := by rw [← Msg.app_assoc, happ]; exact hG
      rw [if_pos (joins_good hG2)]
      have hd : ((w :: t).drop (rowLen (w :: t))).length ≤ N := by rw [List.length_drop]; simp only [rowLen, List.length_cons] at hl ⊢; omega
      have := ih false false (p.app ⟨if more then [k] else [], (w :: t).take (rowLen (w :: t))⟩) ((w :: t).drop (rowLen (w :: t))) rest hd (fun a ha => hg a (List.mem_of_mem_drop ha)) (by
        simp only [Bool.false_eq_true, ite_false]
        rw [happ]; exact hG) (by simp)
      rw [this]
      simp only [Bool.false_eq_true, ite_false]
      rw [happ]
end Go.Proofs.Ythghedlgeceepaa
