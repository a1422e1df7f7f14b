/- A key's timer set, told. Its condition: fewer than 2^20 timers. -/
import Derived.Test.YtogghcbijdljkaaWins3
namespace Go.Proofs.Ytogghcbijdljkaa
open Go.RowKit
set_option maxRecDepth 100000

/-- Timers with a key's set. -/
def putT (l : List Tm) (key due : Int) : List Tm :=
  match l with
  | [] => [⟨due, key⟩]
  | a :: l => if a.key < key then a :: putT l key due else if a.key = key then ⟨due, key⟩ :: l else ⟨due, key⟩ :: a :: l
/-- When a key's is due; -1: it has none. -/
def dueT (l : List Tm) (key : Int) : Int :=
  match l with
  | [] => -1
  | a :: l => if a.key = key then a.due else dueT l key
theorem getD_cons (a : Tm) (l : List Tm) (i : Nat) : (a :: l).getD (i + 1) tm0 = l.getD i tm0 := List.getD_cons_succ
/-- It is put where it belongs. -/
theorem put_at {l : List Tm} {key due : Int} {k : Nat} (h : AtKey l key k) :
    putT l key due = if k < l.length ∧ (l.getD k tm0).key = key then l.set k ⟨due, key⟩ else insT l k ⟨due, key⟩ := by
  induction l generalizing k with
  | nil =>
    obtain rfl : k = 0 := by have := h.1; simpa using this
    simp [putT, insT]
  | cons a l ih =>
    cases k with
    | zero =>
      have h0 := h.2.2 0 (Nat.le_refl _) (by simp)
      simp only [List.getD_cons_zero] at h0 ⊢
      simp only [putT]
      rw [if_neg (by omega)]
      by_cases e : a.key = key
      · rw [if_pos e, if_pos ⟨by simp, e⟩]; rfl
      · rw [if_neg e, if_neg (fun h => e h.2)]; rfl
    | succ k =>
      have h0 := h.2.1 0 (by omega)
      simp only [List.getD_cons_zero] at h0
      have hk : AtKey l key k := ⟨by have := h.1; simp at this; omega, fun i hi => by have := h.2.1 (i + 1) (by omega); rwa [getD_cons] at this, fun i hi hl => by have := h.2.2 (i + 1) (by omega) (by simpa using hl); rwa [getD_cons] at this⟩
      have := ih hk
      simp only [putT]
      rw [if_pos h0, this, getD_cons]
      by_cases e : k < l.length ∧ (l.getD k tm0).key = key
      · rw [if_pos e, if_pos ⟨by simpa using e.1, e.2⟩]; rfl
      · rw [if_neg e, if_neg (fun h => e ⟨by simpa using h.1, h.2⟩)]; simp [insT]
theorem due_none {l : List Tm} {key : Int} (h : ∀ b ∈ l, b.key ≠ key) : dueT l key = -1 := by
  induction l with
  | nil => rfl
  | cons a l ih =>
    simp only [dueT]
    rw [if_neg (h a (by simp)), ih (fun b hb => h b (by simp [hb]))]
theorem due_at {l : List Tm} {key : Int} {k : Nat} (hu : KeysUp l) (h : AtKey l key k) : dueT l key = if k < l.length ∧ (l.getD k tm0).key = key then (l.getD k tm0).due else -1 := by
  induction l generalizing k with
  | nil => simp [dueT]
  | cons a l ih =>
    cases k with
    | zero =>
      have h0 := h.2.2 0 (Nat.le_refl _) (by simp)
      simp only [List.getD_cons_zero] at h0 ⊢
      simp only [dueT]
      by_cases e : a.key = key
      · rw [if_pos e, if_pos ⟨by simp, e⟩]
      · rw [if_neg e, if_neg (fun h => e h.2)]
        exact due_none fun b hb => by have := (List.pairwise_cons.1 hu).1 b hb; omega
    | succ k =>
      have h0 := h.2.1 0 (by omega)
      simp only [List.getD_cons_zero] at h0
      have hk : AtKey l key k := ⟨by have := h.1; simp at this; omega, fun i hi => by have := h.2.1 (i + 1) (by omega); rwa [getD_cons] at this, fun i hi hl => by have := h.2.2 (i + 1) (by omega) (by simpa using hl); rwa [getD_cons] at this⟩
      simp only [dueT]
      rw [if_neg (by omega), ih (List.pairwise_cons.1 hu).2 hk, getD_cons]
      simp
theorem put_keys {l : List Tm} {key due : Int} (h : KeysUp l) : KeysUp (putT l key due) ∧ ∀ b ∈ putT l key due, b.key = key ∨ b ∈ l := by
  induction l with
  | nil => exact ⟨by simp [putT, KeysUp], by simp [putT]⟩
  | cons a l ih =>
    have h' := List.pairwise_cons.1 h
    obtain ⟨i1, i2⟩ := ih h'.2
    simp only [putT]
    by_cases e1 : a.key < key
    · rw [if_pos e1]
      refine ⟨List.pairwise_cons.2 ⟨fun b hb => ?_, i1⟩, fun b hb => ?_⟩
      · rcases i2 b hb with e | e
        · omega
        · exact h'.1 b e
      · rw [List.mem_cons] at hb
        rcases hb with rfl | hb
        · exact .inr (by simp)
        · rcases i2 b hb with e | e
          · exact .inl e
          · exact .inr (by simp [e])
    · rw [if_neg e1]
      by_cases e2 : a.key = key
      · rw [if_pos e2]
        refine ⟨List.pairwise_cons.2 ⟨fun b hb => by have := h'.1 b hb; show key < b.key; omega, h'.2⟩, fun b hb => ?_⟩
        rw [List.mem_cons] at hb
        rcases hb with rfl | hb
        · exact .inl rfl
        · exact .inr (by simp [hb])
      · rw [if_neg e2]
        refine ⟨List.pairwise_cons.2 ⟨fun b hb => ?_, h⟩, fun b hb => ?_⟩
        · rw [List.mem_cons] at hb
          show key < b.key
          rcases hb with rfl | hb
          · omega
          · have := h'.1 b hb; omega
        · rw [List.mem_cons] at hb
          rcases hb with rfl | hb
          · exact .inl rfl
          · exact .inr hb
theorem put_length (l : List Tm) (key due : Int) : (putT l key due).length ≤ l.length + 1 := by
  induction l with
  | nil => simp [putT]
  | cons a l ih =>
    simp only [putT]
    split
    · simp; omega
    · split <;> simp
theorem due_put (l : List Tm) (key due k : Int) (h : KeysUp l) : dueT (putT l key due) k = if k = key then due else dueT l k := by
  induction l with
  | nil =>
    simp only [putT, dueT]
    by_cases e : k = key
    · subst e; simp
    · rw [if_neg (fun e2 => e e2.symm), if_neg e]
  | cons a l ih =>
    have i1 := ih (List.pairwise_cons.1 h).2
    simp only [putT]
    by_cases e1 : a.key < key
    · rw [if_pos e1]
      simp only [dueT]
      by_cases e : a.key = k
      · rw [if_pos e, if_pos e, if_neg (by omega)]
      · rw [if_neg e, if_neg e, i1]
    · rw [if_neg e1]
      by_cases e2 : a.key = key
      · rw [if_pos e2]
        simp only [dueT]
        by_cases e : k = key
        · subst e; simp
        · rw [if_neg (fun e3 => e e3.symm), if_neg e, if_neg (by omega)]
      · rw [if_neg e2]
        simp only [dueT]
        by_cases e : k = key
        · subst e; simp
        · rw [if_neg (fun e3 => e e3.symm), if_neg e]
/-- The blocks that a wheel stands on. -/
def WFoot (w : World) (g k : Nat) : Prop := k = g ∨ ∃ A n c, Blk w g 74 #[.slice A n c] ∧ (Value.slice A n c).ownBlock = some k
theorem own_setk {w : World} {base g n c size : Nat} {e : TypeId} {xs : List Value} (h : w.ownsRow base e size (.slice (some ⟨g, 0, none⟩) n c) n xs) (j : Nat) (u : Value) : (w.setCell ⟨g, j, none⟩ u).ownsRow base e size (.slice (some ⟨g, 0, none⟩) n c) n (xs.set j u) := by
  refine ⟨by rw [List.length_set]; exact h.1, .inr ?_⟩
  rcases h.2 with ⟨h, _⟩ | ⟨g', cap, cur, he, hb, hg, hn, hm, hs, ht⟩
  · cases h
  · injection he with e1 e2 e3
    injection e1 with e1
    injection e1 with e1
    subst e1 e3
    refine ⟨g, c, cur.setIfInBounds j u, rfl, hb, ?_, hn, hm, by simpa using hs, ?_⟩
    · simp [World.setCell, Array.getElem?_modify, hg]
    · rw [Array.toList_setIfInBounds, List.take_set, ht]
theorem tmL_set (l : List Tm) (k : Nat) (due : Int) (h : k < l.length) : tmL (l.set k ⟨due, (l.getD k tm0).key⟩) = (tmL l).set (k * 2) (.int .i64 due) := by
  induction l generalizing k with
  | nil => simp at h
  | cons a l ih =>
    cases k with
    | zero => simp [tmL, Tm.cells]
    | succ k =>
      rw [getD_cons, List.set_cons_succ, tmL, ih k (by simpa using h), tmL, List.set_append_right _ _ (by simp [Tm.cells]; omega)]
      congr 2
      simp [Tm.cells]; omega
theorem foot_blk {w : World} {g k : Nat} {A : Option Addr} {n c : Nat} (hb : Blk w g 74 #[.slice A n c]) (h : WFoot w g k) : k = g ∨ (Value.slice A n c).ownBlock = some k := by
  rcases h with h | ⟨A2, n2, c2, hb2, h2⟩
  · exact .inl h
  · right
    have e := (hb.cell 0).symm.trans (hb2.cell 0)
    simp at e
    obtain ⟨e1, e2, e3⟩ := e
    subst e1 e2 e3
    exact h2
set_option maxHeartbeats 2000000 in
theorem set_neg (g : Nat) (key due : Int) (w : World) (hd : due < 0) :
    Calls Try.prog 15 #[.pointer (some ⟨g, 0, none⟩), .int .i64 key, .int .i64 due] w fun e w' => e = .returned (.int .i64 1) ∧ w = w' := by
  have d1 : decide (due < 0) = true := decide_eq_true hd
  go_enter Try.func15, Try.ntmps15
  go_wp2_with fail
  go_ret
  exact ⟨rfl, rfl⟩
set_option maxHeartbeats 4000000 in
theorem set_any (g : Nat) (l : List Tm) (key due : Int) (w : World) (h : WheelAt w g l) (hd : 0 ≤ due) (hfew : l.length < 1048000) :
    Calls Try.prog 15 #[.pointer (some ⟨g, 0, none⟩), .int .i64 key, .int .i64 due] w fun e w' => e = .returned (.int .i64 0) ∧ WheelAt w' g (putT l key due) ∧ Touch (WFoot w g) w w' ∧ (∀ k, WFoot w' g k → WFoot w g k ∨ w.heap.size ≤ k) := by
  have HF := Lib.hid (find_any g l key w h)
  have hup := h.up
  obtain ⟨A, c, hb, ho⟩ := h.row
  have d1 : decide (due < 0) = false := decide_eq_false (by omega)
  have HPUT := Lib.hid (fun k (hk : AtKey l key k) => put_at (due := due) hk)
  have HUP := Lib.hid (put_keys (key := key) (due := due) hup).1
  have HLEN := Lib.hid (put_length l key due)
  have HFEW := Lib.hid hfew
  clear h hup
  go_enter Try.func15, Try.ntmps15
  go_wp2_with fail
  refine HF.out.mono ?_
  rintro e w1 ⟨k, hk, rfl, b1⟩
  have hput := HPUT.out k hk
  have hb1 : Blk w1 g 74 #[.slice A l.length c] := hb.below b1 hb.lt
  have ho1 : OwnT w1 0 A c l := own_heap ho fun j hj => b1.block j (World.ownsRow.lt ho j hj).2
  have hfoot : ∀ j, (j = g ∨ (Value.slice A l.length c).ownBlock = some j) → WFoot w g j := fun j hj => by
    rcases hj with hj | hj
    · exact .inl hj
    · exact .inr ⟨A, _, c, hb, hj⟩
  have c0 : w1.cell? ⟨g, 0, none⟩ = some (.slice A l.length c) := hb1.cell 0
  by_cases hex : k < l.length ∧ (l.getD k tm0).key = key
  · rw [if_pos hex] at hput
    rw [decide_eq_true hex]
    obtain ⟨gA, cap, e, _, hlA⟩ := ho1.form (show 0 < l.length by omega)
    injection e with e1 _ e3
    subst e1 e3
    have hgA : g ≠ gA := fun e => own_ne ho1 hb1 (by decide) (by rw [e]; rfl)
    obtain ⟨b', off', e', _, p0, p1⟩ := ho1.at_ k hex.1
    injection e' with e'
    injection e' with e1 e2
    subst e1 e2
    rw [Nat.zero_add] at p0
    have f0 : w1.frozen? ⟨gA, k * 2, none⟩ = false := ho1.frozenAt (k * 2)
    have hfin : WheelAt (w1.setCell ⟨gA, k * 2, none⟩ (.int .i64 due)) g (putT l key due) := by
      refine ⟨⟨some ⟨gA, 0, none⟩, c, ?_, ?_⟩, HUP.out, Nat.le_trans HLEN.out (by have := HFEW.out; omega)⟩
      · rw [hput, List.length_set]
        exact hb1.far hgA _
      · have := own_setk ho1 (k * 2) (.int .i64 due)
        rw [← tmL_set l k due hex.1, hex.2] at this
        unfold OwnT
        rw [hput, List.length_set]
        exact this
    have htch : Touch (WFoot w g) w (w1.setCell ⟨gA, k * 2, none⟩ (.int .i64 due)) :=
      Touch.set_ ((Below.touch b1).mono (fun j hj hp => absurd hp (by omega))) (fun _ => hfoot gA (.inr rfl)) _
    have hnew : ∀ j, WFoot (w1.setCell ⟨gA, k * 2, none⟩ (.int .i64 due)) g j → WFoot w g j ∨ w.heap.size ≤ j := fun j hj =>
      .inl (hfoot j (foot_blk (hb1.far hgA _) hj))
    have HFIN := Lib.hid (And.intro hfin (And.intro htch hnew))
    obtain ⟨n, hnn⟩ : ∃ n, l.length = n := ⟨_, rfl⟩
    have hkn : k < n := by omega
    have k0 : (0 : Int) ≤ k := by omega
    have k1 : (k : Int) < n := by omega
    rw [hnn] at c0
    clear hfin htch hnew hput hex hfoot hb ho hb1 ho1 b1 hk hnn HF HPUT hgA hlA p1 hfew hd hkn
    go_wp2_with fail
    go_ret
    exact ⟨rfl, HFIN.out⟩
  · rw [if_neg hex] at hput
    rw [decide_eq_false hex]
    have hW := (Below.refl w1.heap.size w1).alloc (Nat.le_refl _) (.cells #[.int .i64 due, .int .i64 key] 46)
    have hv := Blk.new w1 46 #[.int .i64 due, .int .i64 key]
    have ho2 : OwnT (w1.alloc (.cells #[.int .i64 due, .int .i64 key] 46)) 0 A c l := ho1.alloc _
    have hb2 := hb1.alloc (.cells #[.int .i64 due, .int .i64 key] 46)
    have hins := insert_any A c k w1.heap.size l ⟨due, key⟩ 0 _ ho2 (by omega) hv (fun e => Nat.lt_irrefl _ (World.ownsRow.lt ho1 _ e).2) hk.1 (Nat.zero_le _)
    have hi0 : (0 : Int) ≤ k := by omega
    obtain ⟨n, hnn⟩ : ∃ n, l.length = n := ⟨_, rfl⟩
    have hkn : (k : Int) ≤ n := by have := hk.1; omega
    rw [hnn] at c0 hins
    have HINS := Lib.hid hins
    have HPT := Lib.hid hput
    have HB2 := Lib.hid (And.intro hb2 (And.intro ho2 (And.intro hW b1)))
    have HFT := Lib.hid hfoot
    have HNN := Lib.hid hnn
    have HK := Lib.hid hk.1
    clear hins hput hfoot hb ho hb1 ho1 b1 hk hnn HF HPUT hfew hd hex hW hv ho2 hb2
    go_wp2_with fail
    refine HINS.out.mono ?_
    rintro e w3 ⟨a', c', rfl, ho3, hg3, hmv⟩
    have hb3 : Blk w3 g 74 #[.slice A l.length c] := blk_grown HB2.out.1 HB2.out.2.1 (by decide) (by rw [HNN.out]; exact hg3)
    have c3 : w3.cell? ⟨g, 0, none⟩ = some (.slice A n c) := by have := hb3.cell 0; rw [HNN.out] at this; exact this
    have f3 : w3.frozen? ⟨g, 0, none⟩ = false := hb3.frozen 0
    have hlen : (insT l k ⟨due, key⟩).length = l.length + 1 := insT_length _ _ _ HK.out
    have hbf : Blk (w3.setCell ⟨g, 0, none⟩ (.slice a' (insT l k ⟨due, key⟩).length c')) g 74 #[.slice a' (insT l k ⟨due, key⟩).length c'] := Blk.set_ hb3 0 _
    have hfin : WheelAt (w3.setCell ⟨g, 0, none⟩ (.slice a' (insT l k ⟨due, key⟩).length c')) g (putT l key due) := by
      refine ⟨⟨a', c', ?_, ?_⟩, HUP.out, Nat.le_trans HLEN.out (by have := HFEW.out; omega)⟩
      · rw [HPT.out]; exact hbf
      · rw [HPT.out]; exact ownsRow_setCell_other (a := ⟨g, 0, none⟩) ho3 (own_ne ho3 hb3 (by decide)) _
    have htch : Touch (WFoot w g) w (w3.setCell ⟨g, 0, none⟩ (.slice a' (insT l k ⟨due, key⟩).length c')) := by
      have b1 := HB2.out.2.2.2
      have t1 : Touch (WFoot w g) w (w1.alloc (.cells #[.int .i64 due, .int .i64 key] 46)) := ((Below.touch b1).mono (fun j hj hp => absurd hp (by omega))).alloc _
      have t2 : Touch (WFoot w g) w w3 := t1.trans ⟨hg3.os, hg3.tape, hg3.output, hg3.size, fun j hj hp => hg3.block j hj (fun e => hp (HFT.out j (.inr (by rw [HNN.out]; exact e.symm))))⟩
      exact t2.set_ (fun _ => .inl rfl) _
    have hnew : ∀ j, WFoot (w3.setCell ⟨g, 0, none⟩ (.slice a' (insT l k ⟨due, key⟩).length c')) g j → WFoot w g j ∨ w.heap.size ≤ j := fun j hj => by
      rcases foot_blk hbf hj with h | h
      · exact .inl (.inl h)
      · rcases hmv with hm | ⟨q, hq, hm⟩
        · exact .inl (HFT.out j (.inr ((block_any _ _ _ _ _).trans (hm.symm.trans ((block_any _ _ _ _ _).trans h)))))
        · right
          have e := (block_any a' (insT l k ⟨due, key⟩).length c' 0 0).symm.trans h
          rw [hm] at e
          injection e with e
          have := HB2.out.2.2.2.size
          have h5 := HB2.out.2.2.1.size
          omega
    have HFIN := Lib.hid (And.intro hfin (And.intro htch hnew))
    obtain ⟨n3, hn3⟩ : ∃ n3, (insT l k ⟨due, key⟩).length = n3 := ⟨_, rfl⟩
    rw [hn3] at HFIN ⊢
    clear hfin htch hnew hbf hb3 hlen hmv hg3 ho3 hn3
    go_wp2_with fail
    go_ret
    exact ⟨rfl, HFIN.out⟩
end Go.Proofs.Ytogghcbijdljkaa
