/- A wheel and the document's wheel side by side: the same timers, in whatever order. Its condition: fewer than 2^20 timers. -/
import Derived.Test.YtogghcbijdljkaaWref2
namespace Go.Proofs.Ytogghcbijdljkaa
open Go.RowKit
set_option maxRecDepth 100000

/-- No key twice. -/
def Apart (l : List Tm) : Prop := l.Pairwise fun a b => a.key ≠ b.key
theorem Apart.of_up {l : List Tm} (h : KeysUp l) : Apart l := List.Pairwise.imp (fun h => Int.ne_of_lt h) h
theorem Apart.perm {l m : List Tm} (h : Apart l) (hp : m.Perm l) : Apart m := (List.Perm.pairwise_iff (fun h => h.symm) hp).2 h
theorem stop_self {key : Int} {l : List Tm} (h : ∀ b ∈ l, b.key ≠ key) : stopT key l = l := by
  unfold stopT
  exact List.filter_eq_self.2 fun b hb => by simpa using h b hb
theorem put_stop {l : List Tm} (h : KeysUp l) (key due : Int) : (putT l key due).Perm (stopT key l ++ [⟨due, key⟩]) := by
  induction l with
  | nil => exact List.Perm.refl _
  | cons a l ih =>
    obtain ⟨h1, h2⟩ := List.pairwise_cons.1 h
    unfold putT
    by_cases c1 : a.key < key
    · rw [if_pos c1]
      have e : stopT key (a :: l) = a :: stopT key l := by
        unfold stopT
        rw [List.filter_cons_of_pos (by simpa using Int.ne_of_lt c1)]
      rw [e, List.cons_append]
      exact (ih h2).cons a
    · rw [if_neg c1]
      by_cases c2 : a.key = key
      · rw [if_pos c2]
        have e : stopT key (a :: l) = l := by
          have e1 : stopT key (a :: l) = stopT key l := by
            unfold stopT
            rw [List.filter_cons_of_neg (by simpa using c2)]
          rw [e1]
          exact stop_self fun b hb => by have := h1 b hb; omega
        rw [e]
        exact (List.perm_append_singleton _ _).symm
      · rw [if_neg c2]
        have e : stopT key (a :: l) = a :: l := stop_self fun b hb => by
          rcases List.mem_cons.1 hb with rfl | hb
          · exact c2
          · have := h1 b hb; omega
        rw [e]
        exact (List.perm_append_singleton _ _).symm
/-- The document's timers when the first j calls are made. -/
def rrunTo (s : List Cl) : Nat → List Tm
  | 0 => []
  | j + 1 => if (s.getD j cl0).n < 0 then rrunTo s j else stopT (s.getD j cl0).key (rrunTo s j) ++ [⟨(s.getD j cl0).n, (s.getD j cl0).key⟩]
theorem run_up (s : List Cl) (j : Nat) : KeysUp (runTo s j) := by
  induction j with
  | zero => exact List.Pairwise.nil
  | succ j ih =>
    unfold runTo
    split
    · exact ih
    · exact (put_keys ih).1
theorem rrun_perm (s : List Cl) (j : Nat) : (rrunTo s j).Perm (runTo s j) := by
  induction j with
  | zero => exact List.Perm.refl _
  | succ j ih =>
    unfold rrunTo runTo
    split
    · exact ih
    · exact (List.Perm.append_right _ (ih.filter _)).trans (put_stop (run_up s j) _ _).symm
theorem rrun_due (s : List Cl) (j : Nat) : ∀ x ∈ rrunTo s j, 0 ≤ x.due := by
  induction j with
  | zero => intro x hx; cases hx
  | succ j ih =>
    unfold rrunTo
    split
    · exact ih
    · rename_i h
      intro x hx
      rcases List.mem_append.1 hx with hx | hx
      · exact ih x (List.mem_filter.1 hx).1
      · rw [List.mem_singleton.1 hx]
        show 0 ≤ (s.getD j cl0).n
        omega
theorem due_mem {m : List Tm} (h : Apart m) {x : Tm} (hx : x ∈ m) : dueT m x.key = x.due := by
  induction m with
  | nil => cases hx
  | cons a m ih =>
    obtain ⟨h1, h2⟩ := List.pairwise_cons.1 h
    unfold dueT
    rcases List.mem_cons.1 hx with rfl | hx
    · rw [if_pos rfl]
    · rw [if_neg (h1 x hx)]
      exact ih h2 hx
/-- What pops next is due; without it the others are left. -/
theorem pop_next {m P K : List Tm} {i : Nat} (hm : m.Perm (P.drop i ++ K)) (ha : Apart m) (hi : i < P.length) : dueT m (P.getD i tm0).key = (P.getD i tm0).due ∧ (stopT (P.getD i tm0).key m).Perm (P.drop (i + 1) ++ K) ∧ Apart (stopT (P.getD i tm0).key m) := by
  have e : P.getD i tm0 = P[i] := by simp [List.getD_eq_getElem?_getD, List.getElem?_eq_getElem hi]
  rw [e]
  have hd : P.drop i = P[i] :: P.drop (i + 1) := List.drop_eq_getElem_cons hi
  rw [hd, List.cons_append] at hm
  have hb : Apart (P[i] :: (P.drop (i + 1) ++ K)) := ha.perm hm.symm
  obtain ⟨h1, h2⟩ := List.pairwise_cons.1 hb
  refine ⟨due_mem ha (hm.mem_iff.2 List.mem_cons_self), ?_, List.Pairwise.filter _ ha⟩
  refine (hm.filter _).trans ?_
  rw [List.filter_cons_of_neg (by simp)]
  have := stop_self (key := P[i].key) (l := P.drop (i + 1) ++ K) fun b hb => (h1 b hb).symm
  unfold stopT at this
  rw [this]
theorem pop_split (now : Int) (l : List Tm) : l.Perm (sortT (lateT now l) ++ keepT now l) :=
  ((List.filter_append_perm (lateB now) l).symm).trans (List.Perm.append_right _ (sortT_perm _).symm)
theorem late_mem {now : Int} {l : List Tm} {x : Tm} (hx : x ∈ sortT (lateT now l)) : x ∈ l ∧ x.due ≤ now := by
  have := (sortT_perm (lateT now l)).mem_iff.1 hx
  obtain ⟨h1, h2⟩ := List.mem_filter.1 this
  exact ⟨h1, of_decide_eq_true h2⟩
theorem keep_mem {now : Int} {l : List Tm} {x : Tm} (hx : x ∈ keepT now l) : x ∈ l ∧ now + 1 ≤ x.due := by
  obtain ⟨h1, h2⟩ := List.mem_filter.1 hx
  refine ⟨h1, ?_⟩
  have h2 : lateB now x = false := by simpa using h2
  have := of_decide_eq_false h2
  omega
/-- The document's wheel, its blocks among G. -/
structure RefF (w0 w : World) (g : Nat) (m : List Tm) (G : Nat → Prop) : Prop where
  at_ : ∃ lo, RefAt w g m lo
  self : G g
  foot : ∀ A c A' c', Blk w g 29 #[.slice A m.length c, .slice A' m.length c'] → (∀ q, blkOf A = some q → G q) ∧ (∀ q, blkOf A' = some q → G q)
  in_ : ∀ k, G k → w0.heap.size ≤ k ∧ k < w.heap.size
theorem ref_inj {w : World} {g n n' c1 c2 d1 d2 : Nat} {A A' B B' : Option Addr} (h : Blk w g 29 #[.slice A n c1, .slice A' n c2]) (h' : Blk w g 29 #[.slice B n' d1, .slice B' n' d2]) : A = B ∧ A' = B' := by
  unfold Blk at h h'
  rw [h] at h'
  injection h' with h'
  injection h' with h' _
  simp only [Array.mk.injEq, List.cons.injEq, Value.slice.injEq, and_true] at h'
  exact ⟨h'.1.1, h'.2.1⟩
theorem RefF.keep {w0 w w' : World} {g : Nat} {m : List Tm} {G p : Nat → Prop} (h : RefF w0 w g m G) (ht : Touch p w w') (hp : ∀ k, G k → ¬ p k) : RefF w0 w' g m G := by
  obtain ⟨lo, A, c, A', c', hb, hpr⟩ := h.at_
  obtain ⟨f1, f2⟩ := h.foot A c A' c' hb
  have hb' := hb.touch ht (hp g h.self)
  refine ⟨⟨lo, A, c, A', c', hb', hpr.heap (fun q hq => ht.block q (hpr.k.lt hq).2 (hp q (f1 q hq))) (fun q hq => ht.block q (hpr.d.lt hq).2 (hp q (f2 q hq)))⟩, h.self, fun B d B' d' hB => ?_, fun k hk => ⟨(h.in_ k hk).1, Nat.lt_of_lt_of_le (h.in_ k hk).2 ht.size⟩⟩
  obtain ⟨rfl, rfl⟩ := ref_inj hb' hB
  exact ⟨f1, f2⟩
theorem RefF.below {w0 w w' : World} {g : Nat} {m : List Tm} {G : Nat → Prop} (h : RefF w0 w g m G) (hb : Below w.heap.size w w') : RefF w0 w' g m G :=
  h.keep (Below.touch hb) fun k hk => by have := (h.in_ k hk).2; omega
theorem RefF.step {w0 w w' : World} {g : Nat} {m m' : List Tm} {G : Nat → Prop} (h : RefF w0 w g m G) (hs : w0.heap.size ≤ w.heap.size) (h1 : RefAt w' g m' w.heap.size) (ht : Touch (fun k => k = g) w w') :
    ∃ G', RefF w0 w' g m' G' ∧ ∀ k, G' k → G k ∨ w.heap.size ≤ k := by
  have hg := h.in_ g h.self
  have hg' : g < w'.heap.size := Nat.lt_of_lt_of_le hg.2 ht.size
  obtain ⟨A, c, A', c', hb, hpr⟩ := h1
  refine ⟨fun k => (k = g ∨ w.heap.size ≤ k) ∧ k < w'.heap.size, ⟨⟨w.heap.size, A, c, A', c', hb, hpr⟩, ⟨.inl rfl, hg'⟩, fun B d B' d' hB => ?_, fun k hk => ⟨hk.1.elim (fun e => by rw [e]; exact hg.1) (fun e => Nat.le_trans hs e), hk.2⟩⟩, fun k hk => hk.1.imp (fun e => by rw [e]; exact h.self) id⟩
  obtain ⟨rfl, rfl⟩ := ref_inj hb hB
  exact ⟨fun q hq => ⟨.inr (hpr.k.lt hq).1, (hpr.k.lt hq).2⟩, fun q hq => ⟨.inr (hpr.d.lt hq).1, (hpr.d.lt hq).2⟩⟩
/-- Both side by side; the first one's blocks lie below M. -/
def Side (w0 w : World) (M g : Nat) (l : List Tm) (gm : Nat) (m : List Tm) : Prop := ∃ F G, WheelF w0 w g l F ∧ RefF w0 w gm m G ∧ (∀ k, F k → ¬ G k) ∧ Below w0.heap.size w0 w ∧ ∀ k, F k → k < M
theorem Side.below {w0 w w' : World} {M g gm : Nat} {l m : List Tm} (h : Side w0 w M g l gm m) (hb : Below w.heap.size w w') : Side w0 w' M g l gm m := by
  obtain ⟨F, G, h1, h2, h3, h4, h5⟩ := h
  exact ⟨F, G, h1.below hb, h2.below hb, h3, h4.trans (hb.mono h4.size), h5⟩
theorem Side.reset {w0 w : World} {M g gm : Nat} {l m : List Tm} (h : Side w0 w M g l gm m) : Side w0 w w.heap.size g l gm m := by
  obtain ⟨F, G, h1, h2, h3, h4, _⟩ := h
  exact ⟨F, G, h1, h2, h3, h4, fun k hk => (h1.in_ k hk).2⟩
theorem Side.bel {w0 w : World} {M g gm : Nat} {l m : List Tm} (h : Side w0 w M g l gm m) : Below w0.heap.size w0 w := by
  obtain ⟨F, G, h1, h2, h3, h4, _⟩ := h
  exact h4
theorem Side.wheel {w0 w : World} {M g gm : Nat} {l m : List Tm} (h : Side w0 w M g l gm m) : WheelAt w g l := by
  obtain ⟨F, G, h1, _⟩ := h
  exact h1.at_
theorem Side.ref {w0 w : World} {M g gm : Nat} {l m : List Tm} (h : Side w0 w M g l gm m) : ∃ lo, RefAt w gm m lo := by
  obtain ⟨F, G, _, h2, _⟩ := h
  exact h2.at_
theorem side_set (w0 : World) (M g gm : Nat) (l m : List Tm) (key due : Int) (w : World) (h : Side w0 w M g l gm m) (hfew : l.length < 1048000) :
    Calls Try.prog 15 #[.pointer (some ⟨g, 0, none⟩), .int .i64 key, .int .i64 due] w fun e w' => (∃ v, e = .returned (.int .i64 v)) ∧ Side w0 w' w'.heap.size g (if due < 0 then l else putT l key due) gm m ∧ Touch (fun k => k < M) w w' := by
  obtain ⟨F, G, h1, h2, h3, h4, h5⟩ := h
  by_cases hd : due < 0
  · rw [if_pos hd]
    refine (set_neg g key due w hd).mono fun e w' hh => ?_
    obtain ⟨he, rfl⟩ := hh
    exact ⟨⟨_, he⟩, ⟨F, G, h1, h2, h3, h4, fun k hk => (h1.in_ k hk).2⟩, Touch.refl _ _⟩
  · rw [if_neg hd]
    refine (set_f w0 g l F key due w h1 h4.size (by omega) hfew).mono fun e w' hh => ?_
    obtain ⟨he, F2, k1, ht, hf⟩ := hh
    refine ⟨⟨_, he⟩, ⟨F2, G, k1, h2.keep ht (fun k hk hF => h3 k hF hk), fun k hk hk' => ?_, h4.trans (ht.below h4.size fun k hk => (h1.in_ k hk).1), fun k hk => (k1.in_ k hk).2⟩, ht.mono fun k _ hk => h5 k hk⟩
    rcases hf k hk with e | e
    · exact h3 k e hk'
    · have := (h2.in_ k hk').2
      omega
theorem side_pop (w0 : World) (M g gm : Nat) (l m : List Tm) (now : Int) (w : World) (h : Side w0 w M g l gm m) :
    Calls Try.prog 17 #[.pointer (some ⟨g, 0, none⟩), .int .i64 now] w fun e w' => ∃ gM : Nat, e = .returned (.slice (some ⟨gM, 0, none⟩) (sortT (lateT now l)).length (sortT (lateT now l)).length) ∧ KeysAt w' gM (sortT (lateT now l)) (sortT (lateT now l)).length ∧ gM ≠ gm ∧ Side w0 w' w'.heap.size g (keepT now l) gm m := by
  obtain ⟨F, G, h1, h2, h3, h4, h5⟩ := h
  refine (pop_f w0 g l F now w h1 h4.size).mono fun e w' hh => ?_
  obtain ⟨gM, he, hk, hgM, F2, k1, ht, hf⟩ := hh
  refine ⟨gM, he, hk, fun e => by have := (h2.in_ gm h2.self).2; omega, ⟨F2, G, k1, h2.keep ht (fun k hk hF => h3 k hF hk), fun k hk hk' => ?_, h4.trans (ht.below h4.size fun k hk => (h1.in_ k hk).1), fun k hk => (k1.in_ k hk).2⟩⟩
  rcases hf k hk with e | e
  · exact h3 k e hk'
  · have := (h2.in_ k hk').2
    omega
theorem side_step {w0 w w' : World} {M g gm : Nat} {l m m' : List Tm} (h : Side w0 w M g l gm m) (h1 : RefAt w' gm m' w.heap.size) (ht : Touch (fun k => k = gm) w w') : Side w0 w' w'.heap.size g l gm m' := by
  obtain ⟨F, G, k1, k2, k3, k4, k5⟩ := h
  obtain ⟨G2, r1, r2⟩ := k2.step k4.size h1 ht
  have hw : WheelF w0 w' g l F := k1.keep ht fun k hk e => k3 k hk (by rw [e]; exact k2.self)
  refine ⟨F, G2, hw, r1, fun k hk hk' => ?_, k4.trans (ht.below k4.size fun k hk => by rw [hk]; exact (k2.in_ gm k2.self).1), fun k hk => (hw.in_ k hk).2⟩
  rcases r2 k hk' with e | e
  · exact k3 k hk e
  · have := (k1.in_ k hk).2
    omega
theorem side_rset (w0 : World) (M g gm : Nat) (l m : List Tm) (key due : Int) (w : World) (h : Side w0 w M g l gm m) (hfew : m.length ≤ 1047000) :
    Calls Try.prog 16 #[.pointer (some ⟨gm, 0, none⟩), .int .i64 key, .int .i64 due] w fun e w' => (∃ v, e = .returned (.int .i64 v)) ∧ Side w0 w' w'.heap.size g l gm (if due < 0 then m else stopT key m ++ [⟨due, key⟩]) := by
  by_cases hd : due < 0
  · rw [if_pos hd]
    refine (rset_neg gm key due w hd).mono fun e w' hh => ?_
    obtain ⟨he, rfl⟩ := hh
    exact ⟨⟨_, he⟩, h.reset⟩
  · rw [if_neg hd]
    obtain ⟨lo, hr⟩ := h.ref
    refine (rset_any gm m lo key due w hr hfew (by omega)).mono fun e w' hh => ?_
    obtain ⟨he, h1, ht⟩ := hh
    exact ⟨⟨_, he⟩, side_step h h1 ht⟩
theorem side_rdue (w0 : World) (M g gm : Nat) (l m : List Tm) (key : Int) (w : World) (h : Side w0 w M g l gm m) (hfew : m.length ≤ 1047000) :
    Calls Try.prog 18 #[.pointer (some ⟨gm, 0, none⟩), .int .i64 key] w fun e w' => e = .returned (.int .i64 (dueT m key)) ∧ w = w' := by
  obtain ⟨lo, hr⟩ := h.ref
  exact rdue_any gm m lo key w hr hfew
theorem side_rstop (w0 : World) (M g gm : Nat) (l m : List Tm) (key : Int) (w : World) (h : Side w0 w M g l gm m) (hfew : m.length ≤ 1047000) :
    Calls Try.prog 19 #[.pointer (some ⟨gm, 0, none⟩), .int .i64 key] w fun e w' => e = .returned (.tuple #[]) ∧ Side w0 w' w'.heap.size g l gm (stopT key m) ∧ Touch (fun k => k = gm) w w' := by
  obtain ⟨lo, hr⟩ := h.ref
  refine (rstop_any gm m lo key w hr hfew).mono fun e w' hh => ?_
  obtain ⟨he, h1, ht⟩ := hh
  exact ⟨he, side_step h h1 ht, ht⟩
theorem KeysAt.touch {w w' : World} {gM gm : Nat} {P : List Tm} {j : Nat} (h : KeysAt w gM P j) (ht : Touch (fun k => k = gm) w w') (hne : gM ≠ gm) : KeysAt w' gM P j := by
  obtain ⟨cs, hb, h1, h2⟩ := h
  exact ⟨cs, hb.touch ht hne, h1, h2⟩
end Go.Proofs.Ytogghcbijdljkaa
