/- Rows of numbers of the program's own: grown from what lies elsewhere. No condition but bounds on lengths. -/
import Derived.Test.YtkdnngcmiggoeaaJalive
import Derived.Test.YtkdnngcmiggoeaaFrame
namespace Go.Proofs.Ytkdnngcmiggoeaa
open Go.RowKit
set_option maxRecDepth 100000

def nmL (l : List Int) : List Value := l.map (Value.int .i64)
theorem nmL_append (l m : List Int) : nmL (l ++ m) = nmL l ++ nmL m := by simp [nmL]
theorem nmL_at {l : List Int} {k : Nat} (h : k < l.length) : (nmL l)[k]? = some (.int .i64 (l.getD k 0)) := by
  rw [nmL, List.getElem?_map, List.getD_eq_getElem?_getD, List.getElem?_eq_getElem h]
  rfl
def OwnN (w : World) (base : Nat) (A : Option Addr) (c : Nat) (l : List Int) : Prop := w.ownsRow base 3 1 (.slice A l.length c) l.length (nmL l)
theorem append_nm (w : World) (base : Nat) (A0 : Option Addr) (c0 n0 : Nat) (l : List Int) (hl0 : l.length = n0) (hown : OwnN w base A0 c0 l) (A : Option Addr) (m c : Nat) (l2 : List Int) (hl2 : l2.length = m) (hnone : A = none → c = 0) (hsrc : EvAt w w.heap.size A l2) (hn : l.length + m ≤ 1048576) (hbase : base ≤ w.heap.size) :
    ∃ a' c' w', (Builtin.append_ #[22, 22] 22 #[.slice A0 n0 c0, .slice A m c]).run Try.prog w = .ok (.slice a' (n0 + m) c') w' ∧ OwnN w' base a' c' (l ++ l2) ∧ w.grownBy w' (Value.slice A0 n0 c0).ownBlock := by
  subst hl0 hl2
  obtain ⟨i0, hi0, hz0, hz1, hz2⟩ := info_parts int_info
  obtain ⟨a', c', w', hr, ho, hgr, _, _⟩ := append_src w base 22 22 3 i0 _ 1 8 Try.underlying22 hi0 hz0 hz1 hz2 rfl (by decide) _ l.length (nmL l) hown A l2.length c (nmL l2) (by simp [nmL]) hnone
    (fun hpos => by
      obtain ⟨b, off, e, _, _⟩ := hsrc 0 hpos
      refine ⟨b, off, e, fun j u hu => ?_⟩
      have hj : j < l2.length := by have := (List.getElem?_eq_some_iff.1 hu).1; simpa [nmL] using this
      obtain ⟨b', off', e', _, p⟩ := hsrc j hj
      rw [e] at e'
      injection e' with e'
      injection e' with e1 e2
      subst e1 e2
      rw [nmL_at hj, Option.some.injEq] at hu
      subst hu
      exact p)
    (fun u hu => by
      obtain ⟨x, _, rfl⟩ := List.mem_map.1 hu
      rfl) (by unfold maxLen; omega) (by omega) hbase
  refine ⟨a', c', w', hr, ?_, hgr⟩
  unfold OwnN
  rw [nmL_append, List.length_append]
  exact ho
theorem OwnN.ev {w : World} {base c : Nat} {A : Option Addr} {l : List Int} (h : OwnN w base A c l) : EvAt w w.heap.size A l := fun k hk => by
  obtain ⟨b, e, hb, hc⟩ := own_at h (by omega)
  exact ⟨b, 0, e, hb, by rw [Nat.zero_add]; exact hc _ _ (nmL_at hk)⟩
theorem own_empty (w : World) (base size : Nat) (t : TypeId) (hb : base ≤ w.heap.size) : (w.alloc (.cells #[] t)).ownsRow base t size (.slice (some ⟨w.heap.size, 0, none⟩) 0 0) 0 [] :=
  ⟨by simp, .inr ⟨w.heap.size, 0, #[], rfl, hb, Blk.new w t #[], Nat.le_refl _, Nat.zero_le _, by simp, by simp⟩⟩
/-- A row of numbers that lies elsewhere, with some more behind it, as a row of one's own. -/
theorem nums_with (w : World) (base : Nat) (hb : base ≤ w.heap.size) (A : Option Addr) (len cap : Nat) (l tail : List Int) (hl : l.length = len) (hnone : A = none → cap = 0) (hsrc : EvAt w w.heap.size A l) (m : Nat) (hm : tail.length = m) (hn : len + m ≤ 1000000) :
    ∃ a1 c1 w3, (Builtin.append_ #[22, 22] 22 #[.slice (some ⟨w.heap.size, 0, none⟩) 0 0, .slice A len cap]).run Try.prog (w.alloc (.cells #[] 3)) = .ok (.slice a1 len c1) w3 ∧
      ∃ a2 c2 w5, (Builtin.append_ #[22, 22] 22 #[.slice a1 len c1, .slice (some ⟨w3.heap.size, 0, none⟩) m m]).run Try.prog (w3.alloc (.cells (nmL tail).toArray 3)) = .ok (.slice a2 (len + m) c2) w5 ∧
        OwnN w5 base a2 c2 (l ++ tail) ∧ Below base w w5 := by
  subst hm
  have b1 := bel_alloc w (.cells #[] 3)
  obtain ⟨a1, c1, w3, h1, o1, g1⟩ := append_nm (w.alloc (.cells #[] 3)) base (some ⟨w.heap.size, 0, none⟩) 0 0 [] rfl (own_empty w base 1 3 hb) A len cap l hl hnone ((hsrc.below b1).more b1.size) (by simp; omega) (Nat.le_trans hb b1.size)
  have b3 : Below base w w3 := (b1.mono hb).trans (bel_own (own_empty w base 1 3 hb) g1 (Nat.le_refl _) (Nat.le_trans hb b1.size))
  rw [Nat.zero_add] at h1
  rw [List.nil_append] at o1
  have b4 := bel_alloc w3 (.cells (nmL tail).toArray 3)
  have hs3 : base ≤ w3.heap.size := Nat.le_trans hb b3.size
  have o4 : OwnN (w3.alloc (.cells (nmL tail).toArray 3)) base a1 c1 l := World.ownsRow.alloc o1 _
  obtain ⟨a2, c2, w5, h2, o2, g2⟩ := append_nm (w3.alloc (.cells (nmL tail).toArray 3)) base a1 c1 len l hl o4 (some ⟨w3.heap.size, 0, none⟩) tail.length tail.length tail rfl (fun h => by cases h) (EvAt.blk (Blk.new w3 3 _) (by simp) rfl) (by omega) (Nat.le_trans hs3 b4.size)
  have o4' := o4
  unfold OwnN at o4'
  rw [hl] at o4'
  exact ⟨a1, c1, w3, h1, a2, c2, w5, h2, o2, (b3.trans (b4.mono hs3)).trans (bel_own o4' g2 (Nat.le_refl _) (Nat.le_trans hs3 b4.size))⟩
theorem IsRow.ev {w : World} {A : Option Addr} {len cap : Nat} {zs : List Int} (h : IsRow .i64 w A len cap zs) : EvAt w w.heap.size A (zs.take len) ∧ (zs.take len).length = len ∧ (A = none → cap = 0) := by
  have hl := h.len_le
  refine ⟨fun k hk => ?_, by rw [List.length_take]; omega, fun e => ?_⟩
  · rw [List.length_take] at hk
    obtain ⟨b, off, e, hb, hc⟩ := h.at_ (i := k) (by omega)
    refine ⟨b, off, e, hb, ?_⟩
    rw [hc, List.getD_eq_getElem?_getD, List.getD_eq_getElem?_getD, List.getElem?_take_of_lt (by omega)]
  · rcases h with ⟨_, _, hc, _⟩ | ⟨x, hx, _⟩
    · exact hc
    · rw [hx] at e; cases e
end Go.Proofs.Ytkdnngcmiggoeaa
