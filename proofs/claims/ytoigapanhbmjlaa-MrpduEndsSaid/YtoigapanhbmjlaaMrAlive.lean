/- What the laws of mrpdu ask first: a message that says nothing. No condition. -/
import Derived.Test.YtoigapanhbmjlaaMrReadM
import Derived.Test.YtoigapanhbmjlaaPut
namespace Go.Proofs.Ytoigapanhbmjlaa
open Go.RowKit

theorem readm_all (s : ByteArray) (w : World) (hs : s.size ≤ 100000) :
    Calls Try.prog 15 #[.string s] w fun e w' => ReadEnd s.data.toList e w' ∧ Below w.heap.size w w' := by
  cases h : s.data.toList with
  | nil => exact (read_bad s w hs (.inl h)).mono fun e w' hh => ⟨.inl ⟨.inl rfl, hh.1⟩, hh.2⟩
  | cons a t =>
    by_cases ha : a = 0
    · subst ha
      exact read_ok s t w hs h
    · exact (read_bad s w hs (.inr ⟨a, t, h, ha⟩)).mono fun e w' hh => ⟨.inl ⟨.inr ⟨a, t, rfl, ha⟩, hh.1⟩, hh.2⟩

set_option maxHeartbeats 1000000 in
theorem ofKind_nil (k : Int) (w : World) : Calls Try.prog 23 #[.slice none 0 0, .int .i64 k] w fun e w' => e = .returned (.int .i64 0) ∧ w' = w := by
  go_enter Try.func23, Try.ntmps23
  go_wp2_with fail
  go_loop [5] (fun i => i = .int .i64 0) (fun _ => 0)
  case atStart => rfl
  case round =>
    subst hrel
    go_wp2
    go_ret
    exact ⟨rfl, rfl⟩
set_option maxHeartbeats 1000000 in
theorem index_nil (k : Int) (w : World) : Calls Try.prog 46 #[.slice none 0 0, .int .i64 k] w fun e w' => e = .returned (.int .i64 (-1)) ∧ w' = w := by
  go_enter Try.func46, Try.ntmps46
  go_wp2_with fail
  go_loop [8] (fun i => i = .int .i64 0) (fun _ => 0)
  case atStart => rfl
  case round =>
    subst hrel
    go_wp2
    go_ret
    exact ⟨rfl, rfl⟩
theorem contains_nil (k : Int) (w : World) : Calls Try.prog 25 #[.slice none 0 0, .int .i64 k] w fun e w' => e = .returned (.bool false) ∧ w' = w := by
  go_enter Try.func25, Try.ntmps25
  go_wp2_with (go_at_call 46; refine (index_nil _ _).mono ?_; rintro e w' ⟨rfl, rfl⟩)
  go_ret
  exact ⟨rfl, rfl⟩
set_option maxHeartbeats 1000000 in
theorem putPart_nil (g : Addr) (k : Int) (w : World) : Calls Try.prog 24 #[.pointer (some g), .int .i64 k, .bool false, .slice none 0 0] w fun e w' => e = .returned (.tuple #[]) ∧ w' = w := by
  go_enter Try.func24, Try.ntmps24
  go_wp2
  exact bodyPost_ret (results_none rfl _ _ _) rfl ⟨rfl, rfl⟩

set_option maxHeartbeats 4000000 in
theorem bytes_nil (w : World) : Calls Try.prog 12 #[.agg #[.slice none 0 0, .slice none 0 0]] w fun e w' => e = .returned (.tuple #[.string ⟨#[0, 0, 0]⟩, .int .i64 0]) ∧ Below w.heap.size w w' := by
  have hg : Msg.goodB ⟨[], []⟩ = true := decide_eq_true good_none
  have HG := Lib.hid hg
  clear hg
  have hb := Blk.new w 25 #[.slice none 0 0, .slice none 0 0]
  have hbl := bel_alloc w (.cells #[.slice none 0 0, .slice none 0 0] 25)
  go_enter Try.func12, Try.ntmps12
  go_wp2_with fail
  generalize w.alloc (.cells #[.slice none 0 0, .slice none 0 0] 25) = W at *
  refine (good_all none none 0 0 [] [] W.heap.size W (Nat.le_refl _) (by simp) (by simp) (IntsAt.nil _ _ _) (WordsAt.nil _ _ _)).mono ?_
  rw [HG.out]
  rintro e w1 ⟨rfl, b1⟩
  have hb1 := hb.below b1 hb.lt
  have hbl1 := hbl.trans (b1.mono hbl.size)
  have hs1 := hbl1.size
  have hlt := hb1.lt
  have hw1 := IsW.new w1
  have hb2 := hb1.alloc (.cells #[.slice none 0 0] 52)
  have hbl2 := hbl1.alloc hs1 (.cells #[.slice none 0 0] 52)
  have hs2 : (w1.alloc (.cells #[.slice none 0 0] 52)).heap.size = w1.heap.size + 1 := by simp
  clear hb hbl b1 hb1 hbl1
  go_wp2_with fail
  generalize w1.alloc (.cells #[.slice none 0 0] 52) = W1 at *
  refine (put_any w1.heap.size (.slice none 0 0) [] 1 0 W1 hw1 (by simp)).mono ?_
  rintro e w2 ⟨rfl, v2, hw2, t2, m2⟩
  have hb3 := hb2.touch t2 (by rintro (e | e); omega; simp [Value.ownBlock] at e)
  have hbl3 := hbl2.trans (t2.below hbl2.size (by rintro j (rfl | e); exact hs1; simp [Value.ownBlock] at e))
  have hs3 := t2.size
  have hown3 : ∀ j, v2.ownBlock = some j → W1.heap.size ≤ j := fun j hj => by
    rcases m2 with h | ⟨k, hk, h⟩
    · rw [h] at hj; simp [Value.ownBlock] at hj
    · rw [h] at hj; injection hj with hj; omega
  have c0 : w2.cell? ⟨w.heap.size, 0, none⟩ = some (.slice none 0 0) := hb3.cell 0
  have c1 : w2.cell? ⟨w.heap.size, 1, none⟩ = some (.slice none 0 0) := hb3.cell 1
  clear hw1 t2 m2 hb2 hbl2
  have hc := Blk.new w2 3 #[.int .i64 1, .int .i64 2, .int .i64 3]
  have hbc := hb3.alloc (.cells #[.int .i64 1, .int .i64 2, .int .i64 3] 3)
  have hw3 : IsW (w2.alloc (.cells #[.int .i64 1, .int .i64 2, .int .i64 3] 3)) w1.heap.size v2 ([] ++ be 0 (near 1 8).toNat) := ⟨hw2.blk.alloc _, World.ownsRow.alloc hw2.own _⟩
  have hbl4 := hbl3.alloc hbl3.size (.cells #[.int .i64 1, .int .i64 2, .int .i64 3] 3)
  clear hb3 hw2
  go_wp2_with fail
  clear c0 c1
  generalize w2.alloc (.cells #[.int .i64 1, .int .i64 2, .int .i64 3] 3) = W3 at *
  go_loopw [5, 21] (fun u i wr => u = .slice none 0 0 ∧ Hid (∃ q, wr = W3.drewN q) ∧ (i = .int .i64 0 ∨ i = .int .i64 1 ∨ i = .int .i64 2 ∨ i = .int .i64 3)) (fun _ i _ => 3 - (intOf i).toNat)
  case atStart => exact ⟨rfl, Lib.hid ⟨0, rfl⟩, .inl rfl⟩
  case round =>
    obtain ⟨rfl, HQ, hi⟩ := hrel
    have HC : Hid (∀ j, wr.cell? ⟨w2.heap.size, j, none⟩ = #[Value.int .i64 1, .int .i64 2, .int .i64 3][j]?) := Lib.hid fun j => by obtain ⟨q, e⟩ := HQ.out; rw [e]; exact hc.cell j
    have c0 : wr.cell? ⟨w.heap.size, 0, none⟩ = some (.slice none 0 0) := by obtain ⟨q, e⟩ := HQ.out; rw [e]; exact hbc.cell 0
    rcases hi with rfl | rfl | rfl | rfl
    · have q0 : wr.cell? ⟨w2.heap.size, 0, none⟩ = some (.int .i64 1) := HC.out 0
      go_wp2_with (go_at_call 23; refine (ofKind_nil _ _).mono ?_; rintro e w' ⟨rfl, rfl⟩)
      go_quiet (first | (go_at_call 25; exact Calls.quiet_of_same (contains_nil _ _)) | (go_at_call 24; exact Calls.quiet_of_same (putPart_nil _ _ _)))
      go_wp2_with fail
      go_roundw
      case rel => exact ⟨rfl, Lib.hid (drewN_more HQ.out nq), .inr (.inl rfl)⟩
      case measure => decide
    · have q0 : wr.cell? ⟨w2.heap.size, 1, none⟩ = some (.int .i64 2) := HC.out 1
      go_wp2_with (go_at_call 23; refine (ofKind_nil _ _).mono ?_; rintro e w' ⟨rfl, rfl⟩)
      go_quiet (first | (go_at_call 25; exact Calls.quiet_of_same (contains_nil _ _)) | (go_at_call 24; exact Calls.quiet_of_same (putPart_nil _ _ _)))
      go_wp2_with fail
      go_roundw
      case rel => exact ⟨rfl, Lib.hid (drewN_more HQ.out nq), .inr (.inr (.inl rfl))⟩
      case measure => decide
    · have q0 : wr.cell? ⟨w2.heap.size, 2, none⟩ = some (.int .i64 3) := HC.out 2
      go_wp2_with (go_at_call 23; refine (ofKind_nil _ _).mono ?_; rintro e w' ⟨rfl, rfl⟩)
      go_quiet (first | (go_at_call 25; exact Calls.quiet_of_same (contains_nil _ _)) | (go_at_call 24; exact Calls.quiet_of_same (putPart_nil _ _ _)))
      go_wp2_with fail
      go_roundw
      case rel => exact ⟨rfl, Lib.hid (drewN_more HQ.out nq), .inr (.inr (.inr rfl))⟩
      case measure => decide
    · have hw4 : IsW wr w1.heap.size v2 ([] ++ be 0 (near 1 8).toNat) := by obtain ⟨q, e⟩ := HQ.out; rw [e]; exact ⟨hw3.blk, hw3.own⟩
      have hbl5 : Below w.heap.size w wr := by obtain ⟨q, e⟩ := HQ.out; rw [e]; exact bel_drewN hbl4 q
      clear c0 hc hbc hw3 hbl3 hbl4
      go_wp2_with fail
      refine (put_any w1.heap.size v2 _ 2 0 wr hw4 (by simp [be_length]; decide)).mono ?_
      rintro e w5 ⟨rfl, v5, hw5, t5, m5⟩
      have hbl6 := hbl5.trans (t5.below hbl5.size (by
        rintro j (rfl | e)
        · exact hs1
        · have := hown3 j e; omega))
      have ht : (⟨([] ++ be 0 (near 1 8).toNat ++ be 0 (near 2 8).toNat).toArray⟩ : ByteArray) = ⟨#[0, 0, 0]⟩ := by
        rw [near_is, near_is]
        rfl
      have HT := Lib.hid ht
      clear hw4 hbl5 t5 m5 ht
      go_wp2_with fail
      refine (wtext_any w1.heap.size v5 _ w5 hw5).mono ?_
      rw [HT.out]
      rintro e w6 ⟨rfl, rfl⟩
      go_wp2_with fail
      go_ret2
      exact ⟨rfl, hbl6⟩

theorem msg_nothing : msgLoop Msg.none [0, 0] = (Msg.none, false) := by
  rw [msg_end (by simp) (by decide)]
  simp
set_option maxHeartbeats 1000000 in
theorem alive_any (w : World) : Calls Try.prog 9 #[] w fun e w' => e = .returned (.bool true) ∧ Below w.heap.size w w' := by
  have hat : attrB 1 1 = true := by decide
  have HAT := Lib.hid hat
  clear hat
  go_enter Try.func9, Try.ntmps9
  go_wp2_with fail
  refine (bytes_nil w).mono ?_
  rintro e w1 ⟨rfl, b1⟩
  go_wp2_with fail
  refine (readm_all ⟨#[0, 0, 0]⟩ w1 (by decide)).mono ?_
  rintro e w2 ⟨hend, b2⟩
  rcases hend with ⟨hh, _⟩ | ⟨t, A, A', c, c', ht, rfl, _⟩
  · rcases hh with hh | ⟨a, t, hh, ha⟩
    · cases hh
    · injection hh with hh
      exact absurd hh.symm ha
  · have ht' : t = [0, 0] := by
      injection ht with _ ht
      exact ht.symm
    subst ht'
    rw [msg_nothing]
    have hb := b1.trans (b2.mono b1.size)
    have hs := hb.size
    simp only [Msg.none, List.length_nil]
    clear b1 b2 ht
    go_wp2_with (go_at_call 18; refine (attr_any 1 1 _).mono ?_; rw [HAT.out]; rintro e wz ⟨rfl, bz⟩)
    go_ret
    exact ⟨rfl, (hb.alloc hs _).trans (bz.mono (by simp; omega))⟩
end Go.Proofs.Ytoigapanhbmjlaa
