/- mrpdu.joins: may a message still be, with what a vector says behind it: the last pieces, put together, asked. Its condition: at most 2^20 types and words. -/
import Derived.Test.YtoigapanhbmjlaaMrGood
import Derived.Test.YtoigapanhbmjlaaMrOwn
namespace Go.Proofs.Ytoigapanhbmjlaa
open Go.RowKit

theorem map_add {A : Option Addr} {b off : Nat} (h : A = some ⟨b, off, none⟩) (k : Nat) : A.map (fun x => x.add k) = some ⟨b, off + k, none⟩ := by
  subst h
  simp only [Option.map_some, Addr.add_lit]
theorem IntsAt.drop {w : World} {B : Nat} {A : Option Addr} {l : List Int} (h : IntsAt w B A l) (n : Nat) : IntsAt w B (A.map (fun x => x.add n)) (l.drop n) := fun k hk => by
  rw [List.length_drop] at hk
  obtain ⟨b, off, rfl, hl, hc⟩ := h (n + k) (by omega)
  refine ⟨b, off + n, map_add rfl n, hl, ?_⟩
  have e : (l.drop n).getD k 0 = l.getD (n + k) 0 := by simp [List.getD_eq_getElem?_getD, List.getElem?_drop]
  rw [e, Nat.add_assoc]
  exact hc
theorem WordsAt.drop {w : World} {B : Nat} {A : Option Addr} {l : List Wd} (h : WordsAt w B A l) (n : Nat) : WordsAt w B (A.map (fun x => x.add (n * 4))) (l.drop n) := fun k hk => by
  rw [List.length_drop] at hk
  obtain ⟨b, off, rfl, hl, h0, h1, h2, h3⟩ := h (n + k) (by omega)
  have e : (l.drop n).getD k wd0 = l.getD (n + k) wd0 := by simp [List.getD_eq_getElem?_getD, List.getElem?_drop]
  have e4 : off + n * 4 + k * 4 = off + (n + k) * 4 := by omega
  refine ⟨b, off + n * 4, map_add rfl (n * 4), hl, ?_⟩
  rw [e, e4]
  exact ⟨h0, h1, h2, h3⟩
theorem IntsAt.take {w : World} {B : Nat} {A : Option Addr} {l : List Int} (h : IntsAt w B A l) (n : Nat) : IntsAt w B A (l.take n) := fun k hk => by
  rw [List.length_take] at hk
  have e : (l.take n).getD k 0 = l.getD k 0 := by simp [List.getD_eq_getElem?_getD, show k < n by omega]
  rw [e]
  exact h k (by omega)
theorem WordsAt.take {w : World} {B : Nat} {A : Option Addr} {l : List Wd} (h : WordsAt w B A l) (n : Nat) : WordsAt w B A (l.take n) := fun k hk => by
  rw [List.length_take] at hk
  have e : (l.take n).getD k wd0 = l.getD k wd0 := by simp [List.getD_eq_getElem?_getD, show k < n by omega]
  rw [e]
  exact h k (by omega)

set_option maxHeartbeats 1000000 in
theorem lastI_any (A : Option Addr) (c : Nat) (l : List Int) (B : Nat) (w : World) (hc : l.length ≤ c) (hn : A = none → c = 0) (hl : l.length ≤ 1048576) (h : IntsAt w B A l) :
    Calls Try.prog 63 #[.slice A l.length c] w fun e w' => (∃ A' c', e = .returned (.slice A' (lastL l).length c') ∧ IntsAt w B A' (lastL l) ∧ (A' = none → c' = 0)) ∧ w = w' := by
  rcases Nat.eq_zero_or_pos l.length with h0 | h0
  · have e : l = [] := List.eq_nil_of_length_eq_zero h0
    subst e
    go_enter Try.func63, Try.ntmps63
    go_wp2
    go_ret
    exact ⟨⟨_, _, rfl, IntsAt.nil _ _ _, fun e => by simpa using hn (by simpa using e)⟩, rfl⟩
  · have hd := h.drop (l.length - 1)
    have hll : (lastL l).length = 1 := by unfold lastL; rw [List.length_drop]; omega
    rw [hll]
    change IntsAt w B _ (lastL l) at hd
    generalize lastL l = q at *
    obtain ⟨j, hj⟩ : ∃ j, l.length = j + 1 := ⟨l.length - 1, by omega⟩
    rw [hj] at hc hl hd ⊢
    rw [Nat.add_sub_cancel] at hd
    clear h h0 hj
    go_enter Try.func63, Try.ntmps63
    go_wp2
    go_ret
    exact ⟨⟨_, _, rfl, hd, fun e => by
      have := hn (by cases A with | none => rfl | some a => simp at e)
      omega⟩, rfl⟩
set_option maxHeartbeats 1000000 in
theorem lastW_any (A : Option Addr) (c : Nat) (l : List Wd) (B : Nat) (w : World) (hc : l.length ≤ c) (hn : A = none → c = 0) (hl : l.length ≤ 1048576) (h : WordsAt w B A l) :
    Calls Try.prog 65 #[.slice A l.length c] w fun e w' => (∃ A' c', e = .returned (.slice A' (lastL l).length c') ∧ WordsAt w B A' (lastL l) ∧ (A' = none → c' = 0)) ∧ w = w' := by
  rcases Nat.eq_zero_or_pos l.length with h0 | h0
  · have e : l = [] := List.eq_nil_of_length_eq_zero h0
    subst e
    go_enter Try.func65, Try.ntmps65
    go_wp2
    go_ret
    exact ⟨⟨_, _, rfl, WordsAt.nil _ _ _, fun e => by simpa using hn (by simpa using e)⟩, rfl⟩
  · have hd := h.drop (l.length - 1)
    have hll : (lastL l).length = 1 := by unfold lastL; rw [List.length_drop]; omega
    rw [hll]
    change WordsAt w B _ (lastL l) at hd
    generalize lastL l = q at *
    obtain ⟨j, hj⟩ : ∃ j, l.length = j + 1 := ⟨l.length - 1, by omega⟩
    rw [hj] at hc hl hd ⊢
    rw [Nat.add_sub_cancel] at hd
    clear h h0 hj
    go_enter Try.func65, Try.ntmps65
    go_wp2
    go_ret
    exact ⟨⟨_, _, rfl, hd, fun e => by
      have := hn (by cases A with | none => rfl | some a => simp at e)
      omega⟩, rfl⟩

set_option maxHeartbeats 1000000 in
theorem growI_any (n : Nat) (w : World) (hn : n ≤ 2097152) :
    Calls Try.prog 69 #[.slice none 0 0, .int .i64 n] w fun e w' => (∃ A c, e = .returned (.slice A 0 c) ∧ w'.ownsRow w.heap.size 3 1 (.slice A 0 c) 0 []) ∧ Below w.heap.size w w' := by
  rcases Nat.eq_zero_or_pos n with h0 | h0
  · subst h0
    go_enter Try.func69, Try.ntmps69
    go_wp2
    go_ret
    exact ⟨⟨_, _, rfl, World.ownsRow_nil _ _ _ _⟩, Below.refl _ _⟩
  · obtain ⟨i0, hi0, hz0, hz1, hz2⟩ := info_parts int_info
    have HR := Lib.hid (Lib.run_append_nil_zeros (P := Try.prog) w 22 3 22 3 i0 (.int .i64 0) .i64 .i64 Try.underlying22 Try.underlying3 hi0 hz0 n h0 (by omega) (by omega) (by rw [hz2]; omega))
    have hge := grownCap_ge w n 0 3
    have hle := grownCap_le_maxLen w n 0 3 (by unfold maxLen; omega)
    have hown : ∀ cs : Array Value, cs.size = grownCap w n 0 3 * 1 → ((w.alloc (.cells cs 3)).drew).ownsRow w.heap.size 3 1 (.slice (some ⟨w.heap.size, 0, none⟩) 0 (grownCap w n 0 3)) 0 [] := fun cs hc => World.ownsRow_made w cs _ (Nat.le_refl _) hle hc
    have hbel : ∀ cs : Array Value, Below w.heap.size w ((w.alloc (.cells cs 3)).drew) := fun cs => bel_drewN (bel_alloc w _) 1
    generalize grownCap w n 0 3 = cap at *
    go_enter Try.func69, Try.ntmps69
    go_wp2_with (at_builtin; refine Lib.wpList_append_run _ rfl _ _ _ _ rfl _ _ rfl rfl _ _ HR.out ?_)
    go_ret
    exact ⟨⟨_, _, rfl, hown _ (by simp [size_zeroCells]; omega)⟩, hbel _⟩
set_option maxHeartbeats 1000000 in
theorem growW_any (n : Nat) (w : World) (hn : n ≤ 2097152) :
    Calls Try.prog 70 #[.slice none 0 0, .int .i64 n] w fun e w' => (∃ A c, e = .returned (.slice A 0 c) ∧ w'.ownsRow w.heap.size 43 4 (.slice A 0 c) 0 []) ∧ Below w.heap.size w w' := by
  rcases Nat.eq_zero_or_pos n with h0 | h0
  · subst h0
    go_enter Try.func70, Try.ntmps70
    go_wp2
    go_ret
    exact ⟨⟨_, _, rfl, World.ownsRow_nil _ _ _ _⟩, Below.refl _ _⟩
  · obtain ⟨i0, hi0, hz0, hz1, hz2⟩ := info_parts word_info
    have HR := Lib.hid (Lib.run_append_nil_zeros (P := Try.prog) w 23 3 23 43 i0 (.agg #[.int .i64 0, .int .i64 0, .int .i64 0, .int .i64 0]) .i64 .i64 Try.underlying23 Try.underlying3 hi0 hz0 n h0 (by omega) (by omega) (by rw [hz2]; omega))
    have hge := grownCap_ge w n 0 43
    have hle := grownCap_le_maxLen w n 0 43 (by unfold maxLen; omega)
    have hown : ∀ cs : Array Value, cs.size = grownCap w n 0 43 * 4 → ((w.alloc (.cells cs 43)).drew).ownsRow w.heap.size 43 4 (.slice (some ⟨w.heap.size, 0, none⟩) 0 (grownCap w n 0 43)) 0 [] := fun cs hc => World.ownsRow_made w cs _ (Nat.le_refl _) hle hc
    have hbel : ∀ cs : Array Value, Below w.heap.size w ((w.alloc (.cells cs 43)).drew) := fun cs => bel_drewN (bel_alloc w _) 1
    generalize grownCap w n 0 43 = cap at *
    go_enter Try.func70, Try.ntmps70
    go_wp2_with (at_builtin; refine Lib.wpList_append_run _ rfl _ _ _ _ rfl _ _ rfl rfl _ _ HR.out ?_)
    go_ret
    exact ⟨⟨_, _, rfl, hown _ (by simp [size_zeroCells]; omega)⟩, hbel _⟩
set_option maxHeartbeats 4000000 in
set_option maxRecDepth 100000 in
theorem concatI_any (g : Nat) (A1 A2 : Option Addr) (c1 c2 : Nat) (l1 l2 : List Int) (w : World) (hg : g < w.heap.size) (k0 : w.cell? ⟨g, 0, none⟩ = some (.slice A1 l1.length c1)) (k1 : w.cell? ⟨g, 1, none⟩ = some (.slice A2 l2.length c2))
    (h1 : IntsAt w w.heap.size A1 l1) (h2 : IntsAt w w.heap.size A2 l2) (n1 : A1 = none → c1 = 0) (n2 : A2 = none → c2 = 0) (hl1 : l1.length ≤ 524288) (hl2 : l2.length ≤ 524288) :
    Calls Try.prog 62 #[.slice (some ⟨g, 0, none⟩) 2 2] w fun e w' => (∃ A c, e = .returned (.slice A (l1 ++ l2).length c) ∧ IntsAt w' w'.heap.size A (l1 ++ l2)) ∧ Below w.heap.size w w' := by
  have hs0 : ([] ++ l1 : List Int) = l1 := List.nil_append _
  generalize hm1 : l1.length = m1 at *
  generalize hm2 : l2.length = m2 at *
  have M1 := Lib.hid hm1
  have M2 := Lib.hid hm2
  clear hm1 hm2
  go_enter Try.func62, Try.ntmps62
  go_wp2_with fail
  go_loop [3, 11] (fun t i => (t = .int .i64 0 ∧ i = .int .i64 0) ∨ (t = .int .i64 m1 ∧ i = .int .i64 1) ∨ (t = .int .i64 ((m1 : Int) + (m2 : Int)) ∧ i = .int .i64 2)) (fun _ i => 2 - (intOf i).toNat)
  case atStart => exact .inl ⟨rfl, rfl⟩
  case round =>
    rcases hrel with ⟨rfl, rfl⟩ | ⟨rfl, rfl⟩ | ⟨rfl, rfl⟩
    · have hn : decide (m1 < 0) = false := by simp
      go_wp2
      go_round
      case rel => exact .inr (.inl ⟨by go_num, rfl⟩)
      case measure => decide
    · have hw1 : IntKind.i64.wrap ((m1 : Int) + (m2 : Int)) = (m1 : Int) + (m2 : Int) := IntWalk.i64_in _ (by omega)
      go_wp2
      go_round
      case rel => exact .inr (.inr ⟨rfl, rfl⟩)
      case measure => decide
    · obtain ⟨mm, hmm⟩ : ∃ mm : Nat, (m1 : Int) + (m2 : Int) = mm := ⟨m1 + m2, by omega⟩
      have MM : Hid (m1 + m2 = mm) := Lib.hid (by omega)
      rw [hmm]
      clear hmm
      go_wp2_with fail
      refine (growI_any mm _ (by have := MM.out; omega)).mono ?_
      rintro e w1 ⟨⟨A0, c0, rfl, hown⟩, b1⟩
      go_wp2_with fail
      have how : OwnI w1 w.heap.size A0 c0 [] := hown
      clear hown
      go_loopw [6, 27] (fun v i wr => ∃ (q : List Int) (A : Option Addr) (c : Nat), v = .slice A q.length c ∧ OwnI wr w.heap.size A c q ∧ Below w.heap.size w wr ∧ ((i = .int .i64 0 ∧ q = []) ∨ (i = .int .i64 1 ∧ q = l1) ∨ (i = .int .i64 2 ∧ q = l1 ++ l2))) (fun _ i _ => 2 - (intOf i).toNat)
      case atStart => exact ⟨[], A0, c0, rfl, how, b1, .inl ⟨rfl, rfl⟩⟩
      case round =>
        clear how
        obtain ⟨q, A, c, rfl, how, bw, hcase⟩ := hrel
        have x0 := (bw.cell (p := ⟨g, 0, none⟩) hg).trans k0
        have x1 := (bw.cell (p := ⟨g, 1, none⟩) hg).trans k1
        rcases hcase with ⟨rfl, rfl⟩ | ⟨rfl, rfl⟩ | ⟨rfl, rfl⟩
        · obtain ⟨a', c', w2, hr, ho, hgr, hmv, _⟩ := append_ints wr w.heap.size A c [] how A1 c1 w.heap.size l1 n1 (h1.below bw) (by have := M1.out; simp; omega) bw.size
          rw [hs0, M1.out] at hr
          rw [hs0] at ho
          have HR := Lib.hid hr
          have b2 : Below w.heap.size w w2 := bw.grown hgr bw.size (fun k hk => (World.ownsRow.lt how k hk).1)
          clear hr hgr hmv how bw x1
          go_wp2_with (at_builtin; refine Lib.wpList_append_run _ rfl _ _ _ _ rfl _ _ rfl rfl _ _ HR.out ?_)
          go_roundw
          case rel => exact ⟨l1, a', c', by rw [M1.out], ho, b2, .inr (.inl ⟨rfl, rfl⟩)⟩
          case measure => decide
        · obtain ⟨a', c', w2, hr, ho, hgr, hmv, _⟩ := append_ints wr w.heap.size A c q how A2 c2 w.heap.size l2 n2 (h2.below bw) (by have := M1.out; have := M2.out; omega) bw.size
          rw [M2.out] at hr
          have HR := Lib.hid hr
          have b2 : Below w.heap.size w w2 := bw.grown hgr bw.size (fun k hk => (World.ownsRow.lt how k hk).1)
          clear hr hgr hmv how bw x0
          go_wp2_with (at_builtin; refine Lib.wpList_append_run _ rfl _ _ _ _ rfl _ _ rfl rfl _ _ HR.out ?_)
          go_roundw
          case rel => exact ⟨q ++ l2, a', c', by rw [List.length_append], ho, b2, .inr (.inr ⟨rfl, rfl⟩)⟩
          case measure => decide
        · have hat := OwnI.at_ how
          go_wp2_with fail
          go_ret
          exact ⟨⟨_, _, rfl, hat⟩, bw⟩
set_option maxHeartbeats 4000000 in
set_option maxRecDepth 100000 in
theorem concatW_any (g : Nat) (A1 A2 : Option Addr) (c1 c2 : Nat) (l1 l2 : List Wd) (w : World) (hg : g < w.heap.size) (k0 : w.cell? ⟨g, 0, none⟩ = some (.slice A1 l1.length c1)) (k1 : w.cell? ⟨g, 1, none⟩ = some (.slice A2 l2.length c2))
    (h1 : WordsAt w w.heap.size A1 l1) (h2 : WordsAt w w.heap.size A2 l2) (n1 : A1 = none → c1 = 0) (n2 : A2 = none → c2 = 0) (hl1 : l1.length ≤ 524288) (hl2 : l2.length ≤ 524288) :
    Calls Try.prog 64 #[.slice (some ⟨g, 0, none⟩) 2 2] w fun e w' => (∃ A c, e = .returned (.slice A (l1 ++ l2).length c) ∧ WordsAt w' w'.heap.size A (l1 ++ l2)) ∧ Below w.heap.size w w' := by
  have hs0 : ([] ++ l1 : List Wd) = l1 := List.nil_append _
  generalize hm1 : l1.length = m1 at *
  generalize hm2 : l2.length = m2 at *
  have M1 := Lib.hid hm1
  have M2 := Lib.hid hm2
  clear hm1 hm2
  go_enter Try.func64, Try.ntmps64
  go_wp2_with fail
  go_loop [3, 11] (fun t i => (t = .int .i64 0 ∧ i = .int .i64 0) ∨ (t = .int .i64 m1 ∧ i = .int .i64 1) ∨ (t = .int .i64 ((m1 : Int) + (m2 : Int)) ∧ i = .int .i64 2)) (fun _ i => 2 - (intOf i).toNat)
  case atStart => exact .inl ⟨rfl, rfl⟩
  case round =>
    rcases hrel with ⟨rfl, rfl⟩ | ⟨rfl, rfl⟩ | ⟨rfl, rfl⟩
    · have hn : decide (m1 < 0) = false := by simp
      go_wp2
      go_round
      case rel => exact .inr (.inl ⟨by go_num, rfl⟩)
      case measure => decide
    · have hw1 : IntKind.i64.wrap ((m1 : Int) + (m2 : Int)) = (m1 : Int) + (m2 : Int) := IntWalk.i64_in _ (by omega)
      go_wp2
      go_round
      case rel => exact .inr (.inr ⟨rfl, rfl⟩)
      case measure => decide
    · obtain ⟨mm, hmm⟩ : ∃ mm : Nat, (m1 : Int) + (m2 : Int) = mm := ⟨m1 + m2, by omega⟩
      have MM : Hid (m1 + m2 = mm) := Lib.hid (by omega)
      rw [hmm]
      clear hmm
      go_wp2_with fail
      refine (growW_any mm _ (by have := MM.out; omega)).mono ?_
      rintro e w1 ⟨⟨A0, c0, rfl, hown⟩, b1⟩
      go_wp2_with fail
      have how : OwnW w1 w.heap.size A0 c0 [] := hown
      clear hown
      go_loopw [6, 27] (fun v i wr => ∃ (q : List Wd) (A : Option Addr) (c : Nat), v = .slice A q.length c ∧ OwnW wr w.heap.size A c q ∧ Below w.heap.size w wr ∧ ((i = .int .i64 0 ∧ q = []) ∨ (i = .int .i64 1 ∧ q = l1) ∨ (i = .int .i64 2 ∧ q = l1 ++ l2))) (fun _ i _ => 2 - (intOf i).toNat)
      case atStart => exact ⟨[], A0, c0, rfl, how, b1, .inl ⟨rfl, rfl⟩⟩
      case round =>
        clear how
        obtain ⟨q, A, c, rfl, how, bw, hcase⟩ := hrel
        have x0 := (bw.cell (p := ⟨g, 0, none⟩) hg).trans k0
        have x1 := (bw.cell (p := ⟨g, 1, none⟩) hg).trans k1
        rcases hcase with ⟨rfl, rfl⟩ | ⟨rfl, rfl⟩ | ⟨rfl, rfl⟩
        · obtain ⟨a', c', w2, hr, ho, hgr, hmv, _⟩ := append_words wr w.heap.size A c [] how A1 c1 w.heap.size l1 n1 (h1.below bw) (by have := M1.out; simp; omega) bw.size
          rw [hs0, M1.out] at hr
          rw [hs0] at ho
          have HR := Lib.hid hr
          have b2 : Below w.heap.size w w2 := bw.grown hgr bw.size (fun k hk => (World.ownsRow.lt how k hk).1)
          clear hr hgr hmv how bw x1
          go_wp2_with (at_builtin; refine Lib.wpList_append_run _ rfl _ _ _ _ rfl _ _ rfl rfl _ _ HR.out ?_)
          go_roundw
          case rel => exact ⟨l1, a', c', by rw [M1.out], ho, b2, .inr (.inl ⟨rfl, rfl⟩)⟩
          case measure => decide
        · obtain ⟨a', c', w2, hr, ho, hgr, hmv, _⟩ := append_words wr w.heap.size A c q how A2 c2 w.heap.size l2 n2 (h2.below bw) (by have := M1.out; have := M2.out; omega) bw.size
          rw [M2.out] at hr
          have HR := Lib.hid hr
          have b2 : Below w.heap.size w w2 := bw.grown hgr bw.size (fun k hk => (World.ownsRow.lt how k hk).1)
          clear hr hgr hmv how bw x0
          go_wp2_with (at_builtin; refine Lib.wpList_append_run _ rfl _ _ _ _ rfl _ _ rfl rfl _ _ HR.out ?_)
          go_roundw
          case rel => exact ⟨q ++ l2, a', c', by rw [List.length_append], ho, b2, .inr (.inr ⟨rfl, rfl⟩)⟩
          case measure => decide
        · have hat := OwnW.at_ how
          go_wp2_with fail
          go_ret
          exact ⟨⟨_, _, rfl, hat⟩, bw⟩
end Go.Proofs.Ytoigapanhbmjlaa
