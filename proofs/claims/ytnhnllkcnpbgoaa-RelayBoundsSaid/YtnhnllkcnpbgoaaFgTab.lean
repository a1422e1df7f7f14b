/- The program's table of places (layer 18): where it lies, New, Find, Drop, All, Fails. Its condition: at most 2^20 places. -/
import Derived.Test.YtnhnllkcnpbgoaaFgFind
import Derived.Test.YtnhnllkcnpbgoaaFgCut
namespace Go.Proofs.Ytnhnllkcnpbgoaa
open Go.RowKit
set_option maxRecDepth 100000

/-- The program's table with the set F of its blocks. -/
structure PtAt (w : World) (B : Nat) (F : Nat → Prop) (g : Nat) (s : Dt) (A : Option Addr) (c : Nat) : Prop where
  blk : Blk w g 54 #[.slice A s.l.length c, .int .i64 s.f]
  row : OwnL 49 w B A c s.l
  fg : F g
  fr : ∀ k, (Value.slice A s.l.length c).ownBlock = some k → F k
  lo : ∀ k, F k → B ≤ k ∧ k < w.heap.size
def Pt (w : World) (B : Nat) (F : Nat → Prop) (g : Nat) (s : Dt) : Prop := ∃ A c, PtAt w B F g s A c
theorem PtAt.keep {w w' : World} {B g c : Nat} {F G : Nat → Prop} {d : Dt} {A : Option Addr} (h : PtAt w B F g d A c) (ht : Touch G w w') (hd : ∀ k, G k → ¬ F k) : PtAt w' B F g d A c := by
  refine ⟨h.blk.touch ht fun hg => hd g hg h.fg, own_heap h.row fun k hk => ht.block k (World.ownsRow.lt h.row k hk).2 fun hg => hd k hg (h.fr k hk), h.fg, h.fr, fun k hk => ⟨(h.lo k hk).1, Nat.lt_of_lt_of_le (h.lo k hk).2 ht.size⟩⟩
theorem PtAt.below {w w' : World} {B g c : Nat} {F : Nat → Prop} {d : Dt} {A : Option Addr} (h : PtAt w B F g d A c) (hb : Below w.heap.size w w') : PtAt w' B F g d A c := by
  refine ⟨h.blk.below hb h.blk.lt, own_heap h.row fun k hk => hb.block k (World.ownsRow.lt h.row k hk).2, h.fg, h.fr, fun k hk => ⟨(h.lo k hk).1, Nat.lt_of_lt_of_le (h.lo k hk).2 hb.size⟩⟩
theorem PtAt.ne {w : World} {B g c : Nat} {F : Nat → Prop} {d : Dt} {A : Option Addr} (h : PtAt w B F g d A c) : (Value.slice A d.l.length c).ownBlock ≠ some g := own_ne h.row h.blk (by decide)
theorem PtAt.wide {w : World} {B g c : Nat} {F G : Nat → Prop} {d : Dt} {A : Option Addr} (h : PtAt w B F g d A c) (hF : ∀ k, F k → G k) (hG : ∀ k, G k → B ≤ k ∧ k < w.heap.size) : PtAt w B G g d A c :=
  ⟨h.blk, h.row, hF _ h.fg, fun k hk => hF k (h.fr k hk), hG⟩
theorem PtAt.base {w : World} {B g c : Nat} {F : Nat → Prop} {d : Dt} {A : Option Addr} (h : PtAt w B F g d A c) : B ≤ w.heap.size := by
  have := h.lo g h.fg
  omega
theorem PtAt.cell {w : World} {B g c : Nat} {F : Nat → Prop} {d : Dt} {A : Option Addr} (h : PtAt w B F g d A c) (k : Nat) (hk : k < d.l.length) : ∃ b off, A = some ⟨b, off, none⟩ ∧ b < w.heap.size ∧ PlCells w b (off + k * 5) (d.l.getD k pl0) := h.row.at_ k hk
/-- Nothing but the heap above has changed: the same table, with more blocks of its own. -/
theorem PtAt.grown {w w' : World} {B g c : Nat} {F : Nat → Prop} {d : Dt} {A : Option Addr} (h : PtAt w B F g d A c) (hb : Below w.heap.size w w') : PtAt w' B (grow F w w') g d A c :=
  (h.below hb).wide (fun _ => .inl) fun k hk => by
    have := h.base
    have := hb.size
    rcases hk with hk | hk
    · have := h.lo k hk; omega
    · omega
/-- The row has changed, and what came of it is stored. -/
theorem PtAt.store {w w1 w2 : World} {B g c c' : Nat} {F : Nat → Prop} {s : Dt} {A A' : Option Addr} {l' : List Pl} (h : PtAt w B F g s A c) (hb : Below w.heap.size w w1) (ht : w1.grownBy w2 (Value.slice A s.l.length c).ownBlock) (ho : OwnL 49 w2 B A' c' l')
    (hm : (Value.slice A' 0 0).ownBlock = (Value.slice A 0 0).ownBlock ∨ ∃ k, w1.heap.size ≤ k ∧ (Value.slice A' 0 0).ownBlock = some k) :
    w2.frozen? ⟨g, 0, none⟩ = false ∧ w2.cell? ⟨g, 0, none⟩ = some (.slice A s.l.length c) ∧ Touch F w (w2.setCell ⟨g, 0, none⟩ (.slice A' l'.length c')) ∧ PtAt (w2.setCell ⟨g, 0, none⟩ (.slice A' l'.length c')) B (grow F w (w2.setCell ⟨g, 0, none⟩ (.slice A' l'.length c'))) g ⟨l', s.f⟩ A' c' := by
  have h1 := h.below hb
  have hb2 : Blk w2 g 54 #[.slice A s.l.length c, .int .i64 s.f] := blk_grown h1.blk h1.row (by decide) ht
  have s1 := hb.size
  have s2 := ht.size
  have sB := h.base
  have t1 : Touch F w1 w2 := ⟨ht.os, ht.tape, ht.output, ht.size, fun k hk hF => ht.block k hk (fun e => hF (h.fr k (by rw [e])))⟩
  have t2 : Touch F w w1 := (Below.touch hb).mono (fun k hk hp => absurd hp (by omega))
  have t3 : Touch F w w2 := t2.trans t1
  have hsz : (w2.setCell ⟨g, 0, none⟩ (.slice A' l'.length c')).heap.size = w2.heap.size := by simp [World.setCell]
  refine ⟨hb2.frozen 0, hb2.cell 0, t3.set_ (fun _ => h.fg) _, hb2.set_ 0 _, ?_, .inl h.fg, fun k hk => ?_, fun k hk => ?_⟩
  · refine own_heap ho fun k hk => Below.heap_setCell _ _ _ k (fun e => ?_)
    subst e
    exact own_ne ho hb2 (by decide) hk
  · rw [block_any _ _ _ 0 0] at hk
    rcases hm with hm | ⟨q, hq, hm⟩
    · exact .inl (h.fr k (by rw [block_any _ _ _ 0 0, ← hm]; exact hk))
    · rw [hm] at hk
      injection hk with hk
      subst hk
      have := (World.ownsRow.lt ho q (by rw [block_any _ _ _ 0 0]; exact hm)).2
      exact .inr ⟨by omega, by rw [hsz]; exact this⟩
  · rw [hsz]
    rcases hk with hk | hk
    · have := h.lo k hk; omega
    · rw [hsz] at hk; omega
theorem touch_grown {w w' : World} {q : Option Nat} (h : Touch (fun k => q = some k) w w') : w.grownBy w' q := ⟨h.os, h.tape, h.output, h.size, fun k hk hne => h.block k hk (fun e => hne e.symm)⟩
/- Where the search stops, in a row that is in order. -/
theorem at_ix {l : List Pl} {v m : Int} {k : Nat} (hs : Srt l) (h : AtK l v m k) : (k < l.length ∧ hereK l v m k = true ∧ ixP v m l = some k) ∨ (hereK l v m k = false ∧ ixP v m l = none) := by
  have hp := List.pairwise_iff_getElem.1 hs
  by_cases hh : k < l.length ∧ (l.getD k pl0).is v m
  · refine .inl ⟨hh.1, by unfold hereK; rw [decide_eq_true hh.1, decide_eq_true hh.2]; rfl, ixP_at hh.1 hh.2 fun j hj hi => ?_⟩
    have h1 := hp j k (by omega) hh.1 hj
    have h2 := hh.2
    rw [getD_get hh.1] at h2
    rw [getD_get (by omega)] at hi
    unfold ltK at h1
    unfold Pl.is at *
    omega
  · refine .inr ⟨?_, ixP_no fun i hi he => ?_⟩
    · unfold hereK
      by_cases h1 : k < l.length
      · rw [decide_eq_false (fun q => hh ⟨h1, q⟩), Bool.and_false]
      · rw [decide_eq_false h1, Bool.false_and]
    · rw [getD_get hi] at he
      rcases Nat.lt_or_ge i k with c | c
      · have hk : k - 1 < l.length := by have := h.le; omega
        rcases h.lo with h0 | h0
        · omega
        · rw [getD_get hk] at h0
          by_cases e : i = k - 1
          · subst e; unfold ltK kf at h0; unfold Pl.is at he; simp only at h0; omega
          · have h1 := hp i (k - 1) hi hk (by omega)
            unfold ltK kf at h0; unfold Pl.is at he; unfold ltK at h1; simp only at h0; omega
      · have hkl : k < l.length := by omega
        rcases h.hi with h0 | h0
        · omega
        · by_cases e : i = k
          · subst e; exact hh ⟨hi, by rw [getD_get hi]; exact he⟩
          · have h1 := hp k i hkl hi (by omega)
            rw [getD_get hkl] at h0
            unfold ltK kf at h0; unfold Pl.is at he; unfold ltK at h1; simp only at h0; omega
theorem ltK_kf (y x : Pl) : ltK y (kf x.v x.m) ↔ ltK y x := by unfold ltK kf; exact Iff.rfl
theorem ins_at {l : List Pl} {x : Pl} {k : Nat} (hs : Srt l) (h : AtK l x.v x.m k) : insK l k x = insP x l := by
  induction l generalizing k with
  | nil =>
    obtain rfl : k = 0 := by have := h.le; simpa using this
    rfl
  | cons y l ih =>
    obtain ⟨h1, h2⟩ := List.pairwise_cons.1 hs
    cases k with
    | zero =>
      rcases h.hi with h0 | h0
      · simp at h0
      · rw [List.getD_cons_zero, ltK_kf] at h0
        unfold insP
        rw [if_neg h0]
        rfl
    | succ k =>
      have hk : k ≤ l.length := by have := h.le; simpa using this
      have hyx : ltK y x := by
        rcases h.lo with h0 | h0
        · omega
        · rw [Nat.add_sub_cancel, ltK_kf] at h0
          cases k with
          | zero => simpa using h0
          | succ k =>
            rw [List.getD_cons_succ] at h0
            exact ltK_trans (h1 _ (getD_mem (by omega))) h0
      unfold insP
      rw [if_pos hyx, ← ih h2 ⟨hk, ?_, ?_⟩]
      · rfl
      · rcases h.lo with h0 | h0
        · omega
        · cases k with
          | zero => exact .inl rfl
          | succ k =>
            refine .inr ?_
            rw [Nat.add_sub_cancel, List.getD_cons_succ] at h0
            simpa using h0
      · rcases h.hi with h0 | h0
        · exact .inl (by simpa using h0)
        · exact .inr (by simpa using h0)
/- The calls. -/
theorem fnew_any (w : World) (B : Nat) (hB : B ≤ w.heap.size) : Calls Try.prog 10 #[] w fun e w' => ∃ g : Nat, e = .returned (.pointer (some ⟨g, 0, none⟩)) ∧ Below w.heap.size w w' ∧ Pt w' B (grow noF w w') g ⟨[], 0⟩ := by
  have hb := bel_alloc w (.cells #[.slice none 0 0, .int .i64 0] 54)
  have hn := Blk.new w 54 #[.slice none 0 0, .int .i64 0]
  have HE := Lib.hid (show Below w.heap.size w (w.alloc (.cells #[.slice none 0 0, .int .i64 0] 54)) ∧ Pt (w.alloc (.cells #[.slice none 0 0, .int .i64 0] 54)) B (grow noF w (w.alloc (.cells #[.slice none 0 0, .int .i64 0] 54))) w.heap.size ⟨[], 0⟩ from ⟨hb, none, 0, hn, World.ownsRow_nil _ _ _ _, .inr ⟨Nat.le_refl _, hn.lt⟩, (fun k hk => by cases hk), fun k hk => by
    rcases hk with hk | hk
    · exact absurd hk id
    · exact ⟨by omega, hk.2⟩⟩)
  clear hb hn
  go_enter Try.func10, Try.ntmps10
  go_wp2_with fail
  go_ret
  exact ⟨w.heap.size, rfl, HE.out⟩
set_option maxHeartbeats 1000000 in
theorem tfind_any {w : World} {B g c : Nat} {F : Nat → Prop} {s : Dt} {A : Option Addr} (h : PtAt w B F g s A c) (hn : s.l.length ≤ 1048000) (v m : Int) :
    Calls Try.prog 24 #[.pointer (some ⟨g, 0, none⟩), .int .i64 v, .int .i64 m] w fun e w' => ∃ k : Nat, AtK s.l v m k ∧ e = .returned (.tuple #[.int .i64 (k : Int), .bool (hereK s.l v m k)]) ∧ Below w.heap.size w w' := by
  have HS := Lib.hid (bsearch_any A c s.l v m w h.row.at_ hn)
  have c0 : w.cell? ⟨g, 0, none⟩ = some (.slice A s.l.length c) := h.blk.cell 0
  obtain ⟨n, hnn⟩ : ∃ n, s.l.length = n := ⟨_, rfl⟩
  rw [hnn] at HS c0
  clear h hn hnn
  go_enter Try.func24, Try.ntmps24
  go_wp2_with fail
  refine HS.out.mono ?_
  rintro e w' ⟨k, hk, rfl, hb⟩
  go_wp2_with fail
  go_ret2
  exact ⟨k, hk, rfl, hb⟩
theorem tfind_nil (w : World) (v m : Int) : Calls Try.prog 24 #[.pointer none, .int .i64 v, .int .i64 m] w fun e w' => e = .returned (.tuple #[.int .i64 0, .bool false]) ∧ w = w' := by
  go_enter Try.func24, Try.ntmps24
  go_wp2_with fail
  go_ret2
  exact ⟨rfl, rfl⟩
set_option maxHeartbeats 1000000 in
theorem ffind_any {w : World} {B g : Nat} {F : Nat → Prop} {s : Dt} (v m : Int) (hp : Pt w B F g s) (hs : Srt s.l) (hn : s.l.length ≤ 1048000) :
    Calls Try.prog 14 #[.pointer (some ⟨g, 0, none⟩), .int .i64 v, .int .i64 m] w fun e w' => e = .returned (.int .i64 (findS s.l v m)) ∧ Below w.heap.size w w' := by
  obtain ⟨A, c, h⟩ := hp
  have HF := Lib.hid (tfind_any h hn v m)
  have H := Lib.hid h
  have HS := Lib.hid hs
  obtain ⟨r, hr⟩ : ∃ r, findS s.l v m = r := ⟨_, rfl⟩
  have HR := Lib.hid hr
  rw [hr]
  clear h hn hs hr
  go_enter Try.func14, Try.ntmps14
  go_wp2_with fail
  refine HF.out.mono ?_
  rintro e w1 ⟨k, hk, rfl, b1⟩
  rcases at_ix HS.out hk with ⟨hkl, hh, hx⟩ | ⟨hh, hx⟩
  · rw [hh]
    have h1 := H.out.below b1
    obtain ⟨b, off, eA, hbl, q⟩ := h1.cell k hkl
    subst eA
    have q2 : w1.cell? ⟨b, off + k * 5 + 2, none⟩ = some (.int .i64 r) := by
      rw [q.c2, ← HR.out]
      unfold findS
      rw [hx]
    have c0 : w1.cell? ⟨g, 0, none⟩ = some (.slice (some ⟨b, off, none⟩) s.l.length c) := h1.blk.cell 0
    obtain ⟨n, hnn⟩ : ∃ n, s.l.length = n := ⟨_, rfl⟩
    have k1 : (k : Int) < n := by omega
    have k0 : (0 : Int) ≤ k := by omega
    rw [hnn] at c0
    have HB := Lib.hid b1
    clear h1 hbl q hx hh hkl hk b1 hnn H
    go_wp2_with fail
    go_ret
    exact ⟨rfl, HB.out⟩
  · rw [hh]
    have HE := Lib.hid (show (-1 : Int) = r by rw [← HR.out]; unfold findS; rw [hx])
    have HB := Lib.hid b1
    clear hk hh hx b1 H
    go_wp2_with fail
    go_ret
    exact ⟨ret_i64 HE.out, HB.out⟩
theorem ffind_nil (w : World) (v m : Int) : Calls Try.prog 14 #[.pointer none, .int .i64 v, .int .i64 m] w fun e w' => e = .returned (.int .i64 (-1)) ∧ Below w.heap.size w w' := by
  have HF := Lib.hid (tfind_nil w v m)
  go_enter Try.func14, Try.ntmps14
  go_wp2_with fail
  refine HF.out.mono ?_
  rintro e w1 ⟨rfl, rfl⟩
  go_wp2_with fail
  go_ret
  exact ⟨rfl, Below.refl _ _⟩
end Go.Proofs.Ytnhnllkcnpbgoaa
