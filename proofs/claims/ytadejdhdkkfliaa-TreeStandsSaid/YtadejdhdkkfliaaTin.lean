/- What is so at each point of the run of a network of bridges: structures, and how each comes of the one ahead of it; Bound as a contract. No condition but those that are said. -/
import Derived.Test.YtadejdhdkkfliaaTlet
namespace Go.Proofs.Ytadejdhdkkfliaa
open Go.RowKit
set_option maxRecDepth 100000

set_option maxHeartbeats 2000000 in
theorem bound_any (n : Nat) (h1 : 1 ≤ n) (h8 : n ≤ 8) (w : World) : Calls Try.prog 29 #[.int .i64 n] w fun e w' => e = .returned (.int .i64 (((10 + n + 1) * 27 + 8 : Nat) : Int)) ∧ Below w.heap.size w w' := by
  rcases (show n = 1 ∨ n = 2 ∨ n = 3 ∨ n = 4 ∨ n = 5 ∨ n = 6 ∨ n = 7 ∨ n = 8 by omega) with rfl | rfl | rfl | rfl | rfl | rfl | rfl | rfl
  all_goals
    clear h1 h8
    go_enter Try.func29, Try.ntmps29
    go_wp2_with fail
    go_ret
    exact ⟨rfl, Below.refl _ _⟩
section
variable (w2 : World) (A0 : Option Addr) (c0 n : Nat) (f : Nat → Int) (g gp : Nat → Nat) (l : List Li) (t : Nat)
/-- At the head of a tick. -/
structure InO (wr : World) (N : Nat) (A1 : Option Addr) (c1 : Nat) (B : Nat → Nat → Pt) (W : List Lm) : Prop where
  run : RunP n f (l.map Li.lk) t (fun _ => False) B W
  mem : ∃ fw ch, MemS w2 wr A0 c0 n f g gp B fw ch t
  way : OwnT wr w2.heap.size A1 c1 W
  len : W.length ≤ 48 * t
  cnt : N ≤ 48 * t
/-- While letters are heard. -/
structure InL (wr : World) (hS : Nat) (A1 : Option Addr) (c1 : Nat) (W : List Lm) (i : Nat) (A5 : Option Addr) (c5 : Nat) (B : Nat → Nat → Pt) (La : List Lm) : Prop where
  run : RunP n f (l.map Li.lk) t (fun _ => False) B (La ++ W.drop i)
  due : ∀ x ∈ La, (t : Int) < x.due
  mem : ∃ fw ch, MemS w2 wr A0 c0 n f g gp B fw ch t
  way : OwnT wr w2.heap.size A1 c1 W
  lat : OwnT wr hS A5 c5 La
  size : hS ≤ wr.heap.size
  len : La.length ≤ i
/-- While bridges tick. -/
structure InB (wr : World) (b N : Nat) (A1 : Option Addr) (c1 : Nat) (B : Nat → Nat → Pt) (W : List Lm) : Prop where
  run : RunP n f (l.map Li.lk) t (fun y => y < b) B W
  due : ∀ x ∈ W, (t : Int) < x.due
  mem : ∃ fw ch, MemS w2 wr A0 c0 n f g gp B fw ch t
  way : OwnT wr w2.heap.size A1 c1 W
  len : W.length ≤ 48 * t + 6 * b
  cnt : N ≤ 48 * t + 6 * b
/-- While one says what it has to say. -/
structure InS (wr : World) (b N : Nat) (A1 : Option Addr) (c1 : Nat) (B : Nat → Nat → Pt) (S : List Sd) (base6 : Nat) (A6 : Option Addr) (c6 j : Nat) (W Nn : List Lm) : Prop where
  said : SaidN l b t S j Nn
  mem : ∃ fw ch, MemS w2 wr A0 c0 n f g gp B fw ch t
  way : OwnT wr w2.heap.size A1 c1 (W ++ Nn)
  row : OwnS wr base6 A6 c6 S
  len : (W ++ Nn).length ≤ 48 * t + 6 * b + j
  cnt : N ≤ 48 * t + 6 * b + j
end
section
variable {w2 : World} {A0 : Option Addr} {c0 n : Nat} {f : Nat → Int} {g gp : Nat → Nat} {l : List Li} {t : Nat}
theorem drop_here {W : List Lm} {i : Nat} (hi : i < W.length) : W.drop i = W.getD i lm0 :: W.drop (i + 1) := by
  rw [List.drop_eq_getElem_cons hi, List.getD_eq_getElem?_getD, List.getElem?_eq_getElem hi]
  rfl
theorem InL.mem_ {wr : World} {hS : Nat} {A1 : Option Addr} {c1 : Nat} {W : List Lm} {i : Nat} {A5 : Option Addr} {c5 : Nat} {B : Nat → Nat → Pt} {La : List Lm} (_h : InL w2 A0 c0 n f g gp l t wr hS A1 c1 W i A5 c5 B La) (hi : i < W.length) : W.getD i lm0 ∈ La ++ W.drop i := by
  rw [drop_here hi]
  exact List.mem_append_right _ List.mem_cons_self
/-- A letter was heard. -/
theorem InL.heard {wr : World} {hS : Nat} {A1 : Option Addr} {c1 : Nat} {W : List Lm} {i : Nat} {A5 : Option Addr} {c5 : Nat} {B : Nat → Nat → Pt} {La : List Lm} (K : Big n f (l.map Li.lk)) (h : InL w2 A0 c0 n f g gp l t wr hS A1 c1 W i A5 c5 B La) (hi : i < W.length)
    {wd w5 : World} (hb : Below wr.heap.size wr wd) {y : Nat} (hy : y < n) {x : Lm} (hx : W.getD i lm0 = x) (hto : x.to = y) (hdue : x.due ≤ t) {fw : Nat → Nat → Bool} {ch : Nat → Int} (hm : MemS w2 wr A0 c0 n f g gp B fw ch t)
    (t5 : Touch (fun k => k = g y ∨ k = gp y) wd w5) {f' : Nat → Pt} (h5 : TreeW w5 (g y) (gp y) (f y) 6 f' (fw y) (ch y)) {r : Int}
    (hf : if (0 ≤ x.port ∧ x.port < (6 : Nat)) ∧ x.b.takes then (if (B y x.port.toNat).up = true then r = 0 ∧ f' = hearP (f y) 6 t (B y) x.port.toNat x.b.vec x.b.age else r = 7 ∧ f' = B y) else r = 1 ∧ f' = B y) :
    InL w2 A0 c0 n f g gp l t w5 hS A1 c1 W (i + 1) A5 c5 (updB B y f') La := by
  have ey : x.to.toNat = y := by rw [hto]; rfl
  have hin := h.mem_ hi
  rw [hx] at hin
  have hd := drop_here hi
  rw [hx] at hd
  have hmd := hm.below hb
  have htree := hmd.all.at_ y hy
  refine ⟨?_, h.due, ⟨_, _, hmd.turn hy t5 h5 (hm.chs y hy)⟩, row_turn (row_below h.way hb) (by decide) (by decide) htree t5, row_turn (row_below h.lat hb) (by decide) (by decide) htree t5, Nat.le_trans h.size (Nat.le_trans hb.size t5.size), Nat.le_trans h.len (Nat.le_succ i)⟩
  have := RunP.hear K h.run (fun _ h => h) (Int.natCast_nonneg t) hin hdue (W' := La ++ W.drop (i + 1)) (fun z hz => by
    rcases List.mem_append.1 hz with hz | hz
    · exact List.mem_append_left _ hz
    · rw [hd]; exact List.mem_append_right _ (List.mem_cons_of_mem _ hz)) (fun z hz => by
    rcases List.mem_append.1 hz with hz | hz
    · exact .inr (List.mem_append_left _ hz)
    · rw [hd] at hz
      rcases List.mem_cons.1 hz with hz | hz
      · exact .inl hz
      · exact .inr (List.mem_append_right _ hz)) (f' := f') (r := r) (by rw [ey]; exact hf)
  rw [ey] at this
  exact this
/-- A letter isn't due yet. -/
theorem InL.waits {wr : World} {hS : Nat} {A1 : Option Addr} {c1 : Nat} {W : List Lm} {i : Nat} {A5 : Option Addr} {c5 : Nat} {B : Nat → Nat → Pt} {La : List Lm} (h : InL w2 A0 c0 n f g gp l t wr hS A1 c1 W i A5 c5 B La) (hi : i < W.length)
    {wd w6 : World} (hb : Below wr.heap.size wr wd) {x : Lm} (hx : W.getD i lm0 = x) (hdue : (t : Int) < x.due) (hfar : ∀ b, A1 = some b → b.block < hS) (h2 : w2.heap.size ≤ hS) {a' : Option Addr} {c' : Nat} (ho : OwnT w6 hS a' c' (La ++ [x])) (hg : wd.grownBy w6 (Value.slice A5 La.length c5).ownBlock) :
    InL w2 A0 c0 n f g gp l t w6 hS A1 c1 W (i + 1) a' c' B (La ++ [x]) := by
  have hd := drop_here hi
  rw [hx] at hd
  have hlat : OwnT wd hS A5 c5 La := row_below h.lat hb
  have hway : OwnT wd w2.heap.size A1 c1 W := row_below h.way hb
  obtain ⟨fw, ch, hm⟩ := h.mem
  refine ⟨h.run.perm fun m => ?_, fun z hz => ?_, ⟨fw, ch, (hm.below hb).row hlat h2 (by decide) (by decide) (by decide) hg⟩, ?_, ho, Nat.le_trans h.size (Nat.le_trans hb.size hg.size), ?_⟩
  · rw [hd, List.append_assoc]
    rfl
  · rcases List.mem_append.1 hz with hz | hz
    · exact h.due z hz
    · obtain rfl : z = x := by simpa using hz
      exact hdue
  · refine own_heap hway fun q hq => hg.block q (World.ownsRow.lt hway q hq).2 fun hq' => ?_
    obtain ⟨b, hA, hbk⟩ := own_some hq
    have h1 := hfar b hA
    have h3 := (World.ownsRow.lt hlat q hq'.symm).1
    omega
  · rw [List.length_append]
    have := h.len
    simp
    omega
theorem InO.below {wr w' : World} {N : Nat} {A1 : Option Addr} {c1 : Nat} {B : Nat → Nat → Pt} {W : List Lm} (h : InO w2 A0 c0 n f g gp l t wr N A1 c1 B W) (hb : Below wr.heap.size wr w') : InO w2 A0 c0 n f g gp l t w' N A1 c1 B W :=
  ⟨h.run, h.mem.imp fun _ h => h.imp fun _ h => h.below hb, row_below h.way hb, h.len, h.cnt⟩
/-- All have ticked. -/
theorem InB.next {wr : World} {N : Nat} {A1 : Option Addr} {c1 : Nat} {B : Nat → Nat → Pt} {W : List Lm} (K : Big n f (l.map Li.lk)) (h : InB w2 A0 c0 n f g gp l t wr n N A1 c1 B W) : InO w2 A0 c0 n f g gp l (t + 1) wr N A1 c1 B W := by
  have h8 := K.few
  refine ⟨?_, h.mem.imp fun _ h => h.imp fun _ h => h.later (by omega), h.way, by have := h.len; omega, by have := h.cnt; omega⟩
  rw [Int.natCast_add]
  exact h.run.next K (fun x hx => hx) h.due
/-- A bridge ticks. -/
theorem InB.tick {wr w5 : World} {b N : Nat} {A1 : Option Addr} {c1 : Nat} {B : Nat → Nat → Pt} {W : List Lm} (K : Big n f (l.map Li.lk)) (h : InB w2 A0 c0 n f g gp l t wr b N A1 c1 B W) (hb : b < n) {fw : Nat → Nat → Bool} {ch : Nat → Int} (hm : MemS w2 wr A0 c0 n f g gp B fw ch t)
    (t5 : Touch (fun k => k = g b ∨ k = gp b) wr w5) (h5 : TreeW w5 (g b) (gp b) (f b) 6 (tickP (f b) 6 t (B b)) (fwN (tickP (f b) 6 t (B b)) t) (chN (tickP (f b) 6 t (B b)) (fw b) t 6 (ch b))) {S : List Sd} {A6 : Option Addr} {c6 : Nat} (ho : OwnS w5 wr.heap.size A6 c6 S) :
    InS w2 A0 c0 n f g gp l t w5 b N A1 c1 (updB B b (tickP (f b) 6 t (B b))) S wr.heap.size A6 c6 0 W [] ∧ (RunP n f (l.map Li.lk) t (fun y => y < b) (updB B b (tickP (f b) 6 t (B b))) W ∧ (∀ d ∈ dirs (l.map Li.lk), d.v = b → (updB B b (tickP (f b) 6 t (B b)) d.v d.pv.toNat).none = false → (t : Int) ≤ (updB B b (tickP (f b) 6 t (B b)) d.v d.pv.toNat).at_ + 14)) := by
  have htree := hm.all.at_ b hb
  refine ⟨⟨SaidN.zero _ _ _ _, ⟨_, _, hm.turn hb t5 h5 (chN_range (hm.chs b hb) (Int.natCast_nonneg t) (Int.le_refl _))⟩, ?_, ho, ?_, ?_⟩, h.run.tick K (Int.natCast_nonneg t) hb⟩
  · rw [List.append_nil]
    exact row_turn h.way (by decide) (by decide) htree t5
  · rw [List.append_nil]
    exact h.len
  · exact h.cnt
theorem InS.below {wr w' : World} {b N : Nat} {A1 : Option Addr} {c1 : Nat} {B : Nat → Nat → Pt} {S : List Sd} {base6 : Nat} {A6 : Option Addr} {c6 j : Nat} {W Nn : List Lm} (h : InS w2 A0 c0 n f g gp l t wr b N A1 c1 B S base6 A6 c6 j W Nn) (hb : Below wr.heap.size wr w') : InS w2 A0 c0 n f g gp l t w' b N A1 c1 B S base6 A6 c6 j W Nn :=
  ⟨h.said, h.mem.imp fun _ h => h.imp fun _ h => h.below hb, row_below h.way hb, row_below h.row hb, h.len, h.cnt⟩
/-- What is said goes nowhere. -/
theorem InS.skip {wr w' : World} {b N : Nat} {A1 : Option Addr} {c1 : Nat} {B : Nat → Nat → Pt} {S : List Sd} {base6 : Nat} {A6 : Option Addr} {c6 j : Nat} {W Nn : List Lm} (h : InS w2 A0 c0 n f g gp l t wr b N A1 c1 B S base6 A6 c6 j W Nn) (hb : Below wr.heap.size wr w') {s : Sd} (hs : S.getD j sd0 = s) (hn : ¬ 0 ≤ (wayL l b s.port).1) :
    InS w2 A0 c0 n f g gp l t w' b (N + 1) A1 c1 B S base6 A6 c6 (j + 1) W Nn :=
  ⟨h.said.skip (by rw [hs]; exact hn), h.mem.imp fun _ h => h.imp fun _ h => h.below hb, row_below h.way hb, row_below h.row hb, by have := h.len; omega, by have := h.cnt; omega⟩
/-- What is said is on its way. -/
theorem InS.more {wr wd w6 : World} {b N : Nat} {A1 : Option Addr} {c1 : Nat} {B : Nat → Nat → Pt} {S : List Sd} {base6 : Nat} {A6 : Option Addr} {c6 j : Nat} {W Nn : List Lm} (h : InS w2 A0 c0 n f g gp l t wr b N A1 c1 B S base6 A6 c6 j W Nn) (hb : Below wr.heap.size wr wd) {s : Sd} (hs : S.getD j sd0 = s) (hn : 0 ≤ (wayL l b s.port).1) {d : Int} (hd : 1 ≤ d ∧ d ≤ 8)
    {a' : Option Addr} {c' : Nat} (ho : OwnT w6 w2.heap.size a' c' ((W ++ Nn) ++ [Mk l b t s d])) (hg : wd.grownBy w6 (Value.slice A1 (W ++ Nn).length c1).ownBlock) :
    InS w2 A0 c0 n f g gp l t w6 b (N + 1) a' c' B S base6 A6 c6 (j + 1) W (Nn ++ [Mk l b t s d]) := by
  have hway : OwnT wd w2.heap.size A1 c1 (W ++ Nn) := row_below h.way hb
  refine ⟨by rw [← hs]; exact h.said.more (by rw [hs]; exact hn) hd, h.mem.imp fun _ h => h.imp fun _ h => (h.below hb).row hway (Nat.le_refl _) (by decide) (by decide) (by decide) hg, by rw [← List.append_assoc]; exact ho, row_grown (row_below h.row hb) hway (by decide) hg, ?_, by have := h.cnt; omega⟩
  rw [← List.append_assoc, List.length_append]
  have := h.len
  show (W ++ Nn).length + 1 ≤ _
  omega
/-- It has said what it had to say. -/
theorem InS.done {wr : World} {b N : Nat} {A1 : Option Addr} {c1 : Nat} {B : Nat → Nat → Pt} {base6 : Nat} {A6 : Option Addr} {c6 : Nat} {W Nn : List Lm} {ch : Int} (K : Big n f (l.map Li.lk)) (hpos : ∀ x ∈ l, 0 ≤ x.a ∧ 0 ≤ x.b) (hb : b < n) (hdue : ∀ x ∈ W, (t : Int) < x.due)
    (R : RunP n f (l.map Li.lk) t (fun y => y < b) B W) (hf : ∀ d ∈ dirs (l.map Li.lk), d.v = b → (B d.v d.pv.toNat).none = false → (t : Int) ≤ (B d.v d.pv.toNat).at_ + 14)
    (h : InS w2 A0 c0 n f g gp l t wr b N A1 c1 B (saysN (f b) 6 (B b) ch t) base6 A6 c6 (saysN (f b) 6 (B b) ch t).length W Nn) : InB w2 A0 c0 n f g gp l t wr (b + 1) N A1 c1 B (W ++ Nn) := by
  have h6 := says_len (f b) 6 (B b) ch t
  have hr := RunP.say K hpos R (Int.natCast_nonneg t) hb hf h.said
  refine ⟨hr.clock fun x => by omega, fun x hx => ?_, h.mem, h.way, by have := h.len; omega, by have := h.cnt; omega⟩
  rcases List.mem_append.1 hx with hx | hx
  · exact hdue x hx
  · obtain ⟨k, d, h1, h2, h3, h4, rfl⟩ := h.said.from_ x hx
    show (t : Int) < t + d
    omega
end
end Go.Proofs.Ytadejdhdkkfliaa
