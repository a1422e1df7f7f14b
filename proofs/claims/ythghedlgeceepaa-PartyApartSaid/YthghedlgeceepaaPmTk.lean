/- Joined texts. Conditions: those that each names. -/
import Derived.Test.YthghedlgeceepaaPmPart
import Derived.Test.YthghedlgeceepaaMrOwn
import Derived.Test.YthghedlgeceepaaMrVec
namespace Go.Proofs.Ythghedlgeceepaa
section
/- The types that there are at a port. Its condition: slots that can be, at most 16. -/
open Go.RowKit
set_option maxRecDepth 100000

def lastD (l : List Int) : Int := l.getD (l.length - 1) 0
theorem types_le (l : List Sl) : 1 ≤ (typesL l).length ∧ (typesL l).length ≤ 3 := by
  unfold typesL
  cases l.any (fun s => decide (s.t = 2)) <;> cases l.any (fun s => decide (s.t = 3)) <;> simp
theorem types_snoc (l : List Sl) (s : Sl) (hs : s.t = 1 ∨ s.t = 2 ∨ s.t = 3) (hl : ∀ u ∈ l, u.t ≤ s.t ∧ 1 ≤ u.t) :
    typesL (l ++ [s]) = if s.t = lastD (typesL l) then typesL l else typesL l ++ [s.t] := by
  have h2 : (l ++ [s]).any (fun s => decide (s.t = 2)) = (l.any (fun s => decide (s.t = 2)) || decide (s.t = 2)) := by simp
  have h3 : (l ++ [s]).any (fun s => decide (s.t = 3)) = (l.any (fun s => decide (s.t = 3)) || decide (s.t = 3)) := by simp
  have n3 : s.t ≤ 2 → l.any (fun s => decide (s.t = 3)) = false := fun h => by
    rw [List.any_eq_false]
    intro u hu
    have := hl u hu
    simp only [decide_eq_true_eq]
    omega
  have n2 : s.t ≤ 1 → l.any (fun s => decide (s.t = 2)) = false := fun h => by
    rw [List.any_eq_false]
    intro u hu
    have := hl u hu
    simp only [decide_eq_true_eq]
    omega
  unfold typesL
  rw [h2, h3]
  rcases hs with h | h | h
  · rw [n2 (by omega), n3 (by omega), h]
    decide
  · rw [n3 (by omega), h]
    cases l.any (fun s => decide (s.t = 2)) <;> decide
  · rw [h]
    cases l.any (fun s => decide (s.t = 2)) <;> cases l.any (fun s => decide (s.t = 3)) <;> decide
theorem types_next {l : List Sl} {T : Int} {p : Py} (hok : PyOk T p) (hl : l = p.l) {j : Nat} (hj : j < l.length) : typesL (l.take (j + 1)) = if l[j].t = lastD (typesL (l.take j)) then typesL (l.take j) else typesL (l.take j) ++ [l[j].t] := by
  subst hl
  rw [List.take_succ_eq_append_getElem hj]
  have ht : ∀ s ∈ p.l, s.t = 1 ∨ s.t = 2 ∨ s.t = 3 := fun s hs => by
    have := (hok.all s hs).attr
    unfold attrP at this
    omega
  refine types_snoc _ _ (ht _ (List.getElem_mem hj)) (fun u hu => ?_)
  obtain ⟨i, hi, rfl⟩ := List.getElem_of_mem hu
  rw [List.length_take] at hi
  rw [List.getElem_take]
  have h1 := List.pairwise_iff_getElem.1 hok.ord i j (by omega) hj (by omega)
  have h2 := ht _ (List.getElem_mem (l := p.l) (n := i) (by omega))
  unfold lessS at h1
  omega
section
variable {w : World} {B g : Nat} {p : Py} {jl : List Int} {F : Nat → Prop} {y : Lay}
set_option maxHeartbeats 8000000 in
theorem types_any (h : PyAt w B g p jl F y) {T : Int} (hok : PyOk T p) :
    Calls Try.prog 36 #[.pointer (some ⟨g, 0, none⟩)] w fun e w' => ∃ A c, e = .returned (.slice A (typesL p.l).length c) ∧ OwnI w' w.heap.size A c (typesL p.l) ∧ Below w.heap.size w w' := by
  have hlen := h.len
  obtain ⟨n, hnn⟩ : ∃ n, y.q.length = n := ⟨_, rfl⟩
  have HN := Lib.hid (And.intro hnn (And.intro hlen hok))
  have HLS := Lib.hid h.ls
  have hb1 := bel_alloc w (.cells #[.int .i64 1] 3)
  have h1 := h.below hb1
  have c0 := h1.c0
  have H0 := Lib.hid (show OwnI (w.alloc (.cells #[.int .i64 1] 3)) w.heap.size (some ⟨w.heap.size, 0, none⟩) 1 (typesL (p.l.take 0)) ∧ Below w.heap.size w (w.alloc (.cells #[.int .i64 1] 3)) from ⟨⟨rfl, .inr ⟨w.heap.size, 1, #[.int .i64 1], rfl, Nat.le_refl _, Blk.new w _ _, Nat.le_refl _, by decide, rfl, rfl⟩⟩, hb1⟩)
  obtain ⟨YA, hYA⟩ : ∃ a, y.A = a := ⟨_, rfl⟩
  rw [hnn, hYA] at c0
  have HYA := Lib.hid hYA
  have HAT := Lib.hid h
  have HNN := Lib.hid (show n ≤ 16 by rw [← hnn, hlen]; exact hok.len)
  have n0 : (0 : Int) ≤ n := by omega
  clear h hlen hnn hok hYA hb1 h1
  go_enter Try.func36, Try.ntmps36
  go_wp2_with fail
  go_loopw [3, 12] (fun sv iv wr => ∃ (j : Nat) (A : Option Addr) (c kn : Nat), j ≤ n ∧ iv = .int .i64 j ∧ sv = .slice A kn c ∧ Hid ((typesL (p.l.take j)).length = kn) ∧ Hid (OwnI wr w.heap.size A c (typesL (p.l.take j)) ∧ Below w.heap.size w wr)) (fun _ iv _ => n - (intOf iv).toNat)
  case atStart => exact ⟨0, _, 1, 1, Nat.zero_le _, rfl, rfl, Lib.hid rfl, H0⟩
  case round =>
    obtain ⟨j, A, c, kn, hj, rfl, rfl, hkn, hS⟩ := hrel
    by_cases hlt : j < n
    · have j1 : (j : Int) < n := by omega
      have j0 : (0 : Int) ≤ j := by omega
      have HJ := Lib.hid (show wrap64 ((j : Int) + 1) = (j : Int) + 1 from IntWalk.wrap64_in _ (by have := HNN.out; omega))
      have hjq : j < y.q.length := by rw [HN.out.1]; exact hlt
      obtain ⟨b, off, hAA, hbl, kc0⟩ := HAT.out.row.at_ j hjq
      have kc := kc0.below hbl hS.out.2
      obtain ⟨x, hx⟩ : ∃ x, y.q.getD j qs0 = x := ⟨_, rfl⟩
      have hjp : j < p.l.length := by rw [← HN.out.2.1, HN.out.1]; exact hlt
      have hxs : p.l[j] = x.s := by rw [← hx, getD_get hjq]; simp only [← HLS.out, List.getElem_map]
      have hnx := types_next HN.out.2.2 rfl hjp
      rw [hxs] at hnx
      rw [hx] at kc
      have q0 := kc.c0
      have q1 := kc.c1
      have q2 := kc.c2
      have q3 := kc.c3
      have hle := types_le (p.l.take j)
      rw [hkn.out] at hle
      obtain ⟨la, hla⟩ : ∃ la, lastD (typesL (p.l.take j)) = la := ⟨_, rfl⟩
      rw [hla] at hnx
      obtain ⟨gA, rfl, hgl, hcell⟩ := own_at hS.out.1 (by rw [hkn.out]; omega)
      have hl0 : wr.cell? ⟨gA, kn - 1, none⟩ = some (.int .i64 la) := hcell _ _ (by
        unfold intsL
        rw [List.getElem?_map, List.getElem?_eq_getElem (by rw [hkn.out]; omega)]
        rw [← hla]
        unfold lastD
        rw [List.getD_eq_getElem?_getD, List.getElem?_eq_getElem (by rw [hkn.out]; omega)]
        simp only [hkn.out]
        rfl)
      have hbx := bel_alloc wr (.cells #[.int .i64 x.s.t, .int .i64 x.s.v, .pointer (some ⟨x.r, 0, none⟩), .pointer (some ⟨x.a, 0, none⟩)] 67)
      have hl1 : (wr.alloc (.cells #[.int .i64 x.s.t, .int .i64 x.s.v, .pointer (some ⟨x.r, 0, none⟩), .pointer (some ⟨x.a, 0, none⟩)] 67)).cell? ⟨gA, kn - 1, none⟩ = some (.int .i64 la) := (hbx.cell (p := ⟨gA, kn - 1, none⟩) hgl).trans hl0
      have k1 : wrap64 ((kn : Int) - 1) = ((kn - 1 : Nat) : Int) := by
        rw [show (kn : Int) - 1 = ((kn - 1 : Nat) : Int) by omega]
        exact IntWalk.wrap64_in _ (by omega)
      have k0 : (0 : Int) ≤ ((kn - 1 : Nat) : Int) := by omega
      have k2 : ((kn - 1 : Nat) : Int) < (kn : Int) := by omega
      have hkx := Blk.new wr 67 #[.int .i64 x.s.t, .int .i64 x.s.v, .pointer (some ⟨x.r, 0, none⟩), .pointer (some ⟨x.a, 0, none⟩)]
      have hoW : OwnI (wr.alloc (.cells #[.int .i64 x.s.t, .int .i64 x.s.v, .pointer (some ⟨x.r, 0, none⟩), .pointer (some ⟨x.a, 0, none⟩)] 67)) w.heap.size (some ⟨gA, 0, none⟩) c (typesL (p.l.take j)) := World.ownsRow.alloc hS.out.1 _
      have HV := Lib.hid (show (fun V : World => OwnI V w.heap.size (some ⟨gA, 0, none⟩) c (typesL (p.l.take j)) ∧ Below w.heap.size w V ∧ Blk V wr.heap.size 67 #[.int .i64 x.s.t, .int .i64 x.s.v, .pointer (some ⟨x.r, 0, none⟩), .pointer (some ⟨x.a, 0, none⟩)]) ((wr.alloc (.cells #[.int .i64 x.s.t, .int .i64 x.s.v, .pointer (some ⟨x.r, 0, none⟩), .pointer (some ⟨x.a, 0, none⟩)] 67)).drew) from ⟨own_heap hoW fun _ _ => rfl, (hS.out.2.trans (hbx.mono hS.out.2.size)).drew, hkx.drew⟩)
      obtain ⟨xt, hxt⟩ : ∃ xt, x.s.t = xt := ⟨_, rfl⟩
      rw [hxt] at q0 hnx hl1 HV
      have hya := HYA.out
      rw [hAA] at hya
      subst hya
      have HJQ := Lib.hid (And.intro hle hlt)
      clear hAA hx hjp hxs kc kc0 hbl hla hcell hbx hkx hoW hjq hl0 hgl hle
      by_cases he : xt = la
      · rw [if_pos he] at hnx
        have HNX := Lib.hid hnx
        have be : (xt != la) = false := by simpa using he
        clear he hnx hlt hj
        go_wp2_with fail
        go_region
        refine step_world (q := fun V : World => OwnI V w.heap.size (some ⟨gA, 0, none⟩) c (typesL (p.l.take j)) ∧ Below w.heap.size w V ∧ Blk V wr.heap.size 67 #[.int .i64 xt, .int .i64 x.s.v, .pointer (some ⟨x.r, 0, none⟩), .pointer (some ⟨x.a, 0, none⟩)]) HV.out ?_
        rintro V ⟨v1, v2, v3⟩
        have HE := Lib.hid (And.intro v1 v2)
        clear v1 v2 v3 hl1
        go_wp2_with fail
        go_roundw
        case rel =>
          rw [HJ.out]
          exact ⟨j + 1, _, c, kn, HJQ.out.2, by rw [Int.natCast_add]; rfl, rfl, Lib.hid (by rw [HNX.out]; exact hkn.out), Lib.hid (by rw [HNX.out]; exact HE.out)⟩
        case measure =>
          rw [HJ.out]
          show n - ((j : Int) + 1).toNat < n - ((j : Int)).toNat
          have := HJQ.out.2
          omega
      · rw [if_neg he] at hnx
        have HNX := Lib.hid hnx
        have be : (xt != la) = true := by simpa using he
        clear he hnx hlt hj
        go_wp2_with fail
        go_region
        refine step_world (q := fun V : World => OwnI V w.heap.size (some ⟨gA, 0, none⟩) c (typesL (p.l.take j)) ∧ Below w.heap.size w V ∧ Blk V wr.heap.size 67 #[.int .i64 xt, .int .i64 x.s.v, .pointer (some ⟨x.r, 0, none⟩), .pointer (some ⟨x.a, 0, none⟩)]) HV.out ?_
        rintro V ⟨v1, v2, v3⟩
        have hb2 := bel_alloc V (.cells #[.int .i64 xt] 3)
        have hone := one_at (Blk.new V 3 #[.int .i64 xt])
        have hap := append_ints (V.alloc (.cells #[.int .i64 xt] 3)) w.heap.size (some ⟨gA, 0, none⟩) c (typesL (p.l.take j)) (World.ownsRow.alloc v1 _) (some ⟨V.heap.size, 0, none⟩) 1 _ [xt] (fun h => by cases h) hone (by have := types_le (p.l.take j); simp; omega) (by have := v2.size; simp; omega)
        obtain ⟨a', c', w', hr, ho, hg, hmv, _⟩ := hap
        rw [hkn.out, show (typesL (p.l.take j) ++ [xt]).length = kn + 1 by rw [List.length_append, hkn.out]; rfl] at hr
        have hr2 : (Builtin.append_ #[22, 22] 22 #[.slice (some ⟨gA, 0, none⟩) kn c, .slice (some ⟨V.heap.size, 0, none⟩) 1 1]).run Try.prog (V.alloc (.cells #[.int .i64 xt] 3)) = .ok (.slice a' (kn + 1) c') w' := hr
        have HR := Lib.hid hr2
        have HE := Lib.hid (show OwnI w' w.heap.size a' c' (typesL (p.l.take j) ++ [xt]) ∧ Below w.heap.size w w' from ⟨ho, (v2.trans (hb2.mono v2.size)).trans (bel_own (World.ownsRow.alloc v1 _) hg (Nat.le_refl _) (by have := v2.size; simp; omega))⟩)
        have v30 := v3.cell 0
        clear v1 v2 v3 hl1 hb2 hone hr hr2 ho hg hmv
        go_wp2_with (at_builtin; refine Lib.wpList_append_run _ rfl _ _ _ _ rfl _ _ rfl rfl _ _ HR.out ?_)
        go_roundw
        case rel =>
          rw [HJ.out]
          exact ⟨j + 1, a', c', kn + 1, HJQ.out.2, by rw [Int.natCast_add]; rfl, rfl, Lib.hid (by rw [HNX.out, List.length_append, hkn.out]; rfl), Lib.hid (by rw [HNX.out]; exact HE.out)⟩
        case measure =>
          rw [HJ.out]
          show n - ((j : Int) + 1).toNat < n - ((j : Int)).toNat
          have := HJQ.out.2
          omega
    · obtain rfl : j = n := by omega
      have ht : p.l.take j = p.l := List.take_of_length_le (by have := HN.out; omega)
      rw [ht] at hkn hS
      have HE := Lib.hid (And.intro hkn.out hS.out)
      clear hj hlt ht
      go_wp2_with fail
      go_ret
      exact ⟨A, c, by rw [HE.out.1]; rfl, HE.out.2⟩
end
end
section
/- What a port's part says by now. Its condition: slots that can be, at most 16. -/
open Go.RowKit
set_option maxRecDepth 100000

theorem says_next {l : List Sl} {j : Nat} (hj : j < l.length) : saysL (l.take (j + 1)) = saysL (l.take j) ++ (match sayS l[j] with | some x => [x] | none => []) := by
  unfold saysL
  rw [List.take_succ_eq_append_getElem hj, List.filterMap_append]
  congr 1
  cases h : sayS l[j] <;> simp [h]
/-- The message under way: its own cell, the result's, its rows, all made behind w. -/
structure SayAt (w wr : World) (A : Option Addr) (c : Nat) (all : List Int) (Aw : Option Addr) (cw : Nat) (ws : List Wd) : Prop where
  msg : Blk wr (w.heap.size + 1) 32 #[.slice A all.length c, .slice Aw ws.length cw]
  res : Blk wr w.heap.size 32 #[.slice none 0 0, .slice none 0 0]
  al : OwnI wr w.heap.size A c all
  ws : OwnW wr w.heap.size Aw cw ws
theorem SayAt.keep {w wr w' : World} {A Aw : Option Addr} {c cw : Nat} {all : List Int} {ws : List Wd} (h : SayAt w wr A c all Aw cw ws) {P : Nat → Prop} (ht : Touch P wr w') (hp : ∀ k, P k → k < w.heap.size) : SayAt w w' A c all Aw cw ws :=
  ⟨h.msg.touch ht (fun e => by have := hp _ e; omega), h.res.touch ht (fun e => by have := hp _ e; omega), own_heap h.al fun k hk => ht.block k (World.ownsRow.lt h.al k hk).2 (fun e => by have := hp _ e; have := (World.ownsRow.lt h.al k hk).1; omega),
    own_heap h.ws fun k hk => ht.block k (World.ownsRow.lt h.ws k hk).2 (fun e => by have := hp _ e; have := (World.ownsRow.lt h.ws k hk).1; omega)⟩
theorem SayAt.below {w wr w' : World} {A Aw : Option Addr} {c cw : Nat} {all : List Int} {ws : List Wd} (h : SayAt w wr A c all Aw cw ws) (hb : Below wr.heap.size wr w') : SayAt w w' A c all Aw cw ws :=
  h.keep (below_touch hb fun _ => False) fun _ e => e.elim
/-- One word more. -/
theorem SayAt.more {w wr w' : World} {A Aw a' : Option Addr} {c cw c' : Nat} {all : List Int} {ws : List Wd} (h : SayAt w wr A c all Aw cw ws) {x : Wd} (ho : OwnW w' w.heap.size a' c' (ws ++ [x])) (hg : wr.grownBy w' (Value.slice Aw ws.length cw).ownBlock) :
    SayAt w (w'.setCell ⟨w.heap.size + 1, 1, none⟩ (.slice a' (ws ++ [x]).length c')) A c all a' c' (ws ++ [x]) := by
  have hm := blk_grown h.msg h.ws (by decide) hg
  have hr := blk_grown h.res h.ws (by decide) hg
  have hal : OwnI w' w.heap.size A c all := own_heap h.al fun k hk => hg.block k (World.ownsRow.lt h.al k hk).2 (fun e => own_own h.ws h.al (by decide) hk e.symm)
  exact ⟨Blk.set_ hm 1 _, hr.far (by show w.heap.size ≠ w.heap.size + 1; omega) _, ownsRow_setCell_other (a := ⟨w.heap.size + 1, 1, none⟩) hal (own_ne hal hm (by decide)) _, ownsRow_setCell_other (a := ⟨w.heap.size + 1, 1, none⟩) ho (own_ne ho hm (by decide)) _⟩
theorem pdu_size : (Try.prog.info? 32).map (·.size) = some 2 := by kernel_rfl
section
variable {w : World} {B g : Nat} {p : Py} {jl : List Int} {F : Nat → Prop} {y : Lay}
theorem wtag (p : Py) (l : List Sl) : withL ⟨p.l, p.due, false, p.at_, p.fails⟩ l = ⟨l, p.due, false, p.at_, p.fails⟩ := rfl
set_option maxHeartbeats 16000000 in
theorem say_any (h : PyAt w B g p jl F y) {T : Int} (hok : PyOk T p) :
    Calls Try.prog 37 #[.pointer (some ⟨g, 0, none⟩)] w fun e w' => ∃ A c A' c', e = .returned (.agg #[.slice A (if p.ask = true then typesL p.l else []).length c, .slice A' (saysL p.l).length c']) ∧ OwnI w' w.heap.size A c (if p.ask = true then typesL p.l else []) ∧ OwnW w' w.heap.size A' c' (saysL p.l) ∧
      PyAt w' B g ⟨p.l.map saidS, p.due, false, p.at_, p.fails⟩ jl F (y.with_ (y.q.map (onS saidS))) ∧ Touch F w w' := by
  have hlen := h.len
  obtain ⟨n, hnn⟩ : ∃ n, y.q.length = n := ⟨_, rfl⟩
  have HN := Lib.hid (And.intro hnn (And.intro hlen hok))
  have HLS := Lib.hid h.ls
  have HNN := Lib.hid (show n ≤ 16 by rw [← hnn, hlen]; exact hok.len)
  have n0 : (0 : Int) ≤ n := by omega
  have HLT := Lib.hid (fun k hk => (h.lt k hk).2)
  obtain ⟨YA, hYA⟩ : ∃ a, y.A = a := ⟨_, rfl⟩
  have HYA := Lib.hid hYA
  have hb2 := bel_alloc2 w (.cells #[.slice none 0 0, .slice none 0 0] 32) (.cells #[.slice none 0 0, .slice none 0 0] 32)
  have hm2 := Blk.new (w.alloc (.cells #[.slice none 0 0, .slice none 0 0] 32)) 32 #[.slice none 0 0, .slice none 0 0]
  have hr2 := (Blk.new w 32 #[.slice none 0 0, .slice none 0 0]).alloc (.cells #[.slice none 0 0, .slice none 0 0] 32)
  rw [show (w.alloc (.cells #[.slice none 0 0, .slice none 0 0] 32)).heap.size = w.heap.size + 1 by simp] at hm2
  have h2 := h.below hb2
  have a0 := h2.c3
  obtain ⟨W2, hW2⟩ : ∃ W2, (w.alloc (.cells #[.slice none 0 0, .slice none 0 0] 32)).alloc (.cells #[.slice none 0 0, .slice none 0 0] 32) = W2 := ⟨_, rfl⟩
  rw [hW2] at hb2 hm2 hr2 h2
  have HW2 := Lib.hid hW2
  have HTY := Lib.hid (types_any h2 hok)
  have H2 := Lib.hid (And.intro h2 (And.intro hb2 (And.intro hm2 hr2)))
  cases hask : p.ask with
  | false =>
    rw [hask] at a0
    have hp1 : p = ⟨p.l, p.due, false, p.at_, p.fails⟩ := by rw [← hask]
    have HSTART := Lib.hid (show LoopAt w W2 B g ⟨p.l, p.due, false, p.at_, p.fails⟩ jl F y saidS 0 ∧ SayAt w W2 none 0 [] none 0 (saysL (p.l.take 0)) from ⟨⟨h2.same hp1.symm, below_touch hb2 F⟩, ⟨hm2, hr2, World.ownsRow_nil _ _ _ _, World.ownsRow_nil _ _ _ _⟩⟩)
    have c0 := h2.c0
    rw [hnn, hYA] at c0
    rw [← hW2] at c0 HSTART
    rw [if_neg (by decide)]
    clear h hlen hnn hok hYA hb2 hm2 hr2 h2 hW2 hask hp1 HTY
    go_enter Try.func37, Try.ntmps37
    go_wp2_with fail
    go_loopw [24] (fun iv wr => ∃ j : Nat, j ≤ n ∧ iv = .int .i64 j ∧ Hid ((LoopAt w wr B g ⟨p.l, p.due, false, p.at_, p.fails⟩ jl F y saidS j) ∧ ∃ Aw cw, SayAt w wr none 0 [] Aw cw (saysL (p.l.take j)))) (fun iv _ => n - (intOf iv).toNat)
    case atStart => exact ⟨0, Nat.zero_le _, rfl, Lib.hid ⟨HSTART.out.1, none, 0, HSTART.out.2⟩⟩
    case round =>
      obtain ⟨j, hj, rfl, hS⟩ := hrel
      by_cases hlt : j < n
      · have j1 : (j : Int) < n := by omega
        have j0 : (0 : Int) ≤ j := by omega
        have HJ := Lib.hid (show wrap64 ((j : Int) + 1) = (j : Int) + 1 from IntWalk.wrap64_in _ (by have := HNN.out; omega))
        have hjq : j < y.q.length := by rw [HN.out.1]; exact hlt
        obtain ⟨hL, Aw, cw, hSay⟩ := hS.out
        obtain ⟨b, off, hAA, hbl, kc, hr, ha⟩ := hL.elem hjq
        have hm := getD_mem' hjq
        have hjp : j < p.l.length := by rw [← HN.out.2.1, HN.out.1]; exact hlt
        have hsl := HN.out.2.2.all _ (show (y.q.getD j qs0).s ∈ p.l by rw [← HLS.out]; exact List.mem_map_of_mem hm)
        have hnx := says_next hjp
        have hxs : p.l[j] = (y.q.getD j qs0).s := by rw [getD_get hjq]; simp only [← HLS.out, List.getElem_map]
        rw [hxs] at hnx
        have hst := fun (W W' : World) (P : Nat → Prop) (a b c d e) => hL.step hjq HLS.out key_said (W := W) (W' := W') (P := P) a b c d e
        have hfq := fun (k : Nat) (e : k = (y.q.getD j qs0).r ∨ k = (y.q.getD j qs0).a) => show k < w.heap.size from HLT.out k (hL.at_.fq k ⟨(mapTo (onS saidS) j y.q).getD j qs0, getD_mem' (l := mapTo (onS saidS) j y.q) (by rw [mapTo_len]; exact hjq), by rw [mapTo_getD _ hjq]; exact e⟩)
        obtain ⟨x, hx⟩ : ∃ x, y.q.getD j qs0 = x := ⟨_, rfl⟩
        rw [hx] at kc hr ha hsl hnx hst hfq
        have q0 := kc.c0
        have q1 := kc.c1
        have q2 := kc.c2
        have q3 := kc.c3
        have hbx := bel_alloc wr (.cells #[.int .i64 x.s.t, .int .i64 x.s.v, .pointer (some ⟨x.r, 0, none⟩), .pointer (some ⟨x.a, 0, none⟩)] 67)
        have hkx := Blk.new wr 67 #[.int .i64 x.s.t, .int .i64 x.s.v, .pointer (some ⟨x.r, 0, none⟩), .pointer (some ⟨x.a, 0, none⟩)]
        have hrx := hr.below hbx hr.lt
        have hax := ha.below hbx ha.lt
        have hsx := hSay.below hbx
        have HSAY := Lib.hid (asay_any hax hsl.st)
        have HX := Lib.hid (And.intro hbx (And.intro hkx (And.intro hrx (And.intro hax (And.intro hsx (And.intro hfq (And.intro hst hsl)))))))
        have HLP := Lib.hid (And.intro trivial hlt)
        unfold sayV at HSAY
        unfold sayS at hnx
        have hya := HYA.out
        rw [hAA] at hya
        subst hya
        clear hAA hx hjp hxs kc hbl hbx hkx hrx hax hsx hst hfq hsl hm hjq hr ha hSay hL
        by_cases hac : actA x.s.a 4 = 0
        · rw [if_pos hac] at hnx
          rw [List.append_nil] at hnx
          have HNX := Lib.hid hnx
          rw [decide_eq_false (fun c => c hac)] at HSAY
          clear hac hnx hlt hj
          go_wp2_with fail
          refine HSAY.out.mono ?_
          rintro e w2 ⟨rfl, ha2, ta2⟩
          have HE := Lib.hid (show (LoopAt w w2 B g ⟨p.l, p.due, false, p.at_, p.fails⟩ jl F y saidS (j + 1)) ∧ ∃ Aw cw, SayAt w w2 none 0 [] Aw cw (saysL (p.l.take (j + 1))) from
            ⟨HX.out.2.2.2.2.2.2.1 _ w2 (fun k => k = x.a) HX.out.1 ta2 (fun _ e => .inr e) (HX.out.2.2.1.touch ta2 (fun e => blk_ne HX.out.2.2.1 HX.out.2.2.2.1 (by decide) e)) ha2, Aw, cw, by rw [HNX.out]; exact HX.out.2.2.2.2.1.keep ta2 (fun k e => HX.out.2.2.2.2.2.1 k (.inr e))⟩)
          clear ha2 ta2
          go_wp2_with fail
          go_roundw
          case rel =>
            rw [HJ.out]
            exact ⟨j + 1, HLP.out.2, by rw [Int.natCast_add]; rfl, HE⟩
          case measure =>
            rw [HJ.out]
            show n - ((j : Int) + 1).toNat < n - ((j : Int)).toNat
            have := HLP.out.2
            omega
        · rw [if_neg hac] at hnx
          have HNX := Lib.hid hnx
          rw [decide_eq_true hac] at HSAY
          rw [show sayB (actA x.s.a 4) x.s.a.born = x.s.a.born by unfold sayB; rw [if_neg hac]] at HSAY
          obtain ⟨se, hse⟩ : ∃ se, sayE (actA x.s.a 4) = se := ⟨_, rfl⟩
          obtain ⟨sb, hsb⟩ : ∃ sb, x.s.a.born = sb := ⟨_, rfl⟩
          rw [hse, hsb] at HSAY HNX
          clear hac hnx hlt hj hse hsb
          go_wp2_with fail
          refine HSAY.out.mono ?_
          rintro e w2 ⟨rfl, ha2, ta2⟩
          have hL2 := HX.out.2.2.2.2.2.2.1 _ w2 (fun k => k = x.a) HX.out.1 ta2 (fun _ e => .inr e) (HX.out.2.2.1.touch ta2 (fun e => blk_ne HX.out.2.2.1 HX.out.2.2.2.1 (by decide) e)) ha2
          have hS2 := HX.out.2.2.2.2.1.keep ta2 (fun k e => HX.out.2.2.2.2.2.1 k (.inr e))
          have hk2 := HX.out.2.1.touch ta2 (fun e => blk_ne HX.out.2.1 HX.out.2.2.2.1 (by decide) e)
          have l0 := hk2.cell 0
          have l1 := hk2.cell 1
          have m1 := hS2.msg.cell 1
          obtain ⟨wn, hwn⟩ : ∃ wn, (saysL (p.l.take j)).length = wn := ⟨_, rfl⟩
          rw [hwn] at m1
          have hb3 := bel_alloc w2 (.cells #[.int .i64 x.s.t, .int .i64 x.s.v, .int .i64 se, .int .i64 sb] 52)
          have hL3 : LoopAt w (w2.alloc (.cells #[.int .i64 x.s.t, .int .i64 x.s.v, .int .i64 se, .int .i64 sb] 52)) B g ⟨p.l, p.due, false, p.at_, p.fails⟩ jl F y saidS (j + 1) := ⟨hL2.at_.below hb3, hL2.tch.trans (below_touch hb3 F)⟩
          have hS3 := hS2.below hb3
          have hwl : wn ≤ 16 := by
            rw [← hwn]
            have h1 : (saysL (p.l.take j)).length ≤ (p.l.take j).length := by unfold saysL; exact List.length_filterMap_le _ _
            rw [List.length_take] at h1
            have := HN.out.2.2.len
            omega
          have hone : WordsAt (w2.alloc (.cells #[.int .i64 x.s.t, .int .i64 x.s.v, .int .i64 se, .int .i64 sb] 52)) (w2.alloc (.cells #[.int .i64 x.s.t, .int .i64 x.s.v, .int .i64 se, .int .i64 sb] 52)).heap.size (some ⟨w2.heap.size, 0, none⟩) [⟨x.s.t, x.s.v, se, sb⟩] := fun k hk => by
            obtain rfl : k = 0 := by simpa using hk
            have hbk := Blk.new w2 52 #[.int .i64 x.s.t, .int .i64 x.s.v, .int .i64 se, .int .i64 sb]
            exact ⟨w2.heap.size, 0, rfl, hbk.lt, hbk.cell 0, hbk.cell 1, hbk.cell 2, hbk.cell 3⟩
          have hap := append_words (w2.alloc (.cells #[.int .i64 x.s.t, .int .i64 x.s.v, .int .i64 se, .int .i64 sb] 52)) w.heap.size Aw cw (saysL (p.l.take j)) hS3.ws (some ⟨w2.heap.size, 0, none⟩) 1 _ [⟨x.s.t, x.s.v, se, sb⟩] (fun h => by cases h) hone (by rw [hwn]; simp; omega) (by have := hS3.res.lt; omega)
          obtain ⟨a', c', w', hrun, ho, hg, hmv, _⟩ := hap
          have hS4 := hS3.more ho hg
          rw [hwn, show (saysL (p.l.take j) ++ [(⟨x.s.t, x.s.v, se, sb⟩ : Wd)]).length = wn + 1 by rw [List.length_append, hwn]; rfl] at hrun
          have hr2 : (Builtin.append_ #[30, 30] 30 #[.slice Aw wn cw, .slice (some ⟨w2.heap.size, 0, none⟩) 1 1]).run Try.prog (w2.alloc (.cells #[.int .i64 x.s.t, .int .i64 x.s.v, .int .i64 se, .int .i64 sb] 52)) = .ok (.slice a' (wn + 1) c') w' := hrun
          have HR := Lib.hid hr2
          have hmw := blk_grown hS3.msg hS3.ws (by decide) hg
          have f1 := hmw.frozen 1
          have m4 := hmw.cell 1
          have tg : Touch (fun k => (Value.slice Aw (saysL (p.l.take j)).length cw).ownBlock = some k) (w2.alloc (.cells #[.int .i64 x.s.t, .int .i64 x.s.v, .int .i64 se, .int .i64 sb] 52)) w' := ⟨hg.os, hg.tape, hg.output, hg.size, fun k hk hp => hg.block k hk (fun e => hp e.symm)⟩
          have hL4 : LoopAt w (w'.setCell ⟨w.heap.size + 1, 1, none⟩ (.slice a' (wn + 1) c')) B g ⟨p.l, p.due, false, p.at_, p.fails⟩ jl F y saidS (j + 1) := by
            have tn : Touch (fun k => k = w.heap.size + 1) w' (w'.setCell ⟨w.heap.size + 1, 1, none⟩ (.slice a' (wn + 1) c')) := (Touch.refl (fun k => k = w.heap.size + 1) w').set_ (a := ⟨w.heap.size + 1, 1, none⟩) (fun _ => rfl) _
            have t1 := hL3.at_.keep tg (fun k hk e => by have h1 := HLT.out k hk; have h2 := (World.ownsRow.lt hS3.ws k e).1; omega)
            have t2 := t1.keep tn (fun k hk e => by have h1 := HLT.out k hk; omega)
            have tt : Touch F w w' := ⟨tg.os.trans hL3.tch.os, tg.tape.trans hL3.tch.tape, tg.output.trans hL3.tch.output, Nat.le_trans hL3.tch.size tg.size, fun k hk hp => (tg.block k (Nat.lt_of_lt_of_le hk hL3.tch.size) (fun e => by
              have h2 := (World.ownsRow.lt hS3.ws k e).1
              omega)).trans (hL3.tch.block k hk hp)⟩
            exact ⟨t2, touch_new tt (by omega) tn⟩
          rw [show (saysL (p.l.take j) ++ [(⟨x.s.t, x.s.v, se, sb⟩ : Wd)]).length = wn + 1 by rw [List.length_append, hwn]; rfl] at hS4
          have HE := Lib.hid (show (LoopAt w (w'.setCell ⟨w.heap.size + 1, 1, none⟩ (.slice a' (wn + 1) c')) B g ⟨p.l, p.due, false, p.at_, p.fails⟩ jl F y saidS (j + 1)) ∧ ∃ Aw cw, SayAt w (w'.setCell ⟨w.heap.size + 1, 1, none⟩ (.slice a' (wn + 1) c')) none 0 [] Aw cw (saysL (p.l.take (j + 1))) from ⟨hL4, a', c', by rw [HNX.out]; exact hS4⟩)
          clear hL2 hS2 hk2 hb3 hL3 hS3 hwl hone hrun hr2 ho hg hmv hS4 hmw tg hL4 ha2 ta2 hwn
          go_wp2_with (at_builtin; refine Lib.wpList_append_run _ rfl _ _ _ _ rfl _ _ rfl rfl _ _ HR.out ?_)
          go_roundw
          case rel =>
            rw [HJ.out]
            exact ⟨j + 1, HLP.out.2, by rw [Int.natCast_add]; rfl, HE⟩
          case measure =>
            rw [HJ.out]
            show n - ((j : Int) + 1).toNat < n - ((j : Int)).toNat
            have := HLP.out.2
            omega
      · obtain rfl : j = n := by omega
        obtain ⟨hL, Aw, cw, hSay⟩ := hS.out
        have ht : p.l.take j = p.l := List.take_of_length_le (by have := HN.out; omega)
        rw [ht] at hSay
        have hfin := hL.fin HN.out.1.symm (by show j = p.l.length; rw [← HN.out.2.1]; exact HN.out.1.symm)
        obtain ⟨wn, hwn⟩ : ∃ wn, (saysL p.l).length = wn := ⟨_, rfl⟩
        have hmsg := hSay.msg
        have hres := hSay.res
        rw [hwn] at hmsg
        have m0 := hmsg.cell 0
        have m1 := hmsg.cell 1
        have r0 := hres.cell 0
        have r1 := hres.cell 1
        have f0 := hres.frozen 0
        have f1 := hres.frozen 1
        have hr2 := Blk.set_ (Blk.set_ hres 0 (.slice none 0 0)) 1 (.slice Aw wn cw)
        have tn : Touch (fun k => k = w.heap.size) wr ((wr.setCell ⟨w.heap.size, 0, none⟩ (.slice none 0 0)).setCell ⟨w.heap.size, 1, none⟩ (.slice Aw wn cw)) := ((Touch.refl (fun k => k = w.heap.size) wr).set_ (a := ⟨w.heap.size, 0, none⟩) (fun _ => rfl) _).set_ (a := ⟨w.heap.size, 1, none⟩) (fun _ => rfl) _
        have hoa := own_heap (w' := (wr.setCell ⟨w.heap.size, 0, none⟩ (.slice none 0 0)).setCell ⟨w.heap.size, 1, none⟩ (.slice Aw wn cw)) hSay.al (fun k hk => tn.block k (World.ownsRow.lt hSay.al k hk).2 (fun e => own_ne hSay.al hres (by decide) (by rw [hk, e])))
        have how := own_heap (w' := (wr.setCell ⟨w.heap.size, 0, none⟩ (.slice none 0 0)).setCell ⟨w.heap.size, 1, none⟩ (.slice Aw wn cw)) hSay.ws (fun k hk => tn.block k (World.ownsRow.lt hSay.ws k hk).2 (fun e => own_ne hSay.ws hres (by decide) (by rw [hk, e])))
        have HE := Lib.hid (And.intro hr2 (And.intro hoa (And.intro how (And.intro (hfin.keep tn (fun k hk e => by have := HLT.out k hk; omega)) (touch_new hL.tch (Nat.le_refl _) tn)))))
        have HWN := Lib.hid hwn
        clear hL hSay ht hfin hmsg hres hr2 tn hoa how hj hlt hwn
        go_wp2_with fail
        refine bodyPost_ret (results_cell_row rfl _ _ w.heap.size 32 _ (0, 0) _ rfl HE.out.1 Try.underlying32 rfl pdu_size) rfl ⟨none, 0, Aw, cw, ?_, HE.out.2.1, HE.out.2.2.1, HE.out.2.2.2.1, HE.out.2.2.2.2⟩
        rw [HWN.out]
        rfl
  | true =>
    have HASK := Lib.hid hask
    rw [hask] at a0
    rw [← hW2] at HTY
    rw [if_pos rfl]
    obtain ⟨al, hal⟩ : ∃ al, typesL p.l = al := ⟨_, rfl⟩
    rw [hal] at HTY ⊢
    clear hal
    clear h hlen hnn hok hYA hb2 hm2 hr2 h2 hW2 hask
    go_enter Try.func37, Try.ntmps37
    go_wp2_with fail
    refine HTY.out.mono ?_
    rw [HW2.out]
    rintro e w3 ⟨A3, c3, rfl, ho3, hb3⟩
    have h3 := H2.out.1.below hb3
    have hm3 := H2.out.2.2.1.below hb3 H2.out.2.2.1.lt
    have hr3 := H2.out.2.2.2.below hb3 H2.out.2.2.2.lt
    have hb3w := H2.out.2.1.trans (hb3.mono H2.out.2.1.size)
    have hs2 := H2.out.2.1.size
    have hgne : g < w.heap.size := HLT.out g h3.fg
    have hm4 := Blk.set_ hm3 0 (.slice A3 al.length c3)
    have tn : Touch (fun k => k = w.heap.size + 1) w3 (w3.setCell ⟨w.heap.size + 1, 0, none⟩ (.slice A3 al.length c3)) := (Touch.refl (fun k => k = w.heap.size + 1) w3).set_ (a := ⟨w.heap.size + 1, 0, none⟩) (fun _ => rfl) _
    have h4 := h3.keep tn (fun k hk e => by have := HLT.out k hk; omega)
    have h5 := h4.head (p' := ⟨p.l, p.due, false, p.at_, p.fails⟩) 3 (.bool false) rfl rfl (Blk.set_ h4.blk 3 (.bool false))
    have hoi3 : OwnI w3 w.heap.size A3 c3 al := by
      refine ⟨ho3.1, ho3.2.imp id fun ⟨b, cap, cur, e, hb, r⟩ => ⟨b, cap, cur, e, by omega, r⟩⟩
    have hoi4 : OwnI (w3.setCell ⟨w.heap.size + 1, 0, none⟩ (.slice A3 al.length c3)) w.heap.size A3 c3 al := ownsRow_setCell_other (a := ⟨w.heap.size + 1, 0, none⟩) hoi3 (own_ne hoi3 hm3 (by decide)) _
    have hoi5 : OwnI ((w3.setCell ⟨w.heap.size + 1, 0, none⟩ (.slice A3 al.length c3)).setCell ⟨g, 3, none⟩ (.bool false)) w.heap.size A3 c3 al := ownsRow_setCell_other (a := ⟨g, 3, none⟩) hoi4 (own_ne hoi4 h4.blk (by decide)) _
    have hm5 := hm4.far (a := ⟨g, 3, none⟩) (by show w.heap.size + 1 ≠ g; omega) (.bool false)
    have hr5 := (hr3.far (a := ⟨w.heap.size + 1, 0, none⟩) (by show w.heap.size ≠ w.heap.size + 1; omega) (.slice A3 al.length c3)).far (a := ⟨g, 3, none⟩) (by show w.heap.size ≠ g; omega) (.bool false)
    have f30 := hm3.frozen 0
    have m30 := hm3.cell 0
    have f33 := h4.blk.frozen 3
    have g33 : (w3.setCell ⟨w.heap.size + 1, 0, none⟩ (.slice A3 al.length c3)).cell? ⟨g, 3, none⟩ = some (.bool true) := by rw [h4.c3, HASK.out]
    have HSTART := Lib.hid (show LoopAt w ((w3.setCell ⟨w.heap.size + 1, 0, none⟩ (.slice A3 al.length c3)).setCell ⟨g, 3, none⟩ (.bool false)) B g ⟨p.l, p.due, false, p.at_, p.fails⟩ jl F y saidS 0 ∧ SayAt w ((w3.setCell ⟨w.heap.size + 1, 0, none⟩ (.slice A3 al.length c3)).setCell ⟨g, 3, none⟩ (.bool false)) A3 c3 al none 0 (saysL (p.l.take 0)) from ⟨⟨h5.1, (touch_new (below_touch hb3w F) (by omega) tn).trans h5.2⟩, ⟨hm5, hr5, hoi5, World.ownsRow_nil _ _ _ _⟩⟩)
    have c0 := h5.1.c0
    rw [HN.out.1, HYA.out] at c0
    clear h3 hm3 hr3 hb3 hb3w hs2 hgne hm4 tn h4 h5 hoi3 hoi4 hoi5 hm5 hr5 ho3 a0 HTY
    have HAL := Lib.hid (show (fun _ : List Int => True) al from trivial)
    go_wp2_with fail
    go_loopw [24] (fun iv wr => ∃ j : Nat, j ≤ n ∧ iv = .int .i64 j ∧ Hid ((LoopAt w wr B g ⟨p.l, p.due, false, p.at_, p.fails⟩ jl F y saidS j) ∧ ∃ Aw cw, SayAt w wr A3 c3 al Aw cw (saysL (p.l.take j)))) (fun iv _ => n - (intOf iv).toNat)
    case atStart => exact ⟨0, Nat.zero_le _, rfl, Lib.hid ⟨HSTART.out.1, none, 0, HSTART.out.2⟩⟩
    case round =>
      obtain ⟨j, hj, rfl, hS⟩ := hrel
      by_cases hlt : j < n
      · have j1 : (j : Int) < n := by omega
        have j0 : (0 : Int) ≤ j := by omega
        have HJ := Lib.hid (show wrap64 ((j : Int) + 1) = (j : Int) + 1 from IntWalk.wrap64_in _ (by have := HNN.out; omega))
        have hjq : j < y.q.length := by rw [HN.out.1]; exact hlt
        obtain ⟨hL, Aw, cw, hSay⟩ := hS.out
        obtain ⟨b, off, hAA, hbl, kc, hr, ha⟩ := hL.elem hjq
        have hm := getD_mem' hjq
        have hjp : j < p.l.length := by rw [← HN.out.2.1, HN.out.1]; exact hlt
        have hsl := HN.out.2.2.all _ (show (y.q.getD j qs0).s ∈ p.l by rw [← HLS.out]; exact List.mem_map_of_mem hm)
        have hnx := says_next hjp
        have hxs : p.l[j] = (y.q.getD j qs0).s := by rw [getD_get hjq]; simp only [← HLS.out, List.getElem_map]
        rw [hxs] at hnx
        have hst := fun (W W' : World) (P : Nat → Prop) (a b c d e) => hL.step hjq HLS.out key_said (W := W) (W' := W') (P := P) a b c d e
        have hfq := fun (k : Nat) (e : k = (y.q.getD j qs0).r ∨ k = (y.q.getD j qs0).a) => show k < w.heap.size from HLT.out k (hL.at_.fq k ⟨(mapTo (onS saidS) j y.q).getD j qs0, getD_mem' (l := mapTo (onS saidS) j y.q) (by rw [mapTo_len]; exact hjq), by rw [mapTo_getD _ hjq]; exact e⟩)
        obtain ⟨x, hx⟩ : ∃ x, y.q.getD j qs0 = x := ⟨_, rfl⟩
        rw [hx] at kc hr ha hsl hnx hst hfq
        have q0 := kc.c0
        have q1 := kc.c1
        have q2 := kc.c2
        have q3 := kc.c3
        have hbx := bel_alloc wr (.cells #[.int .i64 x.s.t, .int .i64 x.s.v, .pointer (some ⟨x.r, 0, none⟩), .pointer (some ⟨x.a, 0, none⟩)] 67)
        have hkx := Blk.new wr 67 #[.int .i64 x.s.t, .int .i64 x.s.v, .pointer (some ⟨x.r, 0, none⟩), .pointer (some ⟨x.a, 0, none⟩)]
        have hrx := hr.below hbx hr.lt
        have hax := ha.below hbx ha.lt
        have hsx := hSay.below hbx
        have HSAY := Lib.hid (asay_any hax hsl.st)
        have HX := Lib.hid (And.intro hbx (And.intro hkx (And.intro hrx (And.intro hax (And.intro hsx (And.intro hfq (And.intro hst hsl)))))))
        have HLP := Lib.hid (And.intro trivial hlt)
        unfold sayV at HSAY
        unfold sayS at hnx
        have hya := HYA.out
        rw [hAA] at hya
        subst hya
        clear hAA hx hjp hxs kc hbl hbx hkx hrx hax hsx hst hfq hsl hm hjq hr ha hSay hL
        by_cases hac : actA x.s.a 4 = 0
        · rw [if_pos hac] at hnx
          rw [List.append_nil] at hnx
          have HNX := Lib.hid hnx
          rw [decide_eq_false (fun c => c hac)] at HSAY
          clear hac hnx hlt hj
          go_wp2_with fail
          refine HSAY.out.mono ?_
          rintro e w2 ⟨rfl, ha2, ta2⟩
          have HE := Lib.hid (show (LoopAt w w2 B g ⟨p.l, p.due, false, p.at_, p.fails⟩ jl F y saidS (j + 1)) ∧ ∃ Aw cw, SayAt w w2 A3 c3 al Aw cw (saysL (p.l.take (j + 1))) from
            ⟨HX.out.2.2.2.2.2.2.1 _ w2 (fun k => k = x.a) HX.out.1 ta2 (fun _ e => .inr e) (HX.out.2.2.1.touch ta2 (fun e => blk_ne HX.out.2.2.1 HX.out.2.2.2.1 (by decide) e)) ha2, Aw, cw, by rw [HNX.out]; exact HX.out.2.2.2.2.1.keep ta2 (fun k e => HX.out.2.2.2.2.2.1 k (.inr e))⟩)
          clear ha2 ta2
          go_wp2_with fail
          go_roundw
          case rel =>
            rw [HJ.out]
            exact ⟨j + 1, HLP.out.2, by rw [Int.natCast_add]; rfl, HE⟩
          case measure =>
            rw [HJ.out]
            show n - ((j : Int) + 1).toNat < n - ((j : Int)).toNat
            have := HLP.out.2
            omega
        · rw [if_neg hac] at hnx
          have HNX := Lib.hid hnx
          rw [decide_eq_true hac] at HSAY
          rw [show sayB (actA x.s.a 4) x.s.a.born = x.s.a.born by unfold sayB; rw [if_neg hac]] at HSAY
          obtain ⟨se, hse⟩ : ∃ se, sayE (actA x.s.a 4) = se := ⟨_, rfl⟩
          obtain ⟨sb, hsb⟩ : ∃ sb, x.s.a.born = sb := ⟨_, rfl⟩
          rw [hse, hsb] at HSAY HNX
          clear hac hnx hlt hj hse hsb
          go_wp2_with fail
          refine HSAY.out.mono ?_
          rintro e w2 ⟨rfl, ha2, ta2⟩
          have hL2 := HX.out.2.2.2.2.2.2.1 _ w2 (fun k => k = x.a) HX.out.1 ta2 (fun _ e => .inr e) (HX.out.2.2.1.touch ta2 (fun e => blk_ne HX.out.2.2.1 HX.out.2.2.2.1 (by decide) e)) ha2
          have hS2 := HX.out.2.2.2.2.1.keep ta2 (fun k e => HX.out.2.2.2.2.2.1 k (.inr e))
          have hk2 := HX.out.2.1.touch ta2 (fun e => blk_ne HX.out.2.1 HX.out.2.2.2.1 (by decide) e)
          have l0 := hk2.cell 0
          have l1 := hk2.cell 1
          have m1 := hS2.msg.cell 1
          obtain ⟨wn, hwn⟩ : ∃ wn, (saysL (p.l.take j)).length = wn := ⟨_, rfl⟩
          rw [hwn] at m1
          have hb3 := bel_alloc w2 (.cells #[.int .i64 x.s.t, .int .i64 x.s.v, .int .i64 se, .int .i64 sb] 52)
          have hL3 : LoopAt w (w2.alloc (.cells #[.int .i64 x.s.t, .int .i64 x.s.v, .int .i64 se, .int .i64 sb] 52)) B g ⟨p.l, p.due, false, p.at_, p.fails⟩ jl F y saidS (j + 1) := ⟨hL2.at_.below hb3, hL2.tch.trans (below_touch hb3 F)⟩
          have hS3 := hS2.below hb3
          have hwl : wn ≤ 16 := by
            rw [← hwn]
            have h1 : (saysL (p.l.take j)).length ≤ (p.l.take j).length := by unfold saysL; exact List.length_filterMap_le _ _
            rw [List.length_take] at h1
            have := HN.out.2.2.len
            omega
          have hone : WordsAt (w2.alloc (.cells #[.int .i64 x.s.t, .int .i64 x.s.v, .int .i64 se, .int .i64 sb] 52)) (w2.alloc (.cells #[.int .i64 x.s.t, .int .i64 x.s.v, .int .i64 se, .int .i64 sb] 52)).heap.size (some ⟨w2.heap.size, 0, none⟩) [⟨x.s.t, x.s.v, se, sb⟩] := fun k hk => by
            obtain rfl : k = 0 := by simpa using hk
            have hbk := Blk.new w2 52 #[.int .i64 x.s.t, .int .i64 x.s.v, .int .i64 se, .int .i64 sb]
            exact ⟨w2.heap.size, 0, rfl, hbk.lt, hbk.cell 0, hbk.cell 1, hbk.cell 2, hbk.cell 3⟩
          have hap := append_words (w2.alloc (.cells #[.int .i64 x.s.t, .int .i64 x.s.v, .int .i64 se, .int .i64 sb] 52)) w.heap.size Aw cw (saysL (p.l.take j)) hS3.ws (some ⟨w2.heap.size, 0, none⟩) 1 _ [⟨x.s.t, x.s.v, se, sb⟩] (fun h => by cases h) hone (by rw [hwn]; simp; omega) (by have := hS3.res.lt; omega)
          obtain ⟨a', c', w', hrun, ho, hg, hmv, _⟩ := hap
          have hS4 := hS3.more ho hg
          rw [hwn, show (saysL (p.l.take j) ++ [(⟨x.s.t, x.s.v, se, sb⟩ : Wd)]).length = wn + 1 by rw [List.length_append, hwn]; rfl] at hrun
          have hr2 : (Builtin.append_ #[30, 30] 30 #[.slice Aw wn cw, .slice (some ⟨w2.heap.size, 0, none⟩) 1 1]).run Try.prog (w2.alloc (.cells #[.int .i64 x.s.t, .int .i64 x.s.v, .int .i64 se, .int .i64 sb] 52)) = .ok (.slice a' (wn + 1) c') w' := hrun
          have HR := Lib.hid hr2
          have hmw := blk_grown hS3.msg hS3.ws (by decide) hg
          have f1 := hmw.frozen 1
          have m4 := hmw.cell 1
          have tg : Touch (fun k => (Value.slice Aw (saysL (p.l.take j)).length cw).ownBlock = some k) (w2.alloc (.cells #[.int .i64 x.s.t, .int .i64 x.s.v, .int .i64 se, .int .i64 sb] 52)) w' := ⟨hg.os, hg.tape, hg.output, hg.size, fun k hk hp => hg.block k hk (fun e => hp e.symm)⟩
          have hL4 : LoopAt w (w'.setCell ⟨w.heap.size + 1, 1, none⟩ (.slice a' (wn + 1) c')) B g ⟨p.l, p.due, false, p.at_, p.fails⟩ jl F y saidS (j + 1) := by
            have tn : Touch (fun k => k = w.heap.size + 1) w' (w'.setCell ⟨w.heap.size + 1, 1, none⟩ (.slice a' (wn + 1) c')) := (Touch.refl (fun k => k = w.heap.size + 1) w').set_ (a := ⟨w.heap.size + 1, 1, none⟩) (fun _ => rfl) _
            have t1 := hL3.at_.keep tg (fun k hk e => by have h1 := HLT.out k hk; have h2 := (World.ownsRow.lt hS3.ws k e).1; omega)
            have t2 := t1.keep tn (fun k hk e => by have h1 := HLT.out k hk; omega)
            have tt : Touch F w w' := ⟨tg.os.trans hL3.tch.os, tg.tape.trans hL3.tch.tape, tg.output.trans hL3.tch.output, Nat.le_trans hL3.tch.size tg.size, fun k hk hp => (tg.block k (Nat.lt_of_lt_of_le hk hL3.tch.size) (fun e => by
              have h2 := (World.ownsRow.lt hS3.ws k e).1
              omega)).trans (hL3.tch.block k hk hp)⟩
            exact ⟨t2, touch_new tt (by omega) tn⟩
          rw [show (saysL (p.l.take j) ++ [(⟨x.s.t, x.s.v, se, sb⟩ : Wd)]).length = wn + 1 by rw [List.length_append, hwn]; rfl] at hS4
          have HE := Lib.hid (show (LoopAt w (w'.setCell ⟨w.heap.size + 1, 1, none⟩ (.slice a' (wn + 1) c')) B g ⟨p.l, p.due, false, p.at_, p.fails⟩ jl F y saidS (j + 1)) ∧ ∃ Aw cw, SayAt w (w'.setCell ⟨w.heap.size + 1, 1, none⟩ (.slice a' (wn + 1) c')) A3 c3 al Aw cw (saysL (p.l.take (j + 1))) from ⟨hL4, a', c', by rw [HNX.out]; exact hS4⟩)
          clear hL2 hS2 hk2 hb3 hL3 hS3 hwl hone hrun hr2 ho hg hmv hS4 hmw tg hL4 ha2 ta2 hwn
          go_wp2_with (at_builtin; refine Lib.wpList_append_run _ rfl _ _ _ _ rfl _ _ rfl rfl _ _ HR.out ?_)
          go_roundw
          case rel =>
            rw [HJ.out]
            exact ⟨j + 1, HLP.out.2, by rw [Int.natCast_add]; rfl, HE⟩
          case measure =>
            rw [HJ.out]
            show n - ((j : Int) + 1).toNat < n - ((j : Int)).toNat
            have := HLP.out.2
            omega
      · obtain rfl : j = n := by omega
        obtain ⟨hL, Aw, cw, hSay⟩ := hS.out
        have ht : p.l.take j = p.l := List.take_of_length_le (by have := HN.out; omega)
        rw [ht] at hSay
        have hfin := hL.fin HN.out.1.symm (by show j = p.l.length; rw [← HN.out.2.1]; exact HN.out.1.symm)
        obtain ⟨wn, hwn⟩ : ∃ wn, (saysL p.l).length = wn := ⟨_, rfl⟩
        have hmsg := hSay.msg
        have hres := hSay.res
        rw [hwn] at hmsg
        have m0 := hmsg.cell 0
        have m1 := hmsg.cell 1
        have r0 := hres.cell 0
        have r1 := hres.cell 1
        have f0 := hres.frozen 0
        have f1 := hres.frozen 1
        have hr2 := Blk.set_ (Blk.set_ hres 0 (.slice A3 (al).length c3)) 1 (.slice Aw wn cw)
        have tn : Touch (fun k => k = w.heap.size) wr ((wr.setCell ⟨w.heap.size, 0, none⟩ (.slice A3 (al).length c3)).setCell ⟨w.heap.size, 1, none⟩ (.slice Aw wn cw)) := ((Touch.refl (fun k => k = w.heap.size) wr).set_ (a := ⟨w.heap.size, 0, none⟩) (fun _ => rfl) _).set_ (a := ⟨w.heap.size, 1, none⟩) (fun _ => rfl) _
        have hoa := own_heap (w' := (wr.setCell ⟨w.heap.size, 0, none⟩ (.slice A3 (al).length c3)).setCell ⟨w.heap.size, 1, none⟩ (.slice Aw wn cw)) hSay.al (fun k hk => tn.block k (World.ownsRow.lt hSay.al k hk).2 (fun e => own_ne hSay.al hres (by decide) (by rw [hk, e])))
        have how := own_heap (w' := (wr.setCell ⟨w.heap.size, 0, none⟩ (.slice A3 (al).length c3)).setCell ⟨w.heap.size, 1, none⟩ (.slice Aw wn cw)) hSay.ws (fun k hk => tn.block k (World.ownsRow.lt hSay.ws k hk).2 (fun e => own_ne hSay.ws hres (by decide) (by rw [hk, e])))
        have HE := Lib.hid (And.intro hr2 (And.intro hoa (And.intro how (And.intro (hfin.keep tn (fun k hk e => by have := HLT.out k hk; omega)) (touch_new hL.tch (Nat.le_refl _) tn)))))
        have HWN := Lib.hid hwn
        clear hL hSay ht hfin hmsg hres hr2 tn hoa how hj hlt hwn
        go_wp2_with fail
        refine bodyPost_ret (results_cell_row rfl _ _ w.heap.size 32 _ (0, 0) _ rfl HE.out.1 Try.underlying32 rfl pdu_size) rfl ⟨A3, c3, Aw, cw, ?_, HE.out.2.1, HE.out.2.2.1, HE.out.2.2.2.1, HE.out.2.2.2.2⟩
        rw [HWN.out]
        rfl
end
end
section
/- A tick of a port's part. Its conditions: slots that can be, at most 16; ticks far from an int's ends. -/
open Go.RowKit
set_option maxRecDepth 100000

/-- Is a message one: does it say anything? -/
def sayB' (m : Msg) : Bool := decide (0 < m.all.length + m.ws.length)
section
variable {w w' : World} {B g : Nat} {p : Py} {jl : List Int} {F : Nat → Prop} {y : Lay}
theorem PyAt.drawn (h : PyAt w B g p jl F y) (hd : DrawOf w' y.gd y.Ad y.cd jl (placeD jl (p.at_ + 1))) (ht : Touch (fun k => k = y.gd) w w') : PyAt w' B g ⟨p.l, p.due, p.ask, p.at_ + 1, p.fails⟩ jl F y ∧ Touch F w w' := by
  have ha := h.apart
  refine ⟨⟨h.blk.touch ht (fun e => ha.2.1 e.symm), own_heap h.row fun b hb => ht.block b (World.ownsRow.lt h.row b hb).2 (fun e => own_ne h.row h.draws.blk (by decide) (by rw [hb, e])), h.ls, h.slots.keep ht (fun k hk e => ?_), hd, h.fg, h.frow, h.fgd, h.fdr, h.fq, fun k hk => ⟨(h.lt k hk).1, Nat.lt_of_lt_of_le (h.lt k hk).2 ht.size⟩⟩, ht.mono fun k _ e => by rw [e]; exact h.fgd⟩
  obtain ⟨x, hx, e2 | e2⟩ := hk
  · exact blk_ne (h.slots.each x hx).1 h.draws.blk (by decide) (by rw [← e2, e])
  · exact blk_ne (h.slots.each x hx).2 h.draws.blk (by decide) (by rw [← e2, e])
theorem own_low {W : World} {b b' size n : Nat} {e : TypeId} {v : Value} {xs : List Value} (h : W.ownsRow b e size v n xs) (hb : b' ≤ b) : W.ownsRow b' e size v n xs :=
  ⟨h.1, h.2.imp id fun ⟨g, cap, cur, e, hg, r⟩ => ⟨g, cap, cur, e, by omega, r⟩⟩
theorem alls_sel (ks : List Int) (now : Int) (hk : ks.Pairwise (fun a b => a < b)) (l : List Sl) : allsL ks now l = l.map (selS ks now) := by
  unfold allsL
  induction ks generalizing l with
  | nil =>
    show l = l.map (selS [] now)
    have e : selS [] now = id := funext fun s => by unfold selS; rw [if_neg List.not_mem_nil]; rfl
    rw [e, List.map_id]
  | cons k ks ih =>
    have hk' := List.pairwise_cons.1 hk
    rw [List.foldl_cons, ih hk'.2]
    unfold allL
    rw [List.map_map]
    refine List.map_congr_left fun s _ => ?_
    show selS ks now (if s.t = k then allS now s else s) = selS (k :: ks) now s
    unfold selS
    by_cases e : s.t = k
    · rw [if_pos e]
      have h1 : ¬ (allS now s).t ∈ ks := fun c => by
        have := hk'.1 _ c
        rw [(key_all now s).1, e] at this
        omega
      rw [if_neg h1, if_pos (by rw [e]; exact List.mem_cons_self)]
    · rw [if_neg e]
      by_cases h2 : s.t ∈ ks
      · rw [if_pos h2, if_pos (List.mem_cons_of_mem _ h2)]
      · rw [if_neg h2, if_neg (fun c => (List.mem_cons.1 c).elim e h2)]
theorem types_map {f : Sl → Sl} (hf : KeyOk f) (l : List Sl) : typesL (l.map f) = typesL l := by
  unfold typesL
  have h : ∀ k : Int, (l.map f).any (fun s => decide (s.t = k)) = l.any (fun s => decide (s.t = k)) := fun k => by
    rw [List.any_map]
    congr 1
    funext s
    show decide ((f s).t = k) = _
    rw [(hf s).1]
  rw [h 2, h 3]
set_option maxHeartbeats 16000000 in
theorem tick_any (h : PyAt w B g p jl F y) {now : Int} (hok : PyOk now p) (hT : Tk now) :
    Calls Try.prog 12 #[.pointer (some ⟨g, 0, none⟩), .int .i64 now] w fun e w' => ∃ A c A' c', e = .returned (.tuple #[.agg #[.slice A (saidP (jitD jl) p now).all.length c, .slice A' (saidP (jitD jl) p now).ws.length c'], .bool (sayB' (saidP (jitD jl) p now))]) ∧
      OwnI w' w.heap.size A c (saidP (jitD jl) p now).all ∧ OwnW w' w.heap.size A' c' (saidP (jitD jl) p now).ws ∧ PyF w' B g (tickP (jitD jl) p now) jl F ∧ Touch F w w' := by
  have hlen := h.len
  obtain ⟨n, hnn⟩ : ∃ n, y.q.length = n := ⟨_, rfl⟩
  have HN := Lib.hid (And.intro hnn (And.intro hlen (And.intro hok hT)))
  have HLS := Lib.hid h.ls
  have HNN := Lib.hid (show n ≤ 16 by rw [← hnn, hlen]; exact hok.len)
  have n0 : (0 : Int) ≤ n := by omega
  have HLT := Lib.hid (fun k hk => (h.lt k hk).2)
  obtain ⟨YA, hYA⟩ : ∃ a, y.A = a := ⟨_, rfl⟩
  have HYA := Lib.hid hYA
  have hb1 := bel_alloc w (.cells #[.slice none 0 0, .slice none 0 0] 32)
  have hr1 := Blk.new w 32 #[.slice none 0 0, .slice none 0 0]
  have h1 := h.below hb1
  have c0 := h1.c0
  rw [hnn, hYA] at c0
  have HSTART := Lib.hid (show LoopAt w (w.alloc (.cells #[.slice none 0 0, .slice none 0 0] 32)) B g p jl F y (tickS now) 0 ∧ Blk (w.alloc (.cells #[.slice none 0 0, .slice none 0 0] 32)) w.heap.size 32 #[.slice none 0 0, .slice none 0 0] from ⟨⟨h1, below_touch hb1 F⟩, hr1⟩)
  have HTELL := Lib.hid (show saidP (jitD jl) p now = tellP (tick1 (jitD jl) p now) now from rfl)
  have HTICK := Lib.hid (show tickP (jitD jl) p now = tick2 (tick1 (jitD jl) p now) now from rfl)
  obtain ⟨sm, hsm⟩ : ∃ sm, saidP (jitD jl) p now = sm := ⟨_, rfl⟩
  obtain ⟨tp, htp⟩ : ∃ tp, tickP (jitD jl) p now = tp := ⟨_, rfl⟩
  rw [hsm] at HTELL ⊢
  rw [htp] at HTICK ⊢
  have t0 := hT.1
  obtain ⟨b6, hb6⟩ : ∃ b6, decide (now % 6 = 0) = b6 := ⟨_, rfl⟩
  have HB6 := Lib.hid hb6
  have m6 : (now.tmod 6 == 0) = b6 := by rw [← hb6, Int.tmod_eq_emod_of_nonneg t0]; exact Bool.eq_iff_iff.2 (by simp)
  have m6' : (now % 6 == 0) = b6 := by rw [← hb6]; exact Bool.eq_iff_iff.2 (by simp)
  clear h hlen hnn hok hT hYA hb1 hr1 h1 hsm htp hb6
  go_enter Try.func12, Try.ntmps12
  go_wp2_with fail
  go_loopw [17] (fun iv wr => ∃ j : Nat, j ≤ n ∧ iv = .int .i64 j ∧ Hid (LoopAt w wr B g p jl F y (tickS now) j ∧ Blk wr w.heap.size 32 #[.slice none 0 0, .slice none 0 0])) (fun iv _ => n - (intOf iv).toNat)
  case atStart => exact ⟨0, Nat.zero_le _, rfl, HSTART⟩
  case round =>
    obtain ⟨j, hj, rfl, hS⟩ := hrel
    by_cases hlt : j < n
    · have j1 : (j : Int) < n := by omega
      have j0 : (0 : Int) ≤ j := by omega
      have HJ := Lib.hid (show wrap64 ((j : Int) + 1) = (j : Int) + 1 from IntWalk.wrap64_in _ (by have := HNN.out; omega))
      have hjq : j < y.q.length := by rw [HN.out.1]; exact hlt
      have hL := hS.out.1
      obtain ⟨b, off, hAA, hbl, kc, hr, ha⟩ := hL.elem hjq
      have hm := getD_mem' hjq
      have hsl := HN.out.2.2.1.all _ (show (y.q.getD j qs0).s ∈ p.l by rw [← HLS.out]; exact List.mem_map_of_mem hm)
      have hst := fun (W W' : World) (P : Nat → Prop) (a b c d e) => hL.step hjq HLS.out (key_tick now) (W := W) (W' := W') (P := P) a b c d e
      have hfq := fun (k : Nat) (e : k = (y.q.getD j qs0).r ∨ k = (y.q.getD j qs0).a) => show k < w.heap.size from HLT.out k (hL.at_.fq k ⟨(mapTo (onS (tickS now)) j y.q).getD j qs0, getD_mem' (l := mapTo (onS (tickS now)) j y.q) (by rw [mapTo_len]; exact hjq), by rw [mapTo_getD _ hjq]; exact e⟩)
      obtain ⟨x, hx⟩ : ∃ x, y.q.getD j qs0 = x := ⟨_, rfl⟩
      rw [hx] at kc hr ha hsl hst hfq
      have q0 := kc.c0
      have q1 := kc.c1
      have q2 := kc.c2
      have q3 := kc.c3
      have hbx := bel_alloc wr (.cells #[.int .i64 x.s.t, .int .i64 x.s.v, .pointer (some ⟨x.r, 0, none⟩), .pointer (some ⟨x.a, 0, none⟩)] 67)
      have hkx := Blk.new wr 67 #[.int .i64 x.s.t, .int .i64 x.s.v, .pointer (some ⟨x.r, 0, none⟩), .pointer (some ⟨x.a, 0, none⟩)]
      have hrx := hr.below hbx hr.lt
      have hax := ha.below hbx ha.lt
      have hres := hS.out.2.below hbx hS.out.2.lt
      have HR := Lib.hid (rtick_any hrx hsl.reg HN.out.2.2.2)
      have HX := Lib.hid (And.intro hbx (And.intro hkx (And.intro hrx (And.intro hax (And.intro hres (And.intro hfq (And.intro hst hsl)))))))
      have HLP := Lib.hid hlt
      have hya := HYA.out
      rw [hAA] at hya
      subst hya
      clear hAA hx kc hbl hbx hkx hrx hax hres hst hfq hsl hm hjq hr ha hL hlt hj
      go_wp2_with fail
      refine HR.out.mono ?_
      rintro e w2 ⟨rfl, hr2, tr2⟩
      have ha2 := HX.out.2.2.2.1.touch tr2 (fun e => blk_ne HX.out.2.2.2.1 HX.out.2.2.1 (by decide) e)
      have hk2 := HX.out.2.1.touch tr2 (fun e => blk_ne HX.out.2.1 HX.out.2.2.1 (by decide) e)
      have hres2 := HX.out.2.2.2.2.1.touch tr2 (fun e => by have := HX.out.2.2.2.2.2.1 _ (.inl e); omega)
      have l3 := hk2.cell 3
      have H2 := Lib.hid (And.intro hr2 (And.intro tr2 (And.intro ha2 hres2)))
      have HAG := Lib.hid (aagain_any ha2 HX.out.2.2.2.2.2.2.2.st)
      clear hr2 tr2 ha2 hk2 hres2
      cases b6 with
      | false =>
        have HE := Lib.hid (show LoopAt w w2 B g p jl F y (tickS now) (j + 1) ∧ Blk w2 w.heap.size 32 #[.slice none 0 0, .slice none 0 0] from
          ⟨HX.out.2.2.2.2.2.2.1 _ w2 (fun k => k = x.r) HX.out.1 H2.out.2.1 (fun _ e => .inl e) H2.out.1 (by unfold tickS; rw [if_neg (of_decide_eq_false HB6.out)]; exact H2.out.2.2.1), H2.out.2.2.2⟩)
        go_wp2_with fail
        go_roundw
        case rel =>
          rw [HJ.out]
          exact ⟨j + 1, HLP.out, by rw [Int.natCast_add]; rfl, HE⟩
        case measure =>
          rw [HJ.out]
          show n - ((j : Int) + 1).toNat < n - ((j : Int)).toNat
          have := HLP.out
          omega
      | true =>
        go_wp2_with fail
        refine HAG.out.mono ?_
        rintro e w3 ⟨rfl, ha3, ta3⟩
        have HE := Lib.hid (show LoopAt w w3 B g p jl F y (tickS now) (j + 1) ∧ Blk w3 w.heap.size 32 #[.slice none 0 0, .slice none 0 0] from
          ⟨HX.out.2.2.2.2.2.2.1 _ w3 (fun k => k = x.r ∨ k = x.a) HX.out.1 ((H2.out.2.1.mono fun _ _ e => .inl e).trans (ta3.mono fun _ _ e => .inr e)) (fun _ e => e) (H2.out.1.touch ta3 (fun e => blk_ne H2.out.2.2.1 H2.out.1 (by decide) e.symm)) (by unfold tickS; rw [if_pos (of_decide_eq_true HB6.out)]; exact ha3), H2.out.2.2.2.touch ta3 (fun e => by have := HX.out.2.2.2.2.2.1 _ (.inr e); omega)⟩)
        clear ha3 ta3
        go_wp2_with fail
        go_roundw
        case rel =>
          rw [HJ.out]
          exact ⟨j + 1, HLP.out, by rw [Int.natCast_add]; rfl, HE⟩
        case measure =>
          rw [HJ.out]
          show n - ((j : Int) + 1).toNat < n - ((j : Int)).toNat
          have := HLP.out
          omega
    · obtain rfl : j = n := by omega
      obtain ⟨hL, hrs⟩ := hS.out
      have hfin := hL.fin HN.out.1.symm (by rw [← HN.out.2.1]; exact HN.out.1.symm)
      have hok1 : PyOk now (withL p (p.l.map (tickS now))) := HN.out.2.2.1.of_map (key_tick now) (fun s hs => hs.tick HN.out.2.2.2.1) rfl
      have htch := hL.tch
      obtain ⟨Y1, hY1⟩ : ∃ Y1, y.with_ (y.q.map (onS (tickS now))) = Y1 := ⟨_, rfl⟩
      rw [hY1] at hfin
      have c2 := hfin.c2
      obtain ⟨b2, hb2⟩ : ∃ b2, decide (now % 2 = 0) = b2 := ⟨_, rfl⟩
      have HB2 := Lib.hid hb2
      have t0 := HN.out.2.2.2.1
      have m2 : (now.tmod 2 == 0) = b2 := by rw [← hb2, Int.tmod_eq_emod_of_nonneg t0]; exact Bool.eq_iff_iff.2 (by simp)
      have m2' : (now % 2 == 0) = b2 := by rw [← hb2]; exact Bool.eq_iff_iff.2 (by simp)
      clear hj hlt hL hY1 hb2 m6 m6' hS c0 HSTART
      by_cases hd : p.due ≤ now
      · have c2' : wr.cell? ⟨g, 2, none⟩ = some (.int .i64 p.due) := c2
        obtain ⟨pd, hpd⟩ : ∃ pd, p.due = pd := ⟨_, rfl⟩
        rw [hpd] at c2'
        have f3 := hfin.blk.frozen 3
        have g3 := hfin.c3
        have h2 := hfin.head (p' := ⟨p.l.map (tickS now), p.due, true, p.at_, p.fails⟩) 3 (.bool true) rfl rfl (Blk.set_ hfin.blk 3 (.bool true))
        obtain ⟨W2, hW2⟩ : ∃ W2, wr.setCell ⟨g, 3, none⟩ (.bool true) = W2 := ⟨_, rfl⟩
        rw [hW2] at h2
        have hok2 : PyOk now ⟨p.l.map (tickS now), p.due, true, p.at_, p.fails⟩ := hok1.same rfl
        have hty := types_any h2.1 hok2
        have hrs2 := hrs.far (a := ⟨g, 3, none⟩) (fun e => by have := HLT.out g hfin.fg; have e' : w.heap.size = g := e; omega) (.bool true)
        rw [hW2] at hrs2
        have H2 := Lib.hid (And.intro h2.1 (And.intro (htch.trans h2.2) (And.intro hrs2 (And.intro hok2 hW2))))
        rw [← hW2] at hty
        have HTY := Lib.hid hty
        have hd1 : pd ≤ now := by rw [← hpd]; exact hd
        have HPD := Lib.hid (And.intro hpd hd)
        clear h2 hok2 hty hrs2 hW2 c2 hfin hok1 htch hrs hpd hd
        go_wp2_with fail
        refine HTY.out.mono ?_
        rw [H2.out.2.2.2.2]
        rintro e w3 ⟨A3, c3, rfl, ho3, hb3⟩
        have h3 := H2.out.1.below hb3
        have hrs3 := H2.out.2.2.1.below hb3 H2.out.2.2.1.lt
        have hnF : ∀ k, W2.heap.size ≤ k → ¬ F k := fun k hk c => by have := HLT.out k c; have := H2.out.2.1.size; omega
        have HALL := Lib.hid (all_any h3 H2.out.2.2.2.1 A3 c3 (typesL (p.l.map (tickS now))) (by have := types_le (p.l.map (tickS now)); omega) (fun V tV => by
          have hoV : OwnI V W2.heap.size A3 c3 (typesL (p.l.map (tickS now))) := own_heap ho3 fun k hk => tV.block k (World.ownsRow.lt ho3 k hk).2 (hnF k (World.ownsRow.lt ho3 k hk).1)
          exact hoV.at_))
        have H3 := Lib.hid (And.intro (H2.out.2.1.trans (below_touch hb3 F)) hrs3)
        obtain ⟨tn3, htn3⟩ : ∃ tn3, (typesL (p.l.map (tickS now))).length = tn3 := ⟨_, rfl⟩
        have htn3' : (typesL (Py.l ⟨p.l.map (tickS now), p.due, true, p.at_, p.fails⟩)).length = tn3 := htn3
        rw [htn3] at HALL
        rw [htn3']
        clear h3 hrs3 ho3 hb3 hnF htn3 htn3'
        go_wp2_with fail
        refine HALL.out.mono ?_
        rintro e w4 ⟨rfl, h4, t4⟩
        have hrs4 := H3.out.2.touch t4 (fun c => by have := HLT.out _ c; omega)
        have c1 := h4.c1
        have HJI := Lib.hid (jit_of _ _ _ jl p.at_ w4 h4.draws)
        have H4 := Lib.hid (And.intro h4 (And.intro (H3.out.1.trans t4) hrs4))
        clear h4 t4 hrs4
        go_wp2_with fail
        refine HJI.out.mono ?_
        rintro e w5 ⟨rfl, hd5, t5⟩
        have h5 := H4.out.1.drawn hd5 t5
        have hji := jitD_in jl p.at_
        obtain ⟨jv, hjv⟩ : ∃ jv, jitD jl p.at_ = jv := ⟨_, rfl⟩
        rw [hjv] at hji ⊢
        have hwj : wrap64 (now + jv) = now + jv := IntWalk.wrap64_in _ (by have := HN.out.2.2.2; unfold Tk at this; omega)
        have f2 := h5.1.blk.frozen 2
        have g2 := h5.1.c2
        have e1 : tick1 (jitD jl) p now = ⟨(p.l.map (tickS now)).map (selS (typesL (p.l.map (tickS now))) now), now + jv, true, p.at_ + 1, p.fails⟩ := by
          unfold tick1
          rw [if_pos HPD.out.2, hjv, alls_sel _ now (types_good p.l).2, types_map (key_tick now)]
        have h6 := h5.1.head (p' := ⟨(p.l.map (tickS now)).map (selS (typesL (p.l.map (tickS now))) now), now + jv, true, p.at_ + 1, p.fails⟩) 2 (.int .i64 (now + jv)) rfl rfl (Blk.set_ h5.1.blk 2 (.int .i64 (now + jv)))
        have hrs6 := (H4.out.2.2.touch t5 (fun c => by have := HLT.out _ H4.out.1.fgd; omega)).far (a := ⟨g, 2, none⟩) (fun e => by have := HLT.out g H4.out.1.fg; have e' : w.heap.size = g := e; omega) (.int .i64 (now + jv))
        have HA6 := Lib.hid (And.intro (h6.1.same e1) (And.intro ((H4.out.2.1.trans h5.2).trans h6.2) (And.intro hrs6 (HN.out.2.2.1.tick1 HN.out.2.2.2.1 (jitD jl)))))
        clear h5 hji hjv e1 h6 hrs6 hd5 t5
        cases b2 with
        | false =>
          have HS10 := Lib.hid (show PyAt ((w5.setCell ⟨g, 2, none⟩ (.int .i64 (now + jv))).alloc (.cells #[.slice none 0 0, .slice none 0 0] 32)) B g (tick1 (jitD jl) p now) jl F _ from HA6.out.1.below (bel_alloc _ _))
          have HSW := Lib.hid (sweep_any HS10.out HA6.out.2.2.2.len)
          have HSM := Lib.hid (show sm = ⟨[], []⟩ by rw [HTELL.out]; unfold tellP; rw [if_neg (of_decide_eq_false HB2.out)])
          have HTP := Lib.hid (show tp = tidyP (tick1 (jitD jl) p now) by rw [HTICK.out]; unfold tick2; rw [if_neg (of_decide_eq_false HB2.out)])
          have hmb := Blk.new (w5.setCell ⟨g, 2, none⟩ (.int .i64 (now + jv))) 32 #[.slice none 0 0, .slice none 0 0]
          have hsz6 : (w5.setCell ⟨g, 2, none⟩ (.int .i64 (now + jv))).heap.size = w5.heap.size := (by simp [World.setCell])
          rw [hsz6] at hmb
          have hs6 := HA6.out.2.1.size
          rw [hsz6] at hs6
          have hrb := (HA6.out.2.2.1).alloc (.cells #[.slice none 0 0, .slice none 0 0] 32)
          have HMB := Lib.hid (And.intro hmb (And.intro hrb (And.intro hs6 (show Touch F w ((w5.setCell ⟨g, 2, none⟩ (.int .i64 (now + jv))).alloc (.cells #[.slice none 0 0, .slice none 0 0] 32)) from HA6.out.2.1.trans (below_touch (bel_alloc _ _) F)))))
          clear hmb hrb hs6 hsz6
          go_wp2_with fail
          refine HSW.out.mono ?_
          rintro e w10 ⟨rfl, hp10, t10⟩
          have hmb := HMB.out.1.touch t10 (fun c => by have := HLT.out _ c; have := HMB.out.2.2.1; omega)
          have hrb := HMB.out.2.1.touch t10 (fun c => by have := HLT.out _ c; omega)
          have d0 : w10.cell? ⟨w5.heap.size, 0, none⟩ = some (.slice none 0 0) := hmb.cell 0
          have d1 : w10.cell? ⟨w5.heap.size, 1, none⟩ = some (.slice none 0 0) := hmb.cell 1
          have e0 : w10.cell? ⟨w.heap.size, 0, none⟩ = some (.slice none 0 0) := hrb.cell 0
          have e1 : w10.cell? ⟨w.heap.size, 1, none⟩ = some (.slice none 0 0) := hrb.cell 1
          have f0 : w10.frozen? ⟨w.heap.size, 0, none⟩ = false := hrb.frozen 0
          have f1 : w10.frozen? ⟨w.heap.size, 1, none⟩ = false := hrb.frozen 1
          obtain ⟨y10, hp10⟩ := hp10
          have tn : Touch (fun k => k = w.heap.size) w10 (((w10.setCell ⟨w.heap.size, 0, none⟩ (.slice none 0 0)).setCell ⟨w.heap.size, 1, none⟩ (.slice none 0 0)).drew) := (((Touch.refl (fun k => k = w.heap.size) w10).set_ (a := ⟨w.heap.size, 0, none⟩) (fun _ => rfl) _).set_ (a := ⟨w.heap.size, 1, none⟩) (fun _ => rfl) _).drew
          have hres := (Blk.set_ (Blk.set_ hrb 0 (.slice none 0 0)) 1 (.slice none 0 0)).drew
          have hMN : w5.heap.size ≠ w.heap.size := fun e => by have h1 := HMB.out.2.1.lt; have h2 := HA6.out.2.2.1.lt; have h3 : (w5.setCell ⟨g, 2, none⟩ (.int .i64 (now + jv))).heap.size = w5.heap.size := (by simp [World.setCell]); omega
          have hmf := (hmb.far (a := ⟨w.heap.size, 0, none⟩) (fun e => hMN e) (.slice none 0 0)).far (a := ⟨w.heap.size, 1, none⟩) (fun e => hMN e) (.slice none 0 0)
          have k0 : ((w10.setCell ⟨w.heap.size, 0, none⟩ (.slice none 0 0)).setCell ⟨w.heap.size, 1, none⟩ (.slice none 0 0)).cell? ⟨w5.heap.size, 0, none⟩ = some (.slice none 0 0) := hmf.cell 0
          have k1 : ((w10.setCell ⟨w.heap.size, 0, none⟩ (.slice none 0 0)).setCell ⟨w.heap.size, 1, none⟩ (.slice none 0 0)).cell? ⟨w5.heap.size, 1, none⟩ = some (.slice none 0 0) := hmf.cell 1
          have HE := Lib.hid (And.intro hres (And.intro (hp10.keep tn (fun k hk e => by have := HLT.out k hk; omega)) (touch_new (HMB.out.2.2.2.trans t10) (Nat.le_refl _) tn)))
          clear hmb hrb hp10 t10 tn hres hmf hMN
          go_wp2_with fail
          go_region
          go_wp2_with fail
          refine bodyPost_ret (presults_pair rfl _ _ w.heap.size 32 _ rfl HE.out.1 rfl) rfl ⟨none, 0, none, 0, by rw [HSM.out]; rfl, by rw [HSM.out]; exact World.ownsRow_nil _ _ _ _, by rw [HSM.out]; exact World.ownsRow_nil _ _ _ _, by rw [HTP.out]; exact ⟨_, HE.out.2.1⟩, HE.out.2.2⟩
        | true =>
          have hps : PyAt ((w5.setCell ⟨g, 2, none⟩ (.int .i64 (now + jv))).alloc (.cells #[.slice none 0 0, .slice none 0 0] 32)) B g (tick1 (jitD jl) p now) jl F _ := HA6.out.1.below (bel_alloc _ _)
          have HSAY := Lib.hid (say_any hps HA6.out.2.2.2)
          obtain ⟨al, hal⟩ : ∃ al, (if (tick1 (jitD jl) p now).ask = true then typesL (tick1 (jitD jl) p now).l else []) = al := ⟨_, rfl⟩
          obtain ⟨sl, hsl⟩ : ∃ sl, saysL (tick1 (jitD jl) p now).l = sl := ⟨_, rfl⟩
          have HSM := Lib.hid (show sm = ⟨al, sl⟩ by rw [HTELL.out, ← hal, ← hsl]; unfold tellP; rw [if_pos (of_decide_eq_true HB2.out)])
          have HTP := Lib.hid (show tp = tidyP ⟨(tick1 (jitD jl) p now).l.map saidS, (tick1 (jitD jl) p now).due, false, (tick1 (jitD jl) p now).at_, (tick1 (jitD jl) p now).fails⟩ by rw [HTICK.out]; unfold tick2; rw [if_pos (of_decide_eq_true HB2.out)])
          have HLL := Lib.hid (show al.length ≤ 3 ∧ sl.length ≤ 16 from ⟨by
            rw [← hal]
            split
            · exact (types_le _).2
            · exact Nat.zero_le _, by
            rw [← hsl]
            unfold saysL
            exact Nat.le_trans (List.length_filterMap_le _ _) HA6.out.2.2.2.len⟩)
          rw [hal, hsl] at HSAY
          have hmb := Blk.new (w5.setCell ⟨g, 2, none⟩ (.int .i64 (now + jv))) 32 #[.slice none 0 0, .slice none 0 0]
          have hsz6 : (w5.setCell ⟨g, 2, none⟩ (.int .i64 (now + jv))).heap.size = w5.heap.size := (by simp [World.setCell])
          rw [hsz6] at hmb
          have hs6 := HA6.out.2.1.size
          rw [hsz6] at hs6
          have hrb := (HA6.out.2.2.1).alloc (.cells #[.slice none 0 0, .slice none 0 0] 32)
          have HMB := Lib.hid (And.intro hmb (And.intro hrb (And.intro hs6 (show Touch F w ((w5.setCell ⟨g, 2, none⟩ (.int .i64 (now + jv))).alloc (.cells #[.slice none 0 0, .slice none 0 0] 32)) from HA6.out.2.1.trans (below_touch (bel_alloc _ _) F)))))
          have HL6 := Lib.hid (show (tick1 (jitD jl) p now).l.length ≤ 16 from HA6.out.2.2.2.len)
          clear hmb hrb hs6 hsz6 hps hal hsl
          go_wp2_with fail
          refine HSAY.out.mono ?_
          rintro e w8 ⟨A8, c8, B8, d8, rfl, ho8, how8, hp8, t8⟩
          have hmb := HMB.out.1.touch t8 (fun c => by have := HLT.out _ c; have := HMB.out.2.2.1; omega)
          have hrb := HMB.out.2.1.touch t8 (fun c => by have := HLT.out _ c; omega)
          have f0 := hmb.frozen 0
          have f1 := hmb.frozen 1
          have z0 := hmb.cell 0
          have z1 := hmb.cell 1
          have htm : Touch (fun k => k = w5.heap.size) w8 ((w8.setCell ⟨w5.heap.size, 0, none⟩ (.slice A8 al.length c8)).setCell ⟨w5.heap.size, 1, none⟩ (.slice B8 sl.length d8)) := ((Touch.refl (fun k => k = w5.heap.size) w8).set_ (a := ⟨w5.heap.size, 0, none⟩) (fun _ => rfl) _).set_ (a := ⟨w5.heap.size, 1, none⟩) (fun _ => rfl) _
          have hmb9 := Blk.set_ (Blk.set_ hmb 0 (.slice A8 al.length c8)) 1 (.slice B8 sl.length d8)
          have hs6 : w.heap.size ≤ w5.heap.size := HMB.out.2.2.1
          have hMlt := HMB.out.1.lt
          have hne : w.heap.size ≠ w5.heap.size := fun e => by
            have h1 := HMB.out.2.1
            have h2 := HA6.out.2.2.1.lt
            have h3 : (w5.setCell ⟨g, 2, none⟩ (.int .i64 (now + jv))).heap.size = w5.heap.size := (by simp [World.setCell])
            omega
          have hrb9 := hrb.touch htm hne
          have hp9 := hp8.keep htm (fun k hk e => by have := HLT.out k hk; omega)
          have hbase : ∀ k, ((w5.setCell ⟨g, 2, none⟩ (.int .i64 (now + jv))).alloc (.cells #[.slice none 0 0, .slice none 0 0] 32)).heap.size ≤ k → w.heap.size ≤ k ∧ ¬ F k ∧ k ≠ w5.heap.size ∧ k ≠ w.heap.size := fun k hk => ⟨by have := HMB.out.2.1.lt; omega, fun c => by have := HLT.out k c; have := HMB.out.2.1.lt; omega, by have := HMB.out.1.lt; omega, by have := HMB.out.2.1.lt; omega⟩
          have HSW := Lib.hid (sweep_any hp9 (by show ((tick1 (jitD jl) p now).l.map saidS).length ≤ 16; rw [List.length_map]; exact HL6.out))
          have HW9 := Lib.hid (And.intro hmb9 (And.intro hrb9 (And.intro (touch_new (HMB.out.2.2.2.trans t8) hs6 htm) (And.intro hbase (And.intro ho8 (And.intro how8 (And.intro htm hne)))))))
          obtain ⟨an, han⟩ : ∃ an, al.length = an := ⟨_, rfl⟩
          obtain ⟨sn, hsn⟩ : ∃ sn, sl.length = sn := ⟨_, rfl⟩
          have HAN := Lib.hid (And.intro han hsn)
          rw [han, hsn] at HSW ⊢
          clear hmb hrb htm hmb9 hrb9 hp9 hp8 hbase ho8 how8 t8 hs6 hMlt han hsn hne
          go_wp2_with fail
          refine HSW.out.mono ?_
          rintro e w10 ⟨rfl, hp10, t10⟩
          have hmb := HW9.out.1.touch (by rw [HAN.out.1, HAN.out.2]; exact t10) (fun c => by have := HLT.out _ c; have := HMB.out.2.2.1; omega)
          have hrb := HW9.out.2.1.touch (by rw [HAN.out.1, HAN.out.2]; exact t10) (fun c => by have := HLT.out _ c; omega)
          have d0 : w10.cell? ⟨w5.heap.size, 0, none⟩ = some (.slice A8 an c8) := by rw [← HAN.out.1]; exact hmb.cell 0
          have d1 : w10.cell? ⟨w5.heap.size, 1, none⟩ = some (.slice B8 sn d8) := by rw [← HAN.out.2]; exact hmb.cell 1
          have e0 : w10.cell? ⟨w.heap.size, 0, none⟩ = some (.slice none 0 0) := hrb.cell 0
          have e1 : w10.cell? ⟨w.heap.size, 1, none⟩ = some (.slice none 0 0) := hrb.cell 1
          have f0 : w10.frozen? ⟨w.heap.size, 0, none⟩ = false := hrb.frozen 0
          have f1 : w10.frozen? ⟨w.heap.size, 1, none⟩ = false := hrb.frozen 1
          obtain ⟨y10, hp10⟩ := hp10
          have tn : Touch (fun k => k = w.heap.size) w10 (((w10.setCell ⟨w.heap.size, 0, none⟩ (.slice A8 an c8)).setCell ⟨w.heap.size, 1, none⟩ (.slice B8 sn d8)).drew) := (((Touch.refl (fun k => k = w.heap.size) w10).set_ (a := ⟨w.heap.size, 0, none⟩) (fun _ => rfl) _).set_ (a := ⟨w.heap.size, 1, none⟩) (fun _ => rfl) _).drew
          have hres := (Blk.set_ (Blk.set_ hrb 0 (.slice A8 an c8)) 1 (.slice B8 sn d8)).drew
          have hMN : w5.heap.size ≠ w.heap.size := fun e => by have h1 := HMB.out.2.1.lt; have h2 := HA6.out.2.2.1.lt; have h3 : (w5.setCell ⟨g, 2, none⟩ (.int .i64 (now + jv))).heap.size = w5.heap.size := (by simp [World.setCell]); omega
          have hmf := (hmb.far (a := ⟨w.heap.size, 0, none⟩) (fun e => hMN e) (.slice A8 an c8)).far (a := ⟨w.heap.size, 1, none⟩) (fun e => hMN e) (.slice B8 sn d8)
          have k0 : ((w10.setCell ⟨w.heap.size, 0, none⟩ (.slice A8 an c8)).setCell ⟨w.heap.size, 1, none⟩ (.slice B8 sn d8)).cell? ⟨w5.heap.size, 0, none⟩ = some (.slice A8 an c8) := by rw [← HAN.out.1]; rw [← HAN.out.1] at hmf; exact hmf.cell 0
          have k1 : ((w10.setCell ⟨w.heap.size, 0, none⟩ (.slice A8 an c8)).setCell ⟨w.heap.size, 1, none⟩ (.slice B8 sn d8)).cell? ⟨w5.heap.size, 1, none⟩ = some (.slice B8 sn d8) := by rw [← HAN.out.2]; rw [← HAN.out.2] at hmf; exact hmf.cell 1
          have hrow : ∀ k, ((w5.setCell ⟨g, 2, none⟩ (.int .i64 (now + jv))).alloc (.cells #[.slice none 0 0, .slice none 0 0] 32)).heap.size ≤ k → k < w8.heap.size → (((w10.setCell ⟨w.heap.size, 0, none⟩ (.slice A8 an c8)).setCell ⟨w.heap.size, 1, none⟩ (.slice B8 sn d8)).drew).heap[k]? = w8.heap[k]? := fun k hk hk8 => by
            have hb := HW9.out.2.2.2.1 k hk
            have hsz := HW9.out.2.2.2.2.2.2.1.size
            have hsz2 := t10.size
            rw [← HAN.out.1, ← HAN.out.2] at hsz2
            exact ((tn.block k (by omega) hb.2.2.2).trans (t10.block k (by rw [← HAN.out.1, ← HAN.out.2]; omega) hb.2.1)).trans (by rw [← HAN.out.1, ← HAN.out.2]; exact HW9.out.2.2.2.2.2.2.1.block k hk8 hb.2.2.1)
          have hoA := own_heap (w' := ((w10.setCell ⟨w.heap.size, 0, none⟩ (.slice A8 an c8)).setCell ⟨w.heap.size, 1, none⟩ (.slice B8 sn d8)).drew) HW9.out.2.2.2.2.1 (fun k hk => hrow k (World.ownsRow.lt HW9.out.2.2.2.2.1 k hk).1 (World.ownsRow.lt HW9.out.2.2.2.2.1 k hk).2)
          have hoW := own_heap (w' := ((w10.setCell ⟨w.heap.size, 0, none⟩ (.slice A8 an c8)).setCell ⟨w.heap.size, 1, none⟩ (.slice B8 sn d8)).drew) HW9.out.2.2.2.2.2.1 (fun k hk => hrow k (World.ownsRow.lt HW9.out.2.2.2.2.2.1 k hk).1 (World.ownsRow.lt HW9.out.2.2.2.2.2.1 k hk).2)
          have hbs : w.heap.size ≤ ((w5.setCell ⟨g, 2, none⟩ (.int .i64 (now + jv))).alloc (.cells #[.slice none 0 0, .slice none 0 0] 32)).heap.size := Nat.le_of_lt HMB.out.2.1.lt
          have HE := Lib.hid (And.intro hres (And.intro (hp10.keep tn (fun k hk e => by have := HLT.out k hk; omega)) (And.intro (touch_new (HW9.out.2.2.1.trans (by rw [HAN.out.1, HAN.out.2]; exact t10)) (Nat.le_refl _) tn) (And.intro (show OwnI _ w.heap.size A8 c8 al from own_low hoA hbs) (show OwnW _ w.heap.size B8 d8 sl from own_low hoW hbs)))))
          have hll := HLL.out
          rw [HAN.out.1, HAN.out.2] at hll
          have hwr : wrap64 ((an : Int) + (sn : Int)) = (an : Int) + (sn : Int) := IntWalk.wrap64_in _ (by omega)
          have HPOS := Lib.hid (show decide ((0 : Int) < (an : Int) + (sn : Int)) = sayB' sm by rw [HSM.out]; unfold sayB'; rw [HAN.out.1, HAN.out.2]; exact decide_eq_decide.2 (by omega))
          clear hmb hrb hp10 t10 tn hres hrow hoA hoW hbs hll hmf hMN
          go_wp2_with fail
          go_region
          go_wp2_with fail
          refine bodyPost_ret (presults_pair rfl _ _ w.heap.size 32 _ rfl HE.out.1 rfl) rfl ⟨A8, c8, B8, d8, ?_, by rw [HSM.out]; exact HE.out.2.2.2.1, by rw [HSM.out]; exact HE.out.2.2.2.2, by rw [HTP.out]; exact ⟨_, HE.out.2.1⟩, HE.out.2.2.1⟩
          rw [← HPOS.out, HSM.out, HAN.out.1, HAN.out.2]
          rfl

      · have hd1 : ¬ p.due ≤ now := hd
        have e1 : tick1 (jitD jl) p now = withL p (p.l.map (tickS now)) := by unfold tick1; rw [if_neg hd]
        have HA6 := Lib.hid (And.intro (hfin.same e1) (And.intro htch (And.intro hrs (HN.out.2.2.1.tick1 HN.out.2.2.2.1 (jitD jl)))))
        have c2' : wr.cell? ⟨g, 2, none⟩ = some (.int .i64 p.due) := c2
        obtain ⟨pd, hpd⟩ : ∃ pd, p.due = pd := ⟨_, rfl⟩
        rw [hpd] at c2' hd1
        have hd2 : now < pd := by omega
        clear hfin hok1 htch hrs hd e1 c2 hpd hd1
        cases b2 with
        | false =>
          have HS10 := Lib.hid (show PyAt (wr.alloc (.cells #[.slice none 0 0, .slice none 0 0] 32)) B g (tick1 (jitD jl) p now) jl F _ from HA6.out.1.below (bel_alloc _ _))
          have HSW := Lib.hid (sweep_any HS10.out HA6.out.2.2.2.len)
          have HSM := Lib.hid (show sm = ⟨[], []⟩ by rw [HTELL.out]; unfold tellP; rw [if_neg (of_decide_eq_false HB2.out)])
          have HTP := Lib.hid (show tp = tidyP (tick1 (jitD jl) p now) by rw [HTICK.out]; unfold tick2; rw [if_neg (of_decide_eq_false HB2.out)])
          have hmb := Blk.new wr 32 #[.slice none 0 0, .slice none 0 0]
          have hsz6 : wr.heap.size = wr.heap.size := rfl
          rw [hsz6] at hmb
          have hs6 := HA6.out.2.1.size
          rw [hsz6] at hs6
          have hrb := (HA6.out.2.2.1).alloc (.cells #[.slice none 0 0, .slice none 0 0] 32)
          have HMB := Lib.hid (And.intro hmb (And.intro hrb (And.intro hs6 (show Touch F w (wr.alloc (.cells #[.slice none 0 0, .slice none 0 0] 32)) from HA6.out.2.1.trans (below_touch (bel_alloc _ _) F)))))
          clear hmb hrb hs6 hsz6
          go_wp2_with fail
          refine HSW.out.mono ?_
          rintro e w10 ⟨rfl, hp10, t10⟩
          have hmb := HMB.out.1.touch t10 (fun c => by have := HLT.out _ c; have := HMB.out.2.2.1; omega)
          have hrb := HMB.out.2.1.touch t10 (fun c => by have := HLT.out _ c; omega)
          have d0 : w10.cell? ⟨wr.heap.size, 0, none⟩ = some (.slice none 0 0) := hmb.cell 0
          have d1 : w10.cell? ⟨wr.heap.size, 1, none⟩ = some (.slice none 0 0) := hmb.cell 1
          have e0 : w10.cell? ⟨w.heap.size, 0, none⟩ = some (.slice none 0 0) := hrb.cell 0
          have e1 : w10.cell? ⟨w.heap.size, 1, none⟩ = some (.slice none 0 0) := hrb.cell 1
          have f0 : w10.frozen? ⟨w.heap.size, 0, none⟩ = false := hrb.frozen 0
          have f1 : w10.frozen? ⟨w.heap.size, 1, none⟩ = false := hrb.frozen 1
          obtain ⟨y10, hp10⟩ := hp10
          have tn : Touch (fun k => k = w.heap.size) w10 (((w10.setCell ⟨w.heap.size, 0, none⟩ (.slice none 0 0)).setCell ⟨w.heap.size, 1, none⟩ (.slice none 0 0)).drew) := (((Touch.refl (fun k => k = w.heap.size) w10).set_ (a := ⟨w.heap.size, 0, none⟩) (fun _ => rfl) _).set_ (a := ⟨w.heap.size, 1, none⟩) (fun _ => rfl) _).drew
          have hres := (Blk.set_ (Blk.set_ hrb 0 (.slice none 0 0)) 1 (.slice none 0 0)).drew
          have hMN : wr.heap.size ≠ w.heap.size := fun e => by have h1 := HMB.out.2.1.lt; have h2 := HA6.out.2.2.1.lt; have h3 : wr.heap.size = wr.heap.size := rfl; omega
          have hmf := (hmb.far (a := ⟨w.heap.size, 0, none⟩) (fun e => hMN e) (.slice none 0 0)).far (a := ⟨w.heap.size, 1, none⟩) (fun e => hMN e) (.slice none 0 0)
          have k0 : ((w10.setCell ⟨w.heap.size, 0, none⟩ (.slice none 0 0)).setCell ⟨w.heap.size, 1, none⟩ (.slice none 0 0)).cell? ⟨wr.heap.size, 0, none⟩ = some (.slice none 0 0) := hmf.cell 0
          have k1 : ((w10.setCell ⟨w.heap.size, 0, none⟩ (.slice none 0 0)).setCell ⟨w.heap.size, 1, none⟩ (.slice none 0 0)).cell? ⟨wr.heap.size, 1, none⟩ = some (.slice none 0 0) := hmf.cell 1
          have HE := Lib.hid (And.intro hres (And.intro (hp10.keep tn (fun k hk e => by have := HLT.out k hk; omega)) (touch_new (HMB.out.2.2.2.trans t10) (Nat.le_refl _) tn)))
          clear hmb hrb hp10 t10 tn hres hmf hMN
          go_wp2_with fail
          go_region
          go_wp2_with fail
          refine bodyPost_ret (presults_pair rfl _ _ w.heap.size 32 _ rfl HE.out.1 rfl) rfl ⟨none, 0, none, 0, by rw [HSM.out]; rfl, by rw [HSM.out]; exact World.ownsRow_nil _ _ _ _, by rw [HSM.out]; exact World.ownsRow_nil _ _ _ _, by rw [HTP.out]; exact ⟨_, HE.out.2.1⟩, HE.out.2.2⟩
        | true =>
          have hps : PyAt (wr.alloc (.cells #[.slice none 0 0, .slice none 0 0] 32)) B g (tick1 (jitD jl) p now) jl F _ := HA6.out.1.below (bel_alloc _ _)
          have HSAY := Lib.hid (say_any hps HA6.out.2.2.2)
          obtain ⟨al, hal⟩ : ∃ al, (if (tick1 (jitD jl) p now).ask = true then typesL (tick1 (jitD jl) p now).l else []) = al := ⟨_, rfl⟩
          obtain ⟨sl, hsl⟩ : ∃ sl, saysL (tick1 (jitD jl) p now).l = sl := ⟨_, rfl⟩
          have HSM := Lib.hid (show sm = ⟨al, sl⟩ by rw [HTELL.out, ← hal, ← hsl]; unfold tellP; rw [if_pos (of_decide_eq_true HB2.out)])
          have HTP := Lib.hid (show tp = tidyP ⟨(tick1 (jitD jl) p now).l.map saidS, (tick1 (jitD jl) p now).due, false, (tick1 (jitD jl) p now).at_, (tick1 (jitD jl) p now).fails⟩ by rw [HTICK.out]; unfold tick2; rw [if_pos (of_decide_eq_true HB2.out)])
          have HLL := Lib.hid (show al.length ≤ 3 ∧ sl.length ≤ 16 from ⟨by
            rw [← hal]
            split
            · exact (types_le _).2
            · exact Nat.zero_le _, by
            rw [← hsl]
            unfold saysL
            exact Nat.le_trans (List.length_filterMap_le _ _) HA6.out.2.2.2.len⟩)
          rw [hal, hsl] at HSAY
          have hmb := Blk.new wr 32 #[.slice none 0 0, .slice none 0 0]
          have hsz6 : wr.heap.size = wr.heap.size := rfl
          rw [hsz6] at hmb
          have hs6 := HA6.out.2.1.size
          rw [hsz6] at hs6
          have hrb := (HA6.out.2.2.1).alloc (.cells #[.slice none 0 0, .slice none 0 0] 32)
          have HMB := Lib.hid (And.intro hmb (And.intro hrb (And.intro hs6 (show Touch F w (wr.alloc (.cells #[.slice none 0 0, .slice none 0 0] 32)) from HA6.out.2.1.trans (below_touch (bel_alloc _ _) F)))))
          have HL6 := Lib.hid (show (tick1 (jitD jl) p now).l.length ≤ 16 from HA6.out.2.2.2.len)
          clear hmb hrb hs6 hsz6 hps hal hsl
          go_wp2_with fail
          refine HSAY.out.mono ?_
          rintro e w8 ⟨A8, c8, B8, d8, rfl, ho8, how8, hp8, t8⟩
          have hmb := HMB.out.1.touch t8 (fun c => by have := HLT.out _ c; have := HMB.out.2.2.1; omega)
          have hrb := HMB.out.2.1.touch t8 (fun c => by have := HLT.out _ c; omega)
          have f0 := hmb.frozen 0
          have f1 := hmb.frozen 1
          have z0 := hmb.cell 0
          have z1 := hmb.cell 1
          have htm : Touch (fun k => k = wr.heap.size) w8 ((w8.setCell ⟨wr.heap.size, 0, none⟩ (.slice A8 al.length c8)).setCell ⟨wr.heap.size, 1, none⟩ (.slice B8 sl.length d8)) := ((Touch.refl (fun k => k = wr.heap.size) w8).set_ (a := ⟨wr.heap.size, 0, none⟩) (fun _ => rfl) _).set_ (a := ⟨wr.heap.size, 1, none⟩) (fun _ => rfl) _
          have hmb9 := Blk.set_ (Blk.set_ hmb 0 (.slice A8 al.length c8)) 1 (.slice B8 sl.length d8)
          have hs6 : w.heap.size ≤ wr.heap.size := HMB.out.2.2.1
          have hMlt := HMB.out.1.lt
          have hne : w.heap.size ≠ wr.heap.size := fun e => by
            have h1 := HMB.out.2.1
            have h2 := HA6.out.2.2.1.lt
            have h3 : wr.heap.size = wr.heap.size := rfl
            omega
          have hrb9 := hrb.touch htm hne
          have hp9 := hp8.keep htm (fun k hk e => by have := HLT.out k hk; omega)
          have hbase : ∀ k, (wr.alloc (.cells #[.slice none 0 0, .slice none 0 0] 32)).heap.size ≤ k → w.heap.size ≤ k ∧ ¬ F k ∧ k ≠ wr.heap.size ∧ k ≠ w.heap.size := fun k hk => ⟨by have := HMB.out.2.1.lt; omega, fun c => by have := HLT.out k c; have := HMB.out.2.1.lt; omega, by have := HMB.out.1.lt; omega, by have := HMB.out.2.1.lt; omega⟩
          have HSW := Lib.hid (sweep_any hp9 (by show ((tick1 (jitD jl) p now).l.map saidS).length ≤ 16; rw [List.length_map]; exact HL6.out))
          have HW9 := Lib.hid (And.intro hmb9 (And.intro hrb9 (And.intro (touch_new (HMB.out.2.2.2.trans t8) hs6 htm) (And.intro hbase (And.intro ho8 (And.intro how8 (And.intro htm hne)))))))
          obtain ⟨an, han⟩ : ∃ an, al.length = an := ⟨_, rfl⟩
          obtain ⟨sn, hsn⟩ : ∃ sn, sl.length = sn := ⟨_, rfl⟩
          have HAN := Lib.hid (And.intro han hsn)
          rw [han, hsn] at HSW ⊢
          clear hmb hrb htm hmb9 hrb9 hp9 hp8 hbase ho8 how8 t8 hs6 hMlt han hsn hne
          go_wp2_with fail
          refine HSW.out.mono ?_
          rintro e w10 ⟨rfl, hp10, t10⟩
          have hmb := HW9.out.1.touch (by rw [HAN.out.1, HAN.out.2]; exact t10) (fun c => by have := HLT.out _ c; have := HMB.out.2.2.1; omega)
          have hrb := HW9.out.2.1.touch (by rw [HAN.out.1, HAN.out.2]; exact t10) (fun c => by have := HLT.out _ c; omega)
          have d0 : w10.cell? ⟨wr.heap.size, 0, none⟩ = some (.slice A8 an c8) := by rw [← HAN.out.1]; exact hmb.cell 0
          have d1 : w10.cell? ⟨wr.heap.size, 1, none⟩ = some (.slice B8 sn d8) := by rw [← HAN.out.2]; exact hmb.cell 1
          have e0 : w10.cell? ⟨w.heap.size, 0, none⟩ = some (.slice none 0 0) := hrb.cell 0
          have e1 : w10.cell? ⟨w.heap.size, 1, none⟩ = some (.slice none 0 0) := hrb.cell 1
          have f0 : w10.frozen? ⟨w.heap.size, 0, none⟩ = false := hrb.frozen 0
          have f1 : w10.frozen? ⟨w.heap.size, 1, none⟩ = false := hrb.frozen 1
          obtain ⟨y10, hp10⟩ := hp10
          have tn : Touch (fun k => k = w.heap.size) w10 (((w10.setCell ⟨w.heap.size, 0, none⟩ (.slice A8 an c8)).setCell ⟨w.heap.size, 1, none⟩ (.slice B8 sn d8)).drew) := (((Touch.refl (fun k => k = w.heap.size) w10).set_ (a := ⟨w.heap.size, 0, none⟩) (fun _ => rfl) _).set_ (a := ⟨w.heap.size, 1, none⟩) (fun _ => rfl) _).drew
          have hres := (Blk.set_ (Blk.set_ hrb 0 (.slice A8 an c8)) 1 (.slice B8 sn d8)).drew
          have hMN : wr.heap.size ≠ w.heap.size := fun e => by have h1 := HMB.out.2.1.lt; have h2 := HA6.out.2.2.1.lt; have h3 : wr.heap.size = wr.heap.size := rfl; omega
          have hmf := (hmb.far (a := ⟨w.heap.size, 0, none⟩) (fun e => hMN e) (.slice A8 an c8)).far (a := ⟨w.heap.size, 1, none⟩) (fun e => hMN e) (.slice B8 sn d8)
          have k0 : ((w10.setCell ⟨w.heap.size, 0, none⟩ (.slice A8 an c8)).setCell ⟨w.heap.size, 1, none⟩ (.slice B8 sn d8)).cell? ⟨wr.heap.size, 0, none⟩ = some (.slice A8 an c8) := by rw [← HAN.out.1]; rw [← HAN.out.1] at hmf; exact hmf.cell 0
          have k1 : ((w10.setCell ⟨w.heap.size, 0, none⟩ (.slice A8 an c8)).setCell ⟨w.heap.size, 1, none⟩ (.slice B8 sn d8)).cell? ⟨wr.heap.size, 1, none⟩ = some (.slice B8 sn d8) := by rw [← HAN.out.2]; rw [← HAN.out.2] at hmf; exact hmf.cell 1
          have hrow : ∀ k, (wr.alloc (.cells #[.slice none 0 0, .slice none 0 0] 32)).heap.size ≤ k → k < w8.heap.size → (((w10.setCell ⟨w.heap.size, 0, none⟩ (.slice A8 an c8)).setCell ⟨w.heap.size, 1, none⟩ (.slice B8 sn d8)).drew).heap[k]? = w8.heap[k]? := fun k hk hk8 => by
            have hb := HW9.out.2.2.2.1 k hk
            have hsz := HW9.out.2.2.2.2.2.2.1.size
            have hsz2 := t10.size
            rw [← HAN.out.1, ← HAN.out.2] at hsz2
            exact ((tn.block k (by omega) hb.2.2.2).trans (t10.block k (by rw [← HAN.out.1, ← HAN.out.2]; omega) hb.2.1)).trans (by rw [← HAN.out.1, ← HAN.out.2]; exact HW9.out.2.2.2.2.2.2.1.block k hk8 hb.2.2.1)
          have hoA := own_heap (w' := ((w10.setCell ⟨w.heap.size, 0, none⟩ (.slice A8 an c8)).setCell ⟨w.heap.size, 1, none⟩ (.slice B8 sn d8)).drew) HW9.out.2.2.2.2.1 (fun k hk => hrow k (World.ownsRow.lt HW9.out.2.2.2.2.1 k hk).1 (World.ownsRow.lt HW9.out.2.2.2.2.1 k hk).2)
          have hoW := own_heap (w' := ((w10.setCell ⟨w.heap.size, 0, none⟩ (.slice A8 an c8)).setCell ⟨w.heap.size, 1, none⟩ (.slice B8 sn d8)).drew) HW9.out.2.2.2.2.2.1 (fun k hk => hrow k (World.ownsRow.lt HW9.out.2.2.2.2.2.1 k hk).1 (World.ownsRow.lt HW9.out.2.2.2.2.2.1 k hk).2)
          have hbs : w.heap.size ≤ (wr.alloc (.cells #[.slice none 0 0, .slice none 0 0] 32)).heap.size := Nat.le_of_lt HMB.out.2.1.lt
          have HE := Lib.hid (And.intro hres (And.intro (hp10.keep tn (fun k hk e => by have := HLT.out k hk; omega)) (And.intro (touch_new (HW9.out.2.2.1.trans (by rw [HAN.out.1, HAN.out.2]; exact t10)) (Nat.le_refl _) tn) (And.intro (show OwnI _ w.heap.size A8 c8 al from own_low hoA hbs) (show OwnW _ w.heap.size B8 d8 sl from own_low hoW hbs)))))
          have hll := HLL.out
          rw [HAN.out.1, HAN.out.2] at hll
          have hwr : wrap64 ((an : Int) + (sn : Int)) = (an : Int) + (sn : Int) := IntWalk.wrap64_in _ (by omega)
          have HPOS := Lib.hid (show decide ((0 : Int) < (an : Int) + (sn : Int)) = sayB' sm by rw [HSM.out]; unfold sayB'; rw [HAN.out.1, HAN.out.2]; exact decide_eq_decide.2 (by omega))
          clear hmb hrb hp10 t10 tn hres hrow hoA hoW hbs hll hmf hMN
          go_wp2_with fail
          go_region
          go_wp2_with fail
          refine bodyPost_ret (presults_pair rfl _ _ w.heap.size 32 _ rfl HE.out.1 rfl) rfl ⟨A8, c8, B8, d8, ?_, by rw [HSM.out]; exact HE.out.2.2.2.1, by rw [HSM.out]; exact HE.out.2.2.2.2, by rw [HTP.out]; exact ⟨_, HE.out.2.1⟩, HE.out.2.2.1⟩
          rw [← HPOS.out, HSM.out, HAN.out.1, HAN.out.2]
          rfl


end
end
end Go.Proofs.Ythghedlgeceepaa
