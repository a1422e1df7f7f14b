/- Joined texts. Conditions: those that each names. -/
import Derived.Test.YthghedlgeceepaaPmCall
import Derived.Test.YthghedlgeceepaaMrFind
import Derived.Test.YthghedlgeceepaaMrGood
namespace Go.Proofs.Ythghedlgeceepaa
section
/- Slot by slot through a port's part: how far a loop came; all is asked for; flushed. Its condition: slots that can be, at most 16. -/
open Go.RowKit
set_option maxRecDepth 100000

/-- The first j are turned. -/
def mapTo {α : Type} (f : α → α) (j : Nat) (l : List α) : List α := (l.take j).map f ++ l.drop j
theorem mapTo_len {α : Type} (f : α → α) (j : Nat) (l : List α) : (mapTo f j l).length = l.length := by unfold mapTo; rw [List.length_append, List.length_map, List.length_take, List.length_drop]; omega
theorem mapTo_zero {α : Type} (f : α → α) (l : List α) : mapTo f 0 l = l := rfl
theorem mapTo_all {α : Type} (f : α → α) (l : List α) : mapTo f l.length l = l.map f := by unfold mapTo; rw [List.take_length, List.drop_length, List.append_nil]
theorem mapTo_next {α : Type} (f : α → α) {j : Nat} {l : List α} (hj : j < l.length) (x : α) (hx : l[j] = x) : (mapTo f j l).set j (f x) = mapTo f (j + 1) l := by
  subst hx
  unfold mapTo
  rw [List.set_append_right _ _ (by rw [List.length_map, List.length_take]; omega), List.length_map, List.length_take, Nat.min_eq_left (Nat.le_of_lt hj), Nat.sub_self, List.take_succ_eq_append_getElem hj, List.map_append, List.append_assoc]
  congr 1
  rw [List.drop_eq_getElem_cons hj]
  rfl
theorem mapTo_at {α : Type} (f : α → α) {j : Nat} {l : List α} (hj : j < l.length) : (mapTo f j l)[j]? = l[j]? := by
  unfold mapTo
  rw [List.getElem?_append_right (by rw [List.length_map, List.length_take]; omega), List.length_map, List.length_take, Nat.min_eq_left (Nat.le_of_lt hj), Nat.sub_self, List.getElem?_drop, Nat.add_zero]
theorem mapTo_getD {α : Type} (f : α → α) {j : Nat} {l : List α} (hj : j < l.length) (z : α) : (mapTo f j l).getD j z = l.getD j z := by
  rw [List.getD_eq_getElem?_getD, List.getD_eq_getElem?_getD, mapTo_at f hj]
/-- A slot's datum is turned, where it lies stays. -/
def onS (f : Sl → Sl) (x : Qs) : Qs := ⟨f x.s, x.r, x.a⟩
def Lay.with_ (y : Lay) (q : List Qs) : Lay := ⟨q, y.A, y.c, y.gd, y.Ad, y.cd⟩
/-- Where a loop over the slots stands. -/
structure LoopAt (w wr : World) (B g : Nat) (p : Py) (jl : List Int) (F : Nat → Prop) (y : Lay) (f : Sl → Sl) (j : Nat) : Prop where
  at_ : PyAt wr B g (withL p (mapTo f j p.l)) jl F (y.with_ (mapTo (onS f) j y.q))
  tch : Touch F w wr
section
variable {w wr : World} {B g : Nat} {p : Py} {jl : List Int} {F : Nat → Prop} {y : Lay} {f : Sl → Sl} {j : Nat}
theorem LoopAt.start (h : PyAt w B g p jl F y) (f : Sl → Sl) : LoopAt w w B g p jl F y f 0 := ⟨h, Touch.refl _ _⟩
theorem LoopAt.fin (h : LoopAt w wr B g p jl F y f j) (e : j = y.q.length) (e2 : j = p.l.length) : PyAt wr B g (withL p (p.l.map f)) jl F (y.with_ (y.q.map (onS f))) := by
  have h1 := h.at_
  rw [show mapTo (onS f) j y.q = y.q.map (onS f) by rw [e]; exact mapTo_all _ _, show mapTo f j p.l = p.l.map f by rw [e2]; exact mapTo_all _ _] at h1
  exact h1
theorem LoopAt.elem (h : LoopAt w wr B g p jl F y f j) (hj : j < y.q.length) : ∃ b off, y.A = some ⟨b, off, none⟩ ∧ b < wr.heap.size ∧ KCells wr b (off + j * 4) (y.q.getD j qs0) ∧ RgAt wr (y.q.getD j qs0).r (y.q.getD j qs0).s.r ∧ ApAt wr (y.q.getD j qs0).a (y.q.getD j qs0).s.a := by
  have hl : j < (mapTo (onS f) j y.q).length := by rw [mapTo_len]; exact hj
  obtain ⟨b, off, e, hb, hc⟩ := h.at_.row.at_ j hl
  have e1 : (mapTo (onS f) j y.q).getD j qs0 = y.q.getD j qs0 := mapTo_getD _ hj _
  have hs := h.at_.slots.each _ (getD_mem' hl)
  rw [show (y.with_ (mapTo (onS f) j y.q)).q.getD j qs0 = y.q.getD j qs0 from e1] at hc hs
  exact ⟨b, off, e, hb, hc, hs⟩
theorem LoopAt.step (h : LoopAt w wr B g p jl F y f j) (hj : j < y.q.length) (hls : y.q.map (·.s) = p.l) (hk : KeyOk f) {W W' : World} (hb : Below wr.heap.size wr W) {P : Nat → Prop} (ht : Touch P W W') (hp : ∀ k, P k → k = (y.q.getD j qs0).r ∨ k = (y.q.getD j qs0).a)
    (hr : RgAt W' (y.q.getD j qs0).r (f (y.q.getD j qs0).s).r) (ha : ApAt W' (y.q.getD j qs0).a (f (y.q.getD j qs0).s).a) : LoopAt w W' B g p jl F y f (j + 1) := by
  have hl : j < (mapTo (onS f) j y.q).length := by rw [mapTo_len]; exact hj
  have e1 : (mapTo (onS f) j y.q).getD j qs0 = y.q.getD j qs0 := mapTo_getD _ hj _
  have e2 : (y.with_ (mapTo (onS f) j y.q)).q.getD j qs0 = y.q.getD j qs0 := e1
  have h1 := (h.at_.below hb).turn (i := j) hl (s := f (y.q.getD j qs0).s) (by rw [e2]; exact hk _) ht (by rw [e2]; exact hp) (by rw [e2]; exact hr) (by rw [e2]; exact ha)
  have hm := getD_mem' hj
  have hjp : j < p.l.length := by rw [← hls, List.length_map]; exact hj
  have e3 : (mapTo f j p.l).set j (f (y.q.getD j qs0).s) = mapTo f (j + 1) p.l := by
    refine mapTo_next f hjp _ ?_
    rw [getD_get hj]
    simp only [← hls, List.getElem_map]
  have e4 : (mapTo (onS f) j y.q).set j (onS f (y.q.getD j qs0)) = mapTo (onS f) (j + 1) y.q := mapTo_next (onS f) hj _ (getD_get hj).symm
  have h2 : PyAt W' B g (withL p ((mapTo f j p.l).set j (f (y.q.getD j qs0).s))) jl F (y.with_ ((mapTo (onS f) j y.q).set j (onS f (y.q.getD j qs0)))) := by
    rw [e2] at h1
    exact h1
  rw [e3, e4] at h2
  refine ⟨h2, h.tch.trans ((below_touch hb F).trans (ht.mono fun k _ hk => ?_))⟩
  rcases hp k hk with e | e
  · exact h.at_.fq k ⟨_, getD_mem' hl, .inl (by rw [e2]; exact e)⟩
  · exact h.at_.fq k ⟨_, getD_mem' hl, .inr (by rw [e2]; exact e)⟩
/-- Nothing is turned of it. -/
theorem LoopAt.stay (h : LoopAt w wr B g p jl F y f j) (hj : j < y.q.length) (hls : y.q.map (·.s) = p.l) (hk : KeyOk f) {W : World} (hb : Below wr.heap.size wr W) (e : f (y.q.getD j qs0).s = (y.q.getD j qs0).s) : LoopAt w W B g p jl F y f (j + 1) := by
  obtain ⟨_, _, _, _, _, hr, ha⟩ := h.elem hj
  exact h.step hj hls hk hb (P := fun _ => False) (Touch.refl _ _) (fun _ c => c.elim) (by rw [e]; exact hr.below hb hr.lt) (by rw [e]; exact ha.below hb ha.lt)
end
/-- All is asked for, of some types. -/
def selS (ks : List Int) (now : Int) (s : Sl) : Sl := if s.t ∈ ks then allS now s else s
theorem key_sel (ks : List Int) (now : Int) : KeyOk (selS ks now) := fun s => by
  unfold selS
  split
  · exact key_all now s
  · exact ⟨rfl, rfl⟩
section
variable {w : World} {B g : Nat} {p : Py} {jl : List Int} {F : Nat → Prop} {y : Lay}
set_option maxHeartbeats 8000000 in
theorem all_any (h : PyAt w B g p jl F y) {now : Int} (hok : PyOk now p) (A : Option Addr) (c : Nat) (ks : List Int) (hl : ks.length ≤ 1048576) (hA : ∀ wr, Touch F w wr → IntsAt wr wr.heap.size A ks) :
    Calls Try.prog 32 #[.pointer (some ⟨g, 0, none⟩), .slice A ks.length c, .int .i64 now] w fun e w' => e = .returned (.tuple #[]) ∧ PyAt w' B g (withL p (p.l.map (selS ks now))) jl F (y.with_ (y.q.map (onS (selS ks now)))) ∧ Touch F w w' := by
  have c0 := h.c0
  have hlen := h.len
  obtain ⟨n, hnn⟩ : ∃ n, y.q.length = n := ⟨_, rfl⟩
  have HN := Lib.hid (And.intro hnn (And.intro hlen hok))
  have HLS := Lib.hid h.ls
  have HL := Lib.hid hl
  have HA := Lib.hid hA
  have H0 := Lib.hid (LoopAt.start h (selS ks now))
  obtain ⟨YA, hYA⟩ : ∃ a, y.A = a := ⟨_, rfl⟩
  rw [hnn, hYA] at c0
  have HYA := Lib.hid hYA
  have HNN := Lib.hid (show n ≤ 16 by rw [← hnn, hlen]; exact hok.len)
  have n0 : (0 : Int) ≤ n := by omega
  obtain ⟨kn, hkn⟩ : ∃ kn, ks.length = kn := ⟨_, rfl⟩
  have HKN := Lib.hid hkn
  rw [hkn]
  clear h hlen hnn hok hl hA hkn hYA
  go_enter Try.func32, Try.ntmps32
  go_wp2_with fail
  go_loopw [13] (fun iv wr => ∃ j : Nat, j ≤ n ∧ iv = .int .i64 j ∧ Hid (LoopAt w wr B g p jl F y (selS ks now) j)) (fun iv _ => n - (intOf iv).toNat)
  case atStart => exact ⟨0, Nat.zero_le _, rfl, H0⟩
  case round =>
    obtain ⟨j, hj, rfl, hS⟩ := hrel
    by_cases hlt : j < n
    · have j1 : (j : Int) < n := by omega
      have j0 : (0 : Int) ≤ j := by omega
      have HJ := Lib.hid (show wrap64 ((j : Int) + 1) = (j : Int) + 1 from IntWalk.wrap64_in _ (by have := HNN.out; omega))
      have hjq : j < y.q.length := by rw [HN.out.1]; exact hlt
      obtain ⟨b, off, hAA, hbl, kc, hr, ha⟩ := hS.out.elem hjq
      have hm := getD_mem' hjq
      have hsl := HN.out.2.2.all _ (show (y.q.getD j qs0).s ∈ p.l by rw [← HLS.out]; exact List.mem_map_of_mem hm)
      have HST := Lib.hid (fun (W W' : World) (P : Nat → Prop) (a b c d e) => hS.out.step hjq HLS.out (key_sel ks now) (W := W) (W' := W') (P := P) a b c d e)
      have HSY := Lib.hid (fun (W : World) (a e) => hS.out.stay hjq HLS.out (key_sel ks now) (W := W) a e)
      obtain ⟨x, hx⟩ : ∃ x, y.q.getD j qs0 = x := ⟨_, rfl⟩
      rw [hx] at kc hr ha hsl HST HSY
      have q0 := kc.c0
      have q1 := kc.c1
      have q2 := kc.c2
      have q3 := kc.c3
      have hbx := bel_alloc wr (.cells #[.int .i64 x.s.t, .int .i64 x.s.v, .pointer (some ⟨x.r, 0, none⟩), .pointer (some ⟨x.a, 0, none⟩)] 67)
      have hkx := Blk.new wr 67 #[.int .i64 x.s.t, .int .i64 x.s.v, .pointer (some ⟨x.r, 0, none⟩), .pointer (some ⟨x.a, 0, none⟩)]
      have hrx := hr.below hbx hr.lt
      have hax := ha.below hbx ha.lt
      have hix := HA.out _ (hS.out.tch.trans (below_touch hbx F))
      have HC := Lib.hid (contains_any A c ks x.s.t _ _ HL.out hix)
      rw [HKN.out] at HC
      have HX := Lib.hid (And.intro hbx (And.intro hkx (And.intro hrx (And.intro hax hsl))))
      obtain ⟨v, hv⟩ : ∃ v, decide (x.s.t ∈ ks) = v := ⟨_, rfl⟩
      rw [hv] at HC
      clear kc hr ha hsl hbx hkx hrx hax hix hx hm hjq hbl
      have hya := HYA.out
      rw [hAA] at hya
      subst hya
      clear hAA
      cases v with
      | false =>
        have HE := Lib.hid (HSY.out _ HX.out.1 (by unfold selS; rw [if_neg (of_decide_eq_false hv)]))
        clear hv
        go_wp2_with fail
        refine HC.out.mono ?_
        rintro e w' ⟨rfl, rfl⟩
        go_wp2_with fail
        go_roundw
        case rel =>
          rw [HJ.out]
          exact ⟨j + 1, hlt, by rw [Int.natCast_add]; rfl, HE⟩
        case measure =>
          rw [HJ.out]
          show n - ((j : Int) + 1).toNat < n - ((j : Int)).toNat
          omega
      | true =>
        have HSEL := Lib.hid (show selS ks now x.s = allS now x.s by unfold selS; rw [if_pos (of_decide_eq_true hv)])
        have HR := Lib.hid (rall_any HX.out.2.2.1 HX.out.2.2.2.2.reg)
        clear hv
        go_wp2_with fail
        refine HC.out.mono ?_
        rintro e w' ⟨rfl, rfl⟩
        go_wp2_with fail
        refine HR.out.mono ?_
        rintro e w2 ⟨rfl, hr2, tr2⟩
        have hne : wr.heap.size ≠ x.r := fun e => blk_ne HX.out.2.1 HX.out.2.2.1 (by decide) e
        have hk2 := HX.out.2.1.touch tr2 hne
        have ha2 := HX.out.2.2.2.1.touch tr2 (fun e => blk_ne HX.out.2.2.2.1 HX.out.2.2.1 (by decide) e)
        have k3 := hk2.cell 3
        have HA2 := Lib.hid (aall_any ha2 HX.out.2.2.2.2.st)
        have HR2 := Lib.hid (And.intro hr2 (And.intro tr2 ha2))
        clear hne hk2 ha2 hr2 tr2
        go_wp2_with fail
        refine HA2.out.mono ?_
        rintro e w3 ⟨rfl, ha3, ta3⟩
        have HE := Lib.hid (HST.out _ w3 (fun k => k = x.r ∨ k = x.a) HX.out.1 ((HR2.out.2.1.mono fun k _ e => .inl e).trans (ta3.mono fun k _ e => .inr e)) (fun _ e => e)
          (by rw [HSEL.out]; exact HR2.out.1.touch ta3 (fun e => blk_ne HR2.out.2.2 HR2.out.1 (by decide) e.symm)) (by rw [HSEL.out]; exact ha3))
        clear ha3 ta3 k3
        go_wp2_with fail
        go_roundw
        case rel =>
          rw [HJ.out]
          exact ⟨j + 1, hlt, by rw [Int.natCast_add]; rfl, HE⟩
        case measure =>
          rw [HJ.out]
          show n - ((j : Int) + 1).toNat < n - ((j : Int)).toNat
          omega
    · obtain rfl : j = n := by omega
      have HE := Lib.hid (And.intro (hS.out.fin HN.out.1.symm (by rw [← HN.out.2.1]; exact HN.out.1.symm)) hS.out.tch)
      clear hj hlt
      go_wp2_with fail
      exact bodyPost_end (results_none rfl _ _ _) rfl ⟨rfl, HE.out⟩
set_option maxHeartbeats 8000000 in
theorem flush_any (h : PyAt w B g p jl F y) {now : Int} (hok : PyOk now p) :
    Calls Try.prog 14 #[.pointer (some ⟨g, 0, none⟩), .int .i64 now] w fun e w' => e = .returned (.tuple #[]) ∧ PyF w' B g (flushP p now) jl F ∧ Touch F w w' := by
  have c0 := h.c0
  have hlen := h.len
  obtain ⟨n, hnn⟩ : ∃ n, y.q.length = n := ⟨_, rfl⟩
  have HN := Lib.hid (And.intro hnn (And.intro hlen hok))
  have HLS := Lib.hid h.ls
  have H0 := Lib.hid (LoopAt.start h (flushS now))
  obtain ⟨YA, hYA⟩ : ∃ a, y.A = a := ⟨_, rfl⟩
  rw [hnn, hYA] at c0
  have HYA := Lib.hid hYA
  have HNN := Lib.hid (show n ≤ 16 by rw [← hnn, hlen]; exact hok.len)
  have n0 : (0 : Int) ≤ n := by omega
  clear h hlen hnn hok hYA
  go_enter Try.func14, Try.ntmps14
  go_wp2_with fail
  go_loopw [13] (fun iv wr => ∃ j : Nat, j ≤ n ∧ iv = .int .i64 j ∧ Hid (LoopAt w wr B g p jl F y (flushS now) j)) (fun iv _ => n - (intOf iv).toNat)
  case atStart => exact ⟨0, Nat.zero_le _, rfl, H0⟩
  case round =>
    obtain ⟨j, hj, rfl, hS⟩ := hrel
    by_cases hlt : j < n
    · have j1 : (j : Int) < n := by omega
      have j0 : (0 : Int) ≤ j := by omega
      have HJ := Lib.hid (show wrap64 ((j : Int) + 1) = (j : Int) + 1 from IntWalk.wrap64_in _ (by have := HNN.out; omega))
      have hjq : j < y.q.length := by rw [HN.out.1]; exact hlt
      obtain ⟨b, off, hAA, hbl, kc, hr, ha⟩ := hS.out.elem hjq
      have hm := getD_mem' hjq
      have hsl := HN.out.2.2.all _ (show (y.q.getD j qs0).s ∈ p.l by rw [← HLS.out]; exact List.mem_map_of_mem hm)
      have HST := Lib.hid (fun (W W' : World) (P : Nat → Prop) (a b c d e) => hS.out.step hjq HLS.out (key_flush now) (W := W) (W' := W') (P := P) a b c d e)
      obtain ⟨x, hx⟩ : ∃ x, y.q.getD j qs0 = x := ⟨_, rfl⟩
      rw [hx] at kc hr ha hsl HST
      have q0 := kc.c0
      have q1 := kc.c1
      have q2 := kc.c2
      have q3 := kc.c3
      have hbx := bel_alloc wr (.cells #[.int .i64 x.s.t, .int .i64 x.s.v, .pointer (some ⟨x.r, 0, none⟩), .pointer (some ⟨x.a, 0, none⟩)] 67)
      have hrx := hr.below hbx hr.lt
      have hax := ha.below hbx ha.lt
      have HX := Lib.hid (And.intro hbx (And.intro hrx hax))
      have HR := Lib.hid (rflush_any hrx hsl.reg)
      clear kc hr ha hsl hbx hrx hax hx hm hjq hbl
      have hya := HYA.out
      rw [hAA] at hya
      subst hya
      clear hAA
      go_wp2_with fail
      refine HR.out.mono ?_
      rintro e w2 ⟨rfl, hr2, tr2⟩
      have HE := Lib.hid (HST.out _ w2 (fun k => k = x.r) HX.out.1 tr2 (fun _ e => .inl e) hr2 (HX.out.2.2.touch tr2 (fun e => blk_ne HX.out.2.2 HX.out.2.1 (by decide) e)))
      clear hr2 tr2
      go_wp2_with fail
      go_roundw
      case rel =>
        rw [HJ.out]
        exact ⟨j + 1, hlt, by rw [Int.natCast_add]; rfl, HE⟩
      case measure =>
        rw [HJ.out]
        show n - ((j : Int) + 1).toNat < n - ((j : Int)).toNat
        omega
    · obtain rfl : j = n := by omega
      have HT := Lib.hid hS.out.tch
      have HSW := Lib.hid (sweep_any (hS.out.fin HN.out.1.symm (by rw [← HN.out.2.1]; exact HN.out.1.symm)) (by show (p.l.map _).length ≤ 16; rw [List.length_map]; exact HN.out.2.2.len))
      clear hj hlt
      go_wp2_with fail
      refine HSW.out.mono ?_
      rintro e w2 ⟨rfl, h2, t2⟩
      have HE := Lib.hid (And.intro h2 (HT.out.trans t2))
      clear h2 t2
      go_wp2_with fail
      exact bodyPost_end (results_none rfl _ _ _) rfl ⟨rfl, HE.out⟩
end
end
section
/- A port's part hears a word; a mode is set, something is wanted. Its conditions: slots that can be, at most 16; ticks far from an int's ends. -/
open Go.RowKit
set_option maxRecDepth 100000

section
variable {w : World} {B g : Nat} {p : Py} {jl : List Int} {F : Nat → Prop} {y : Lay}
theorem kept_cells (q : List Qs) (t v : Int) (k : Nat) : ∃ (i0 i1 : Int) (p2 p3 : Option Addr), keptV q t v k = .agg #[.int .i64 i0, .int .i64 i1, .pointer p2, .pointer p3] := by
  unfold keptV
  split
  · exact ⟨_, _, _, _, rfl⟩
  · exact ⟨_, _, _, _, rfl⟩
theorem PyAt.same (h : PyAt w B g p jl F y) {p' : Py} (e : p' = p) : PyAt w B g p' jl F y := by rw [e]; exact h
/-- The slot of an attribute is turned. -/
theorem PyAt.upd {W W' : World} (h : PyAt W B g p jl F y) (ho : p.l.Pairwise lessS) {t v : Int} {k : Nat} (hk : k < y.q.length) (e : (y.q.getD k qs0).s.t = t ∧ (y.q.getD k qs0).s.v = v) {f : Sl → Sl} (hf : KeyOk f) {P : Nat → Prop} (ht : Touch P W W') (hp : ∀ j, P j → j = (y.q.getD k qs0).r ∨ j = (y.q.getD k qs0).a)
    (hr : RgAt W' (y.q.getD k qs0).r (f (y.q.getD k qs0).s).r) (ha : ApAt W' (y.q.getD k qs0).a (f (y.q.getD k qs0).s).a) :
    PyF W' B g (withL p (updK p.l t v f)) jl F ∧ Touch F W W' := by
  rw [← h.ls] at ho
  have hat := at_key ho hk e
  have hh : hereQ y.q t v k = true := here_iff.2 ⟨hk, e⟩
  have hu := upd_set hat ho hh f
  rw [h.ls] at hu
  refine ⟨⟨_, (h.turn hk (s := f (y.q.getD k qs0).s) (hf _) ht hp hr ha).same (by rw [hu])⟩, ht.mono fun j _ hj => ?_⟩
  rcases hp j hj with c | c
  · exact h.fq j ⟨_, getD_mem' hk, .inl c⟩
  · exact h.fq j ⟨_, getD_mem' hk, .inr c⟩
theorem PyF.wide {W : World} (h : PyF W B g p jl F) {F' : Nat → Prop} (hF : ∀ k, F k → F' k) (hl : ∀ k, F' k → B ≤ k ∧ k < W.heap.size) : PyF W B g p jl F' := by
  obtain ⟨y, h⟩ := h
  exact ⟨y, h.wide hF hl⟩
theorem word_room {p1 : Py} {now : Int} {x : Wd} (hc : comes x.e) (hr : roomP p x.t x.v = some p1) : wordP1 now p x = withL p1 (updK p1.l x.t x.v (hearS x.e x.b now)) := by
  unfold wordP1
  by_cases hh : hasK p.l x.t x.v = true
  · rw [if_pos hh]
    unfold roomP at hr
    rw [if_pos hh] at hr
    injection hr with hr
    subst hr
    rfl
  · rw [if_neg hh, if_pos hc, hr]
theorem word_full {now : Int} {x : Wd} (hc : comes x.e) (hr : roomP p x.t x.v = none) : wordP1 now p x = failP p := by
  unfold wordP1
  by_cases hh : hasK p.l x.t x.v = true
  · unfold roomP at hr
    rw [if_pos hh] at hr
    cases hr
  · rw [if_neg hh, if_pos hc, hr]
theorem room_len {p1 : Py} {t v : Int} {T : Int} (h : PyOk T p) (hT : 0 ≤ T) (ha : attrP t v) (hr : roomP p t v = some p1) : PyOk T p1 := h.room hT ha hr
set_option maxHeartbeats 16000000 in
theorem hear_any (h : PyAt w B g p jl F y) {now : Int} (hok : PyOk now p) (hT : Tk now) (hB : B ≤ w.heap.size) (t v ev b : Int) (hx : attrP t v) :
    Calls Try.prog 33 #[.pointer (some ⟨g, 0, none⟩), .agg #[.int .i64 t, .int .i64 v, .int .i64 ev, .int .i64 b], .int .i64 now] w fun e w' => e = .returned (.tuple #[]) ∧ PyF w' B g (wordP1 now p ⟨t, v, ev, b⟩) jl (grow F w w') ∧ Touch F w w' := by
  have hb := bel_alloc w (.cells #[.int .i64 t, .int .i64 v, .int .i64 ev, .int .i64 b] 52)
  have hbx := Blk.new w 52 #[.int .i64 t, .int .i64 v, .int .i64 ev, .int .i64 b]
  have h1 := h.below hb
  obtain ⟨W, hW⟩ : ∃ W, w.alloc (.cells #[.int .i64 t, .int .i64 v, .int .i64 ev, .int .i64 b] 52) = W := ⟨_, rfl⟩
  rw [hW] at hb hbx h1
  have c0 : W.cell? ⟨w.heap.size, 0, none⟩ = some (.int .i64 t) := hbx.cell 0
  have c1 : W.cell? ⟨w.heap.size, 1, none⟩ = some (.int .i64 v) := hbx.cell 1
  have hf := of_any h1 hok.len t v
  rw [← hW] at c0 c1 hf
  have HF := Lib.hid hf
  have HS := Lib.hid (And.intro h1 (And.intro hb (And.intro hbx (And.intro hok (And.intro hT (And.intro hB (And.intro hx h.lt)))))))
  have HW := Lib.hid hW
  clear h hb hbx h1 hW hf hok hT hB hx
  go_enter Try.func33, Try.ntmps33
  go_wp2_with fail
  refine HF.out.mono ?_
  rw [HW.out]
  rintro e w5 ⟨k, hk, rfl, b5⟩
  have h5 := HS.out.1.below b5
  have hbx5 := HS.out.2.2.1.below b5 HS.out.2.2.1.lt
  have hbw5 := HS.out.2.1.trans (b5.mono HS.out.2.1.size)
  clear c0 c1 b5
  by_cases hcm : comes ev
  · obtain ⟨i0, i1, p2, p3, hkv⟩ := kept_cells y.q t v k
    rw [hkv]
    have hb6 := bel_alloc w5 (.cells #[.int .i64 i0, .int .i64 i1, .pointer p2, .pointer p3] 67)
    have hn6 := Blk.new w5 67 #[.int .i64 i0, .int .i64 i1, .pointer p2, .pointer p3]
    have h6 := h5.below hb6
    have hbx6 := hbx5.below hb6 hbx5.lt
    have hbw6 := hbw5.trans (hb6.mono hbw5.size)
    have hcome := come_any h6 HS.out.2.2.2.1 (Nat.le_trans HS.out.2.2.2.2.2.1 hbw6.size) t v
    obtain ⟨W6, hW6⟩ : ∃ W6, w5.alloc (.cells #[.int .i64 i0, .int .i64 i1, .pointer p2, .pointer p3] 67) = W6 := ⟨_, rfl⟩
    have hs6 : w5.heap.size < W6.heap.size := by rw [← hW6]; simp
    have d0 : W6.cell? ⟨w.heap.size, 0, none⟩ = some (.int .i64 t) := by rw [← hW6]; exact hbx6.cell 0
    have d1 : W6.cell? ⟨w.heap.size, 1, none⟩ = some (.int .i64 v) := by rw [← hW6]; exact hbx6.cell 1
    have d2 : W6.cell? ⟨w.heap.size, 2, none⟩ = some (.int .i64 ev) := by rw [← hW6]; exact hbx6.cell 2
    have x0 := hbx5.cell 0
    have x1 := hbx5.cell 1
    rw [← hW6] at d0 d1 d2
    have HCOME := Lib.hid hcome
    have HFIN := Lib.hid (fun (w7 : World) (e : Ending) (hc : Came W6 w7 B g p jl F t v e) => hc)
    rw [hW6] at hn6 hbx6 hbw6 h6
    have H6 := Lib.hid (And.intro hn6 (And.intro hbx6 (And.intro hbw6 (And.intro hs6 hbw5.size))))
    have HW6 := Lib.hid hW6
    have HCM := Lib.hid hcm
    clear h5 hbx5 hbw5 hk hkv hb6 hn6 h6 hbx6 hbw6 hcome hW6 hs6
    have hcm' : ev = 0 ∨ ev = 1 ∨ ev = 3 := HCM.out
    clear hcm
    rcases hcm' with rfl | rfl | rfl
    · go_wp2_with fail
      refine HCOME.out.mono ?_
      rw [HW6.out]
      rintro e w7 ⟨ht7, hc | hc⟩
      · obtain ⟨p1, y1, k1, hroom, hat, hk1, hkey, rfl⟩ := hc
        have hN2 : ¬ grow F W6 w7 w5.heap.size := fun hj => by
          have h4 := H6.out.2.2.2.1
          have h45 := H6.out.2.2.2.2
          rcases hj with hj | hj
          · have := (HS.out.2.2.2.2.2.2.2 _ hj).2; omega
          · omega
        have hF2 : ¬ F w5.heap.size := fun hj => hN2 (.inl hj)
        have hFb : ¬ F w.heap.size := fun hj => by have := (HS.out.2.2.2.2.2.2.2 _ hj).2; omega
        have hn7 := H6.out.1.touch ht7 hF2
        have hbx7 := H6.out.2.1.touch ht7 hFb
        have hm := getD_mem' hk1
        have hea := hat.slots.each _ hm
        have hok1 := HS.out.2.2.2.1.room HS.out.2.2.2.2.1.1 HS.out.2.2.2.2.2.2.1 hroom
        have hsl := hok1.all _ (show (y1.q.getD k1 qs0).s ∈ p1.l by rw [← hat.ls]; exact List.mem_map_of_mem hm)
        have hupd := fun (W W' : World) (h8 : PyAt W B g p1 jl (grow F W6 w7) y1) (P : Nat → Prop) (a1 a2 a3 a4) => h8.upd hok1.ord hk1 hkey (key_hear 0 b now) (W' := W') (P := P) a1 a2 a3 a4
        obtain ⟨x, hxx⟩ : ∃ x, y1.q.getD k1 qs0 = x := ⟨_, rfl⟩
        rw [hxx] at hea hsl hupd ⊢
        have f0 := hn7.frozen 0
        have f1 := hn7.frozen 1
        have f2 := hn7.frozen 2
        have f3 := hn7.frozen 3
        have z0 := hn7.cell 0
        have z1 := hn7.cell 1
        have z2 := hn7.cell 2
        have z3 := hn7.cell 3
        have htn := put4_touch w7 w5.heap.size (.int .i64 x.s.t) (.int .i64 x.s.v) (.pointer (some ⟨x.r, 0, none⟩)) (.pointer (some ⟨x.a, 0, none⟩))
        have hn8 := put4_blk hn7 (.int .i64 x.s.t) (.int .i64 x.s.v) (.pointer (some ⟨x.r, 0, none⟩)) (.pointer (some ⟨x.a, 0, none⟩))
        have hbn : w.heap.size ≠ w5.heap.size := fun e => by
          have := H6.out.2.1
          exact blk_ne H6.out.2.1 H6.out.1 (by decide) e
        have hbx8 := hbx7.touch htn hbn
        have h8 := hat.keep htn (fun j hj e => hN2 (e ▸ hj))
        have hr8 := hea.1.touch htn (fun e => blk_ne hea.1 hn7 (by decide) e)
        have ha8 := hea.2.touch htn (fun e => blk_ne hea.2 hn7 (by decide) e)
        obtain ⟨W8, hW8⟩ : ∃ W8, put4 w7 w5.heap.size (.int .i64 x.s.t) (.int .i64 x.s.v) (.pointer (some ⟨x.r, 0, none⟩)) (.pointer (some ⟨x.a, 0, none⟩)) = W8 := ⟨_, rfl⟩
        rw [hW8] at htn hn8 hbx8 h8 hr8 ha8
        have HR := Lib.hid (rhear_any hr8 hsl.reg HS.out.2.2.2.2.1 0 b)
        have e2 : W8.cell? ⟨w.heap.size, 2, none⟩ = some (.int .i64 0) := hbx8.cell 2
        have e3 : W8.cell? ⟨w.heap.size, 3, none⟩ = some (.int .i64 b) := hbx8.cell 3
        have e4 : W8.cell? ⟨w5.heap.size, 2, none⟩ = some (.pointer (some ⟨x.r, 0, none⟩)) := hn8.cell 2
        have HE := Lib.hid (And.intro h8 (And.intro ha8 (And.intro hr8 (And.intro htn (And.intro ht7 (And.intro hroom hupd))))))
        have HW8 := Lib.hid (show (((w7.setCell ⟨w5.heap.size, 0, none⟩ (.int .i64 x.s.t)).setCell ⟨w5.heap.size, 1, none⟩ (.int .i64 x.s.v)).setCell ⟨w5.heap.size, 2, none⟩ (.pointer (some ⟨x.r, 0, none⟩))).setCell ⟨w5.heap.size, 3, none⟩ (.pointer (some ⟨x.a, 0, none⟩)) = W8 from hW8)
        unfold Qs.val
        clear hat hk1 hkey hN2 hF2 hFb hn7 hbx7 hm hea hok1 hsl hupd hxx htn hn8 hbn hbx8 h8 hr8 ha8 hroom ht7 d0 d1 d2 x0 x1
        rw [← hW8] at e2 e3 e4
        unfold put4 at e2 e3 e4
        clear hW8
        go_wp2_with fail
        rw [HW8.out]
        refine HR.out.mono ?_
        rintro e w9 ⟨rfl, hr9, tr9⟩
        have hu := HE.out.2.2.2.2.2.2 W8 w9 HE.out.1 (fun j => j = x.r) tr9 (fun _ e => .inl e) hr9 (HE.out.2.1.touch tr9 (fun e => blk_ne HE.out.2.1 HE.out.2.2.1 (by decide) e))
        have hs9 := tr9.size
        have hs8 := HE.out.2.2.2.1.size
        have hs7 := HE.out.2.2.2.2.1.size
        have hs6 := H6.out.2.2.1.size
        have hs5 := H6.out.2.2.2.1
        have hs4 := H6.out.2.2.2.2
        have HFI := Lib.hid (show PyF w9 B g (wordP1 now p ⟨t, v, 0, b⟩) jl (grow F w w9) ∧ Touch F w w9 from by
          refine ⟨?_, ?_⟩
          · rw [word_room (x := ⟨t, v, 0, b⟩) HCM.out HE.out.2.2.2.2.2.1]
            refine hu.1.wide (fun j hj => ?_) (grow_lt HS.out.2.2.2.2.2.2.2 HS.out.2.2.2.2.2.1 (by omega))
            rcases hj with hj | hj
            · exact .inl hj
            · exact .inr (by omega)
          · have t1 : Touch F w w7 := (below_touch H6.out.2.2.1 F).trans HE.out.2.2.2.2.1
            have t2 : Touch F w W8 := touch_new t1 (by omega) HE.out.2.2.2.1
            refine ⟨hu.2.os.trans t2.os, hu.2.tape.trans t2.tape, hu.2.output.trans t2.output, by omega, fun j hj hp => (hu.2.block j (by omega) (fun c => ?_)).trans (t2.block j hj hp)⟩
            rcases c with c | c
            · exact hp c
            · omega)
        clear hu hr9 tr9 hs9 hs8 hs7 hs6 hs5 hs4 e2 e3 e4
        go_wp2_with fail
        exact bodyPost_end (results_none rfl _ _ _) rfl ⟨rfl, HFI.out⟩
      · obtain ⟨hroom, rfl, y2, hat⟩ := hc
        have hFn : ∀ k, F k → k < w.heap.size := fun k hk => (HS.out.2.2.2.2.2.2.2 _ hk).2
        have hs5 := H6.out.2.2.2.1
        have hs4 := H6.out.2.2.2.2
        have hn7 := H6.out.1.touch ht7 (fun c => by have := hFn _ c; omega)
        have hbx7 := H6.out.2.1.touch ht7 (fun c => by have := hFn _ c; omega)
        have f0 := hn7.frozen 0
        have f1 := hn7.frozen 1
        have f2 := hn7.frozen 2
        have f3 := hn7.frozen 3
        have z0 := hn7.cell 0
        have z1 := hn7.cell 1
        have z2 := hn7.cell 2
        have z3 := hn7.cell 3
        have htn := put4_touch w7 w5.heap.size (.int .i64 0) (.int .i64 0) (.pointer none) (.pointer none)
        have hn8 := put4_blk hn7 (.int .i64 0) (.int .i64 0) (.pointer none) (.pointer none)
        have hbn : w.heap.size ≠ w5.heap.size := fun e => blk_ne H6.out.2.1 H6.out.1 (by decide) e
        have hbx8 := hbx7.touch htn hbn
        have h8 := hat.keep htn (fun j hj e => by have := hFn _ hj; omega)
        obtain ⟨W8, hW8⟩ : ∃ W8, put4 w7 w5.heap.size (.int .i64 0) (.int .i64 0) (.pointer none) (.pointer none) = W8 := ⟨_, rfl⟩
        rw [hW8] at htn hn8 hbx8 h8
        have HR := Lib.hid (rhear_nil 0 b now W8)
        have e2 : W8.cell? ⟨w.heap.size, 2, none⟩ = some (.int .i64 0) := hbx8.cell 2
        have e3 : W8.cell? ⟨w.heap.size, 3, none⟩ = some (.int .i64 b) := hbx8.cell 3
        have e4 : W8.cell? ⟨w5.heap.size, 2, none⟩ = some (.pointer none) := hn8.cell 2
        have HW8 := Lib.hid (show (((w7.setCell ⟨w5.heap.size, 0, none⟩ (.int .i64 0)).setCell ⟨w5.heap.size, 1, none⟩ (.int .i64 0)).setCell ⟨w5.heap.size, 2, none⟩ (.pointer none)).setCell ⟨w5.heap.size, 3, none⟩ (.pointer none) = W8 from hW8)
        have hs8 := htn.size
        have hs7 := ht7.size
        have hs6 := H6.out.2.2.1.size
        have HFI := Lib.hid (show PyF W8 B g (wordP1 now p ⟨t, v, 0, b⟩) jl (grow F w W8) ∧ Touch F w W8 from by
          refine ⟨?_, touch_new ((below_touch H6.out.2.2.1 F).trans ht7) (by omega) htn⟩
          rw [word_full (x := ⟨t, v, 0, b⟩) HCM.out hroom]
          exact ⟨y2, h8.wide (fun j hj => .inl hj) (grow_lt HS.out.2.2.2.2.2.2.2 HS.out.2.2.2.2.2.1 (by omega))⟩)
        unfold kz
        clear hat hFn hs5 hs4 hn7 hbx7 htn hn8 hbn hbx8 h8 hroom ht7 d0 d1 d2 x0 x1 hs8 hs7 hs6
        rw [← hW8] at e2 e3 e4
        unfold put4 at e2 e3 e4
        clear hW8
        go_wp2_with fail
        rw [HW8.out]
        refine HR.out.mono ?_
        rintro e w9 ⟨rfl, rfl⟩
        clear e2 e3 e4
        go_wp2_with fail
        exact bodyPost_end (results_none rfl _ _ _) rfl ⟨rfl, HFI.out⟩
    · go_wp2_with fail
      refine HCOME.out.mono ?_
      rw [HW6.out]
      rintro e w7 ⟨ht7, hc | hc⟩
      · obtain ⟨p1, y1, k1, hroom, hat, hk1, hkey, rfl⟩ := hc
        have hN2 : ¬ grow F W6 w7 w5.heap.size := fun hj => by
          have h4 := H6.out.2.2.2.1
          have h45 := H6.out.2.2.2.2
          rcases hj with hj | hj
          · have := (HS.out.2.2.2.2.2.2.2 _ hj).2; omega
          · omega
        have hF2 : ¬ F w5.heap.size := fun hj => hN2 (.inl hj)
        have hFb : ¬ F w.heap.size := fun hj => by have := (HS.out.2.2.2.2.2.2.2 _ hj).2; omega
        have hn7 := H6.out.1.touch ht7 hF2
        have hbx7 := H6.out.2.1.touch ht7 hFb
        have hm := getD_mem' hk1
        have hea := hat.slots.each _ hm
        have hok1 := HS.out.2.2.2.1.room HS.out.2.2.2.2.1.1 HS.out.2.2.2.2.2.2.1 hroom
        have hsl := hok1.all _ (show (y1.q.getD k1 qs0).s ∈ p1.l by rw [← hat.ls]; exact List.mem_map_of_mem hm)
        have hupd := fun (W W' : World) (h8 : PyAt W B g p1 jl (grow F W6 w7) y1) (P : Nat → Prop) (a1 a2 a3 a4) => h8.upd hok1.ord hk1 hkey (key_hear 1 b now) (W' := W') (P := P) a1 a2 a3 a4
        obtain ⟨x, hxx⟩ : ∃ x, y1.q.getD k1 qs0 = x := ⟨_, rfl⟩
        rw [hxx] at hea hsl hupd ⊢
        have f0 := hn7.frozen 0
        have f1 := hn7.frozen 1
        have f2 := hn7.frozen 2
        have f3 := hn7.frozen 3
        have z0 := hn7.cell 0
        have z1 := hn7.cell 1
        have z2 := hn7.cell 2
        have z3 := hn7.cell 3
        have htn := put4_touch w7 w5.heap.size (.int .i64 x.s.t) (.int .i64 x.s.v) (.pointer (some ⟨x.r, 0, none⟩)) (.pointer (some ⟨x.a, 0, none⟩))
        have hn8 := put4_blk hn7 (.int .i64 x.s.t) (.int .i64 x.s.v) (.pointer (some ⟨x.r, 0, none⟩)) (.pointer (some ⟨x.a, 0, none⟩))
        have hbn : w.heap.size ≠ w5.heap.size := fun e => by
          have := H6.out.2.1
          exact blk_ne H6.out.2.1 H6.out.1 (by decide) e
        have hbx8 := hbx7.touch htn hbn
        have h8 := hat.keep htn (fun j hj e => hN2 (e ▸ hj))
        have hr8 := hea.1.touch htn (fun e => blk_ne hea.1 hn7 (by decide) e)
        have ha8 := hea.2.touch htn (fun e => blk_ne hea.2 hn7 (by decide) e)
        obtain ⟨W8, hW8⟩ : ∃ W8, put4 w7 w5.heap.size (.int .i64 x.s.t) (.int .i64 x.s.v) (.pointer (some ⟨x.r, 0, none⟩)) (.pointer (some ⟨x.a, 0, none⟩)) = W8 := ⟨_, rfl⟩
        rw [hW8] at htn hn8 hbx8 h8 hr8 ha8
        have HR := Lib.hid (rhear_any hr8 hsl.reg HS.out.2.2.2.2.1 1 b)
        have e2 : W8.cell? ⟨w.heap.size, 2, none⟩ = some (.int .i64 1) := hbx8.cell 2
        have e3 : W8.cell? ⟨w.heap.size, 3, none⟩ = some (.int .i64 b) := hbx8.cell 3
        have e4 : W8.cell? ⟨w5.heap.size, 2, none⟩ = some (.pointer (some ⟨x.r, 0, none⟩)) := hn8.cell 2
        have HE := Lib.hid (And.intro h8 (And.intro ha8 (And.intro hr8 (And.intro htn (And.intro ht7 (And.intro hroom hupd))))))
        have HW8 := Lib.hid (show (((w7.setCell ⟨w5.heap.size, 0, none⟩ (.int .i64 x.s.t)).setCell ⟨w5.heap.size, 1, none⟩ (.int .i64 x.s.v)).setCell ⟨w5.heap.size, 2, none⟩ (.pointer (some ⟨x.r, 0, none⟩))).setCell ⟨w5.heap.size, 3, none⟩ (.pointer (some ⟨x.a, 0, none⟩)) = W8 from hW8)
        unfold Qs.val
        clear hat hk1 hkey hN2 hF2 hFb hn7 hbx7 hm hea hok1 hsl hupd hxx htn hn8 hbn hbx8 h8 hr8 ha8 hroom ht7 d0 d1 d2 x0 x1
        rw [← hW8] at e2 e3 e4
        unfold put4 at e2 e3 e4
        clear hW8
        go_wp2_with fail
        rw [HW8.out]
        refine HR.out.mono ?_
        rintro e w9 ⟨rfl, hr9, tr9⟩
        have hu := HE.out.2.2.2.2.2.2 W8 w9 HE.out.1 (fun j => j = x.r) tr9 (fun _ e => .inl e) hr9 (HE.out.2.1.touch tr9 (fun e => blk_ne HE.out.2.1 HE.out.2.2.1 (by decide) e))
        have hs9 := tr9.size
        have hs8 := HE.out.2.2.2.1.size
        have hs7 := HE.out.2.2.2.2.1.size
        have hs6 := H6.out.2.2.1.size
        have hs5 := H6.out.2.2.2.1
        have hs4 := H6.out.2.2.2.2
        have HFI := Lib.hid (show PyF w9 B g (wordP1 now p ⟨t, v, 1, b⟩) jl (grow F w w9) ∧ Touch F w w9 from by
          refine ⟨?_, ?_⟩
          · rw [word_room (x := ⟨t, v, 1, b⟩) HCM.out HE.out.2.2.2.2.2.1]
            refine hu.1.wide (fun j hj => ?_) (grow_lt HS.out.2.2.2.2.2.2.2 HS.out.2.2.2.2.2.1 (by omega))
            rcases hj with hj | hj
            · exact .inl hj
            · exact .inr (by omega)
          · have t1 : Touch F w w7 := (below_touch H6.out.2.2.1 F).trans HE.out.2.2.2.2.1
            have t2 : Touch F w W8 := touch_new t1 (by omega) HE.out.2.2.2.1
            refine ⟨hu.2.os.trans t2.os, hu.2.tape.trans t2.tape, hu.2.output.trans t2.output, by omega, fun j hj hp => (hu.2.block j (by omega) (fun c => ?_)).trans (t2.block j hj hp)⟩
            rcases c with c | c
            · exact hp c
            · omega)
        clear hu hr9 tr9 hs9 hs8 hs7 hs6 hs5 hs4 e2 e3 e4
        go_wp2_with fail
        exact bodyPost_end (results_none rfl _ _ _) rfl ⟨rfl, HFI.out⟩
      · obtain ⟨hroom, rfl, y2, hat⟩ := hc
        have hFn : ∀ k, F k → k < w.heap.size := fun k hk => (HS.out.2.2.2.2.2.2.2 _ hk).2
        have hs5 := H6.out.2.2.2.1
        have hs4 := H6.out.2.2.2.2
        have hn7 := H6.out.1.touch ht7 (fun c => by have := hFn _ c; omega)
        have hbx7 := H6.out.2.1.touch ht7 (fun c => by have := hFn _ c; omega)
        have f0 := hn7.frozen 0
        have f1 := hn7.frozen 1
        have f2 := hn7.frozen 2
        have f3 := hn7.frozen 3
        have z0 := hn7.cell 0
        have z1 := hn7.cell 1
        have z2 := hn7.cell 2
        have z3 := hn7.cell 3
        have htn := put4_touch w7 w5.heap.size (.int .i64 0) (.int .i64 0) (.pointer none) (.pointer none)
        have hn8 := put4_blk hn7 (.int .i64 0) (.int .i64 0) (.pointer none) (.pointer none)
        have hbn : w.heap.size ≠ w5.heap.size := fun e => blk_ne H6.out.2.1 H6.out.1 (by decide) e
        have hbx8 := hbx7.touch htn hbn
        have h8 := hat.keep htn (fun j hj e => by have := hFn _ hj; omega)
        obtain ⟨W8, hW8⟩ : ∃ W8, put4 w7 w5.heap.size (.int .i64 0) (.int .i64 0) (.pointer none) (.pointer none) = W8 := ⟨_, rfl⟩
        rw [hW8] at htn hn8 hbx8 h8
        have HR := Lib.hid (rhear_nil 1 b now W8)
        have e2 : W8.cell? ⟨w.heap.size, 2, none⟩ = some (.int .i64 1) := hbx8.cell 2
        have e3 : W8.cell? ⟨w.heap.size, 3, none⟩ = some (.int .i64 b) := hbx8.cell 3
        have e4 : W8.cell? ⟨w5.heap.size, 2, none⟩ = some (.pointer none) := hn8.cell 2
        have HW8 := Lib.hid (show (((w7.setCell ⟨w5.heap.size, 0, none⟩ (.int .i64 0)).setCell ⟨w5.heap.size, 1, none⟩ (.int .i64 0)).setCell ⟨w5.heap.size, 2, none⟩ (.pointer none)).setCell ⟨w5.heap.size, 3, none⟩ (.pointer none) = W8 from hW8)
        have hs8 := htn.size
        have hs7 := ht7.size
        have hs6 := H6.out.2.2.1.size
        have HFI := Lib.hid (show PyF W8 B g (wordP1 now p ⟨t, v, 1, b⟩) jl (grow F w W8) ∧ Touch F w W8 from by
          refine ⟨?_, touch_new ((below_touch H6.out.2.2.1 F).trans ht7) (by omega) htn⟩
          rw [word_full (x := ⟨t, v, 1, b⟩) HCM.out hroom]
          exact ⟨y2, h8.wide (fun j hj => .inl hj) (grow_lt HS.out.2.2.2.2.2.2.2 HS.out.2.2.2.2.2.1 (by omega))⟩)
        unfold kz
        clear hat hFn hs5 hs4 hn7 hbx7 htn hn8 hbn hbx8 h8 hroom ht7 d0 d1 d2 x0 x1 hs8 hs7 hs6
        rw [← hW8] at e2 e3 e4
        unfold put4 at e2 e3 e4
        clear hW8
        go_wp2_with fail
        rw [HW8.out]
        refine HR.out.mono ?_
        rintro e w9 ⟨rfl, rfl⟩
        clear e2 e3 e4
        go_wp2_with fail
        exact bodyPost_end (results_none rfl _ _ _) rfl ⟨rfl, HFI.out⟩
    · go_wp2_with fail
      refine HCOME.out.mono ?_
      rw [HW6.out]
      rintro e w7 ⟨ht7, hc | hc⟩
      · obtain ⟨p1, y1, k1, hroom, hat, hk1, hkey, rfl⟩ := hc
        have hN2 : ¬ grow F W6 w7 w5.heap.size := fun hj => by
          have h4 := H6.out.2.2.2.1
          have h45 := H6.out.2.2.2.2
          rcases hj with hj | hj
          · have := (HS.out.2.2.2.2.2.2.2 _ hj).2; omega
          · omega
        have hF2 : ¬ F w5.heap.size := fun hj => hN2 (.inl hj)
        have hFb : ¬ F w.heap.size := fun hj => by have := (HS.out.2.2.2.2.2.2.2 _ hj).2; omega
        have hn7 := H6.out.1.touch ht7 hF2
        have hbx7 := H6.out.2.1.touch ht7 hFb
        have hm := getD_mem' hk1
        have hea := hat.slots.each _ hm
        have hok1 := HS.out.2.2.2.1.room HS.out.2.2.2.2.1.1 HS.out.2.2.2.2.2.2.1 hroom
        have hsl := hok1.all _ (show (y1.q.getD k1 qs0).s ∈ p1.l by rw [← hat.ls]; exact List.mem_map_of_mem hm)
        have hupd := fun (W W' : World) (h8 : PyAt W B g p1 jl (grow F W6 w7) y1) (P : Nat → Prop) (a1 a2 a3 a4) => h8.upd hok1.ord hk1 hkey (key_hear 3 b now) (W' := W') (P := P) a1 a2 a3 a4
        obtain ⟨x, hxx⟩ : ∃ x, y1.q.getD k1 qs0 = x := ⟨_, rfl⟩
        rw [hxx] at hea hsl hupd ⊢
        have f0 := hn7.frozen 0
        have f1 := hn7.frozen 1
        have f2 := hn7.frozen 2
        have f3 := hn7.frozen 3
        have z0 := hn7.cell 0
        have z1 := hn7.cell 1
        have z2 := hn7.cell 2
        have z3 := hn7.cell 3
        have htn := put4_touch w7 w5.heap.size (.int .i64 x.s.t) (.int .i64 x.s.v) (.pointer (some ⟨x.r, 0, none⟩)) (.pointer (some ⟨x.a, 0, none⟩))
        have hn8 := put4_blk hn7 (.int .i64 x.s.t) (.int .i64 x.s.v) (.pointer (some ⟨x.r, 0, none⟩)) (.pointer (some ⟨x.a, 0, none⟩))
        have hbn : w.heap.size ≠ w5.heap.size := fun e => by
          have := H6.out.2.1
          exact blk_ne H6.out.2.1 H6.out.1 (by decide) e
        have hbx8 := hbx7.touch htn hbn
        have h8 := hat.keep htn (fun j hj e => hN2 (e ▸ hj))
        have hr8 := hea.1.touch htn (fun e => blk_ne hea.1 hn7 (by decide) e)
        have ha8 := hea.2.touch htn (fun e => blk_ne hea.2 hn7 (by decide) e)
        obtain ⟨W8, hW8⟩ : ∃ W8, put4 w7 w5.heap.size (.int .i64 x.s.t) (.int .i64 x.s.v) (.pointer (some ⟨x.r, 0, none⟩)) (.pointer (some ⟨x.a, 0, none⟩)) = W8 := ⟨_, rfl⟩
        rw [hW8] at htn hn8 hbx8 h8 hr8 ha8
        have HR := Lib.hid (rhear_any hr8 hsl.reg HS.out.2.2.2.2.1 3 b)
        have e2 : W8.cell? ⟨w.heap.size, 2, none⟩ = some (.int .i64 3) := hbx8.cell 2
        have e3 : W8.cell? ⟨w.heap.size, 3, none⟩ = some (.int .i64 b) := hbx8.cell 3
        have e4 : W8.cell? ⟨w5.heap.size, 2, none⟩ = some (.pointer (some ⟨x.r, 0, none⟩)) := hn8.cell 2
        have HE := Lib.hid (And.intro h8 (And.intro ha8 (And.intro hr8 (And.intro htn (And.intro ht7 (And.intro hroom hupd))))))
        have HW8 := Lib.hid (show (((w7.setCell ⟨w5.heap.size, 0, none⟩ (.int .i64 x.s.t)).setCell ⟨w5.heap.size, 1, none⟩ (.int .i64 x.s.v)).setCell ⟨w5.heap.size, 2, none⟩ (.pointer (some ⟨x.r, 0, none⟩))).setCell ⟨w5.heap.size, 3, none⟩ (.pointer (some ⟨x.a, 0, none⟩)) = W8 from hW8)
        unfold Qs.val
        clear hat hk1 hkey hN2 hF2 hFb hn7 hbx7 hm hea hok1 hsl hupd hxx htn hn8 hbn hbx8 h8 hr8 ha8 hroom ht7 d0 d1 d2 x0 x1
        rw [← hW8] at e2 e3 e4
        unfold put4 at e2 e3 e4
        clear hW8
        go_wp2_with fail
        rw [HW8.out]
        refine HR.out.mono ?_
        rintro e w9 ⟨rfl, hr9, tr9⟩
        have hu := HE.out.2.2.2.2.2.2 W8 w9 HE.out.1 (fun j => j = x.r) tr9 (fun _ e => .inl e) hr9 (HE.out.2.1.touch tr9 (fun e => blk_ne HE.out.2.1 HE.out.2.2.1 (by decide) e))
        have hs9 := tr9.size
        have hs8 := HE.out.2.2.2.1.size
        have hs7 := HE.out.2.2.2.2.1.size
        have hs6 := H6.out.2.2.1.size
        have hs5 := H6.out.2.2.2.1
        have hs4 := H6.out.2.2.2.2
        have HFI := Lib.hid (show PyF w9 B g (wordP1 now p ⟨t, v, 3, b⟩) jl (grow F w w9) ∧ Touch F w w9 from by
          refine ⟨?_, ?_⟩
          · rw [word_room (x := ⟨t, v, 3, b⟩) HCM.out HE.out.2.2.2.2.2.1]
            refine hu.1.wide (fun j hj => ?_) (grow_lt HS.out.2.2.2.2.2.2.2 HS.out.2.2.2.2.2.1 (by omega))
            rcases hj with hj | hj
            · exact .inl hj
            · exact .inr (by omega)
          · have t1 : Touch F w w7 := (below_touch H6.out.2.2.1 F).trans HE.out.2.2.2.2.1
            have t2 : Touch F w W8 := touch_new t1 (by omega) HE.out.2.2.2.1
            refine ⟨hu.2.os.trans t2.os, hu.2.tape.trans t2.tape, hu.2.output.trans t2.output, by omega, fun j hj hp => (hu.2.block j (by omega) (fun c => ?_)).trans (t2.block j hj hp)⟩
            rcases c with c | c
            · exact hp c
            · omega)
        clear hu hr9 tr9 hs9 hs8 hs7 hs6 hs5 hs4 e2 e3 e4
        go_wp2_with fail
        exact bodyPost_end (results_none rfl _ _ _) rfl ⟨rfl, HFI.out⟩
      · obtain ⟨hroom, rfl, y2, hat⟩ := hc
        have hFn : ∀ k, F k → k < w.heap.size := fun k hk => (HS.out.2.2.2.2.2.2.2 _ hk).2
        have hs5 := H6.out.2.2.2.1
        have hs4 := H6.out.2.2.2.2
        have hn7 := H6.out.1.touch ht7 (fun c => by have := hFn _ c; omega)
        have hbx7 := H6.out.2.1.touch ht7 (fun c => by have := hFn _ c; omega)
        have f0 := hn7.frozen 0
        have f1 := hn7.frozen 1
        have f2 := hn7.frozen 2
        have f3 := hn7.frozen 3
        have z0 := hn7.cell 0
        have z1 := hn7.cell 1
        have z2 := hn7.cell 2
        have z3 := hn7.cell 3
        have htn := put4_touch w7 w5.heap.size (.int .i64 0) (.int .i64 0) (.pointer none) (.pointer none)
        have hn8 := put4_blk hn7 (.int .i64 0) (.int .i64 0) (.pointer none) (.pointer none)
        have hbn : w.heap.size ≠ w5.heap.size := fun e => blk_ne H6.out.2.1 H6.out.1 (by decide) e
        have hbx8 := hbx7.touch htn hbn
        have h8 := hat.keep htn (fun j hj e => by have := hFn _ hj; omega)
        obtain ⟨W8, hW8⟩ : ∃ W8, put4 w7 w5.heap.size (.int .i64 0) (.int .i64 0) (.pointer none) (.pointer none) = W8 := ⟨_, rfl⟩
        rw [hW8] at htn hn8 hbx8 h8
        have HR := Lib.hid (rhear_nil 3 b now W8)
        have e2 : W8.cell? ⟨w.heap.size, 2, none⟩ = some (.int .i64 3) := hbx8.cell 2
        have e3 : W8.cell? ⟨w.heap.size, 3, none⟩ = some (.int .i64 b) := hbx8.cell 3
        have e4 : W8.cell? ⟨w5.heap.size, 2, none⟩ = some (.pointer none) := hn8.cell 2
        have HW8 := Lib.hid (show (((w7.setCell ⟨w5.heap.size, 0, none⟩ (.int .i64 0)).setCell ⟨w5.heap.size, 1, none⟩ (.int .i64 0)).setCell ⟨w5.heap.size, 2, none⟩ (.pointer none)).setCell ⟨w5.heap.size, 3, none⟩ (.pointer none) = W8 from hW8)
        have hs8 := htn.size
        have hs7 := ht7.size
        have hs6 := H6.out.2.2.1.size
        have HFI := Lib.hid (show PyF W8 B g (wordP1 now p ⟨t, v, 3, b⟩) jl (grow F w W8) ∧ Touch F w W8 from by
          refine ⟨?_, touch_new ((below_touch H6.out.2.2.1 F).trans ht7) (by omega) htn⟩
          rw [word_full (x := ⟨t, v, 3, b⟩) HCM.out hroom]
          exact ⟨y2, h8.wide (fun j hj => .inl hj) (grow_lt HS.out.2.2.2.2.2.2.2 HS.out.2.2.2.2.2.1 (by omega))⟩)
        unfold kz
        clear hat hFn hs5 hs4 hn7 hbx7 htn hn8 hbn hbx8 h8 hroom ht7 d0 d1 d2 x0 x1 hs8 hs7 hs6
        rw [← hW8] at e2 e3 e4
        unfold put4 at e2 e3 e4
        clear hW8
        go_wp2_with fail
        rw [HW8.out]
        refine HR.out.mono ?_
        rintro e w9 ⟨rfl, rfl⟩
        clear e2 e3 e4
        go_wp2_with fail
        exact bodyPost_end (results_none rfl _ _ _) rfl ⟨rfl, HFI.out⟩
  · have e0 : (ev == 0) = false := by rw [beq_eq_false_iff_ne]; intro c; exact hcm (.inl c)
    have e1 : (ev == 1) = false := by rw [beq_eq_false_iff_ne]; intro c; exact hcm (.inr (.inl c))
    have e3 : (ev == 3) = false := by rw [beq_eq_false_iff_ne]; intro c; exact hcm (.inr (.inr c))
    have ho := HS.out.2.2.2.1.ord
    rw [← h5.ls] at ho
    have hhas := here_has hk ho
    rw [h5.ls] at hhas
    cases hh : hereQ y.q t v k with
    | true =>
      rw [hh] at hhas
      obtain ⟨hkl, hkey⟩ := here_iff.1 hh
      rw [show keptV y.q t v k = (y.q.getD k qs0).val by unfold keptV; rw [hh]; rfl]
      have hm := getD_mem' hkl
      have hsl := HS.out.2.2.2.1.all _ (show (y.q.getD k qs0).s ∈ p.l by rw [← h5.ls]; exact List.mem_map_of_mem hm)
      have hea := h5.slots.each _ hm
      have hupd := fun (W W' : World) (h8 : PyAt W B g p jl F y) (P : Nat → Prop) (a1 a2 a3 a4) => h8.upd HS.out.2.2.2.1.ord hkl hkey (key_hear ev b now) (W' := W') (P := P) a1 a2 a3 a4
      obtain ⟨x, hxx⟩ : ∃ x, y.q.getD k qs0 = x := ⟨_, rfl⟩
      rw [hxx] at hea hsl hupd ⊢
      have hb6 := bel_alloc w5 (.cells #[.int .i64 x.s.t, .int .i64 x.s.v, .pointer (some ⟨x.r, 0, none⟩), .pointer (some ⟨x.a, 0, none⟩)] 67)
      have hr6 := hea.1.below hb6 hea.1.lt
      have ha6 := hea.2.below hb6 hea.2.lt
      have h6 := h5.below hb6
      have HR := Lib.hid (rhear_any hr6 hsl.reg HS.out.2.2.2.2.1 ev b)
      have x0 := hbx5.cell 0
      have x1 := hbx5.cell 1
      have x2 := hbx5.cell 2
      have x3 := hbx5.cell 3
      have hbx6 := hbx5.below hb6 hbx5.lt
      have y2 : (w5.alloc (.cells #[.int .i64 x.s.t, .int .i64 x.s.v, .pointer (some ⟨x.r, 0, none⟩), .pointer (some ⟨x.a, 0, none⟩)] 67)).cell? ⟨w.heap.size, 2, none⟩ = some (.int .i64 ev) := hbx6.cell 2
      have y3 : (w5.alloc (.cells #[.int .i64 x.s.t, .int .i64 x.s.v, .pointer (some ⟨x.r, 0, none⟩), .pointer (some ⟨x.a, 0, none⟩)] 67)).cell? ⟨w.heap.size, 3, none⟩ = some (.int .i64 b) := hbx6.cell 3
      have HE := Lib.hid (And.intro h6 (And.intro hr6 (And.intro ha6 (And.intro (hbw5.trans (hb6.mono hbw5.size)) (And.intro hhas hupd)))))
      unfold Qs.val
      clear h5 hbx5 hbw5 hk hh hhas hkl hkey hm hsl hea hupd hxx hb6 hr6 ha6 h6 hbx6 ho hcm
      go_wp2_with fail
      refine HR.out.mono ?_
      rintro e w9 ⟨rfl, hr9, tr9⟩
      have hu := HE.out.2.2.2.2.2 _ w9 HE.out.1 (fun j => j = x.r) tr9 (fun _ e => .inl e) hr9 (HE.out.2.2.1.touch tr9 (fun e => blk_ne HE.out.2.2.1 HE.out.2.1 (by decide) e))
      have hs9 := tr9.size
      have hs8 := HE.out.2.2.2.1.size
      have HFI := Lib.hid (show PyF w9 B g (wordP1 now p ⟨t, v, ev, b⟩) jl (grow F w w9) ∧ Touch F w w9 from by
        refine ⟨?_, (below_touch HE.out.2.2.2.1 F).trans hu.2⟩
        have e9 : wordP1 now p ⟨t, v, ev, b⟩ = withL p (updK p.l t v (hearS ev b now)) := by
          unfold wordP1
          rw [if_pos HE.out.2.2.2.2.1.symm]
        rw [e9]
        exact hu.1.wide (fun j hj => .inl hj) (grow_lt HS.out.2.2.2.2.2.2.2 HS.out.2.2.2.2.2.1 (by omega)))
      clear hu hr9 tr9 hs9 hs8 x0 x1 x2 x3 y2 y3
      go_wp2_with fail
      exact bodyPost_end (results_none rfl _ _ _) rfl ⟨rfl, HFI.out⟩
    | false =>
      rw [hh] at hhas
      rw [show keptV y.q t v k = kz by unfold keptV; rw [hh]; rfl]
      have hb6 := bel_alloc w5 (.cells #[.int .i64 0, .int .i64 0, .pointer none, .pointer none] 67)
      have h6 := h5.below hb6
      have HR := Lib.hid (rhear_nil ev b now (w5.alloc (.cells #[.int .i64 0, .int .i64 0, .pointer none, .pointer none] 67)))
      have x0 := hbx5.cell 0
      have x1 := hbx5.cell 1
      have x2 := hbx5.cell 2
      have x3 := hbx5.cell 3
      have hbx6 := hbx5.below hb6 hbx5.lt
      have y2 : (w5.alloc (.cells #[.int .i64 0, .int .i64 0, .pointer none, .pointer none] 67)).cell? ⟨w.heap.size, 2, none⟩ = some (.int .i64 ev) := hbx6.cell 2
      have y3 : (w5.alloc (.cells #[.int .i64 0, .int .i64 0, .pointer none, .pointer none] 67)).cell? ⟨w.heap.size, 3, none⟩ = some (.int .i64 b) := hbx6.cell 3
      have hbw6 := hbw5.trans (hb6.mono hbw5.size)
      have HFI := Lib.hid (show PyF (w5.alloc (.cells #[.int .i64 0, .int .i64 0, .pointer none, .pointer none] 67)) B g (wordP1 now p ⟨t, v, ev, b⟩) jl (grow F w (w5.alloc (.cells #[.int .i64 0, .int .i64 0, .pointer none, .pointer none] 67))) ∧ Touch F w (w5.alloc (.cells #[.int .i64 0, .int .i64 0, .pointer none, .pointer none] 67)) from by
        refine ⟨?_, below_touch hbw6 F⟩
        have e9 : wordP1 now p ⟨t, v, ev, b⟩ = p := by
          unfold wordP1
          rw [if_neg (by rw [← hhas]; decide), if_neg hcm]
        rw [e9]
        exact ⟨y, h6.wide (fun j hj => .inl hj) (grow_lt HS.out.2.2.2.2.2.2.2 HS.out.2.2.2.2.2.1 hbw6.size)⟩)
      unfold kz
      clear h5 hbx5 hbw5 hk hh hhas hb6 h6 hbx6 ho hcm hbw6
      go_wp2_with fail
      refine HR.out.mono ?_
      rintro e w9 ⟨rfl, rfl⟩
      clear x0 x1 x2 x3 y2 y3
      go_wp2_with fail
      exact bodyPost_end (results_none rfl _ _ _) rfl ⟨rfl, HFI.out⟩
end
end
section
/- A mode of an attribute's at a port; an attribute is wanted, or no more. Their conditions: slots that can be, at most 16, none idle. -/
open Go.RowKit
set_option maxRecDepth 100000

def TidyOk (p : Py) : Prop := ∀ s ∈ p.l, idleS s = false
theorem tidyL_self {l : List Sl} (h : ∀ s ∈ l, idleS s = false) : tidyL l = l := by
  unfold tidyL
  rw [List.filter_eq_self]
  intro s hs
  rw [h s hs]
  rfl
theorem tidyL_all {l : List Sl} : ∀ s ∈ tidyL l, idleS s = false := fun s hs => by
  have := (List.mem_filter.1 hs).2
  simpa using this
theorem TidyOk.tidy (p : Py) : TidyOk (tidyP p) := tidyL_all
/-- Where something is wanted, or no more, nothing comes to be idle. -/
theorem want_busy {s : Sl} {b : Int} {n : Bool} (hs : S5 s.a.state) (h : 0 ≤ b ∨ idleS s = false) : idleS (wantS b n s) = false := by
  obtain ⟨t, v, r, ⟨st, bo⟩⟩ := s
  unfold idleS at *
  show (idleR r && decide ((wantA ⟨st, bo⟩ b n).state = 0)) = false
  cases hr : idleR r with
  | false => rfl
  | true =>
    have h' : 0 ≤ b ∨ ¬ st = 0 := h.imp id (fun h => by
      simp only [hr, Bool.true_and, decide_eq_false_iff_not] at h
      exact h)
    rw [Bool.true_and, decide_eq_false_iff_not]
    unfold wantA
    unfold S5 at hs
    simp only at hs
    by_cases hb : b < 0
    · rw [if_pos hb]
      rcases hs with rfl | rfl | rfl | rfl | rfl
      · rcases h' with h' | h' <;> omega
      · exact (show ¬ (cellA 1 1).1 = 0 by decide)
      · exact (show ¬ (cellA 2 1).1 = 0 by decide)
      · exact (show ¬ (cellA 3 1).1 = 0 by decide)
      · exact (show ¬ (cellA 4 1).1 = 0 by decide)
    · rw [if_neg hb]
      rcases hs with rfl | rfl | rfl | rfl | rfl <;> cases n
      · exact (show ¬ (cellA 0 0).1 = 0 by decide)
      · exact (show ¬ (cellA 0 5).1 = 0 by decide)
      · exact (show ¬ (1 : Int) = 0 by decide)
      · exact (show ¬ (1 : Int) = 0 by decide)
      · exact (show ¬ (2 : Int) = 0 by decide)
      · exact (show ¬ (2 : Int) = 0 by decide)
      · exact (show ¬ (3 : Int) = 0 by decide)
      · exact (show ¬ (3 : Int) = 0 by decide)
      · exact (show ¬ (cellA 4 0).1 = 0 by decide)
      · exact (show ¬ (cellA 4 5).1 = 0 by decide)
theorem want_tidy {p : Py} {T : Int} (hok : PyOk T p) {t v b : Int} {n : Bool} (h : ∀ s ∈ p.l, keyB t v s = false ∨ b < 0 → idleS s = false) : tidyL (updK p.l t v (wantS b n)) = updK p.l t v (wantS b n) := by
  refine tidyL_self fun s hs => ?_
  unfold updK at hs
  obtain ⟨s0, hs0, rfl⟩ := List.mem_map.1 hs
  have hst := (hok.all s0 hs0).st
  by_cases hk : keyB t v s0 = true
  · rw [if_pos hk]
    by_cases hb : b < 0
    · exact want_busy hst (.inr (h s0 hs0 (.inr hb)))
    · exact want_busy hst (.inl (by omega))
  · rw [if_neg hk]
    exact h s0 hs0 (.inl (by simpa using hk))
/-- Wanted, as the program does it: nothing is swept. -/
def wantQ (p : Py) (t v b : Int) (n : Bool) : Py := if b < 0 then withL p (updK p.l t v (wantS b n)) else match roomP p t v with
  | some q => withL q (updK q.l t v (wantS b n))
  | none => failP p
theorem upd_none {l : List Sl} {t v : Int} (h : hasK l t v = false) (f : Sl → Sl) : updK l t v f = l := by
  unfold updK
  conv => rhs; rw [← List.map_id l]
  refine List.map_congr_left fun s hs => ?_
  rw [if_neg]
  · rfl
  · intro c
    unfold hasK at h
    have := List.any_eq_true.2 ⟨s, hs, c⟩
    rw [this] at h
    cases h
theorem withL_self (p : Py) : withL p p.l = p := rfl
theorem want_is {p : Py} {T : Int} (hok : PyOk T p) (hT : 0 ≤ T) (htd : TidyOk p) {t v : Int} (ha : attrP t v) (b : Int) (n : Bool) : wantQ p t v b n = wantP p t v b n := by
  unfold wantQ wantP
  by_cases hb : b < 0
  · rw [if_pos hb]
    cases hh : hasK p.l t v with
    | false => rw [if_pos ⟨rfl, hb⟩, upd_none hh]; rfl
    | true =>
      rw [if_neg (fun c => by cases c.1)]
      have hr : roomP p t v = some p := by unfold roomP; rw [if_pos hh]
      rw [hr]
      show withL p _ = ⟨tidyL (updK p.l t v (wantS b n)), _, _, _, _⟩
      rw [want_tidy hok (fun s hs _ => htd s hs)]
      rfl
  · rw [if_neg hb, if_neg (fun c => hb c.2)]
    cases hr : roomP p t v with
    | none => rfl
    | some q =>
      show withL q _ = ⟨tidyL (updK q.l t v (wantS b n)), _, _, _, _⟩
      rw [want_tidy (hok.room hT ha hr) (fun s hs h => ?_)]
      · rfl
      · have hk : keyB t v s = false := h.resolve_right hb
        unfold roomP at hr
        split at hr
        · injection hr with hr
          subst hr
          exact htd s hs
        · split at hr
          · cases hr
          · injection hr with hr
            subst hr
            rcases mem_ins.1 hs with rfl | hs
            · rw [show keyB t v (newS t v) = true from keyB_iff.2 ⟨rfl, rfl⟩] at hk
              cases hk
            · exact htd s hs
theorem TidyOk.want {p : Py} (htd : TidyOk p) (t v b : Int) (n : Bool) : TidyOk (wantP p t v b n) := by
  unfold wantP
  split
  · exact htd
  · split
    · exact TidyOk.tidy _
    · exact htd
theorem TidyOk.mode {p : Py} (htd : TidyOk p) (t v m : Int) : TidyOk (modeP p t v m) := by
  unfold modeP
  split
  · exact TidyOk.tidy _
  · exact htd
section
variable {w : World} {B g : Nat} {p : Py} {jl : List Int} {F : Nat → Prop} {y : Lay}
def modeQ (p : Py) (t v m : Int) : Py := if attrB t v = true ∧ goodMd m = true then modeP p t v m else p
set_option maxHeartbeats 16000000 in
theorem mode_any (h : PyAt w B g p jl F y) {T : Int} (hok : PyOk T p) (hT : 0 ≤ T) (hB : B ≤ w.heap.size) (t v m : Int) :
    Calls Try.prog 9 #[.pointer (some ⟨g, 0, none⟩), .agg #[.int .i64 t, .int .i64 v], .int .i64 m] w fun e w' => (∃ z, e = .returned (.int .i64 z)) ∧ PyF w' B g (modeQ p t v m) jl (grow F w w') ∧ Touch F w w' := by
  have hb := bel_alloc w (.cells #[.int .i64 t, .int .i64 v] 29)
  have hbx := Blk.new w 29 #[.int .i64 t, .int .i64 v]
  have HAT := Lib.hid (attr_any t v (w.alloc (.cells #[.int .i64 t, .int .i64 v] 29)))
  have HS := Lib.hid (And.intro h (And.intro hb (And.intro hbx (And.intro hok (And.intro hT hB)))))
  clear h hb hbx hok hT hB
  unfold modeQ
  cases hat : attrB t v with
  | false =>
    rw [hat] at HAT
    rw [if_neg (fun c => by cases c.1)]
    clear hat
    go_enter Try.func9, Try.ntmps9
    go_wp2_with fail
    refine HAT.out.mono ?_
    rintro e w1 ⟨rfl, b1⟩
    have HB := Lib.hid (HS.out.2.1.trans (b1.mono HS.out.2.1.size))
    clear b1
    go_wp2_with fail
    go_ret
    exact ⟨⟨_, rfl⟩, ⟨y, (HS.out.1.below HB.out).grown HS.out.1.lt HS.out.2.2.2.2.2 HB.out.size⟩, below_touch HB.out F⟩
  | true =>
    rw [hat] at HAT
    have HATP := Lib.hid (show attrP t v from of_decide_eq_true hat)
    clear hat
    have HGM := Lib.hid (fun w => goodMode_any m w)
    cases hgm : goodMd m with
    | false =>
      rw [hgm] at HGM
      rw [if_neg (fun c => by cases c.2)]
      clear hgm
      go_enter Try.func9, Try.ntmps9
      go_wp2_with fail
      refine HAT.out.mono ?_
      rintro e w1 ⟨rfl, b1⟩
      go_wp2_with fail
      refine (HGM.out w1).mono ?_
      rintro e w2 ⟨rfl, b2⟩
      have HB := Lib.hid (HS.out.2.1.trans ((b1.trans (b2.mono b1.size)).mono HS.out.2.1.size))
      clear b1 b2
      go_wp2_with fail
      go_ret
      exact ⟨⟨_, rfl⟩, ⟨y, (HS.out.1.below HB.out).grown HS.out.1.lt HS.out.2.2.2.2.2 HB.out.size⟩, below_touch HB.out F⟩
    | true =>
      rw [hgm] at HGM
      rw [if_pos ⟨rfl, rfl⟩]
      have HMD := Lib.hid hgm
      clear hgm
      go_enter Try.func9, Try.ntmps9
      go_wp2_with fail
      refine HAT.out.mono ?_
      rintro e w1 ⟨rfl, b1⟩
      go_wp2_with fail
      refine (HGM.out w1).mono ?_
      rintro e w2 ⟨rfl, b2⟩
      have b12 := b1.trans (b2.mono b1.size)
      have hb2 := HS.out.2.1.trans (b12.mono HS.out.2.1.size)
      have hbx2 := HS.out.2.2.1.below b12 HS.out.2.2.1.lt
      have c0 : w2.cell? ⟨w.heap.size, 0, none⟩ = some (.int .i64 t) := hbx2.cell 0
      have c1 : w2.cell? ⟨w.heap.size, 1, none⟩ = some (.int .i64 v) := hbx2.cell 1
      have h2 := HS.out.1.below hb2
      have HCOME := Lib.hid (come_any h2 HS.out.2.2.2.1 (Nat.le_trans HS.out.2.2.2.2.2 hb2.size) t v)
      have HB2 := Lib.hid (And.intro hb2 h2)
      clear b1 b2 b12 hb2 hbx2 h2
      go_wp2_with fail
      refine HCOME.out.mono ?_
      rintro e w7 ⟨ht7, hc | hc⟩
      · obtain ⟨p1, y1, k1, hroom, hat, hk1, hkey, rfl⟩ := hc
        have hm := getD_mem' hk1
        have hea := hat.slots.each _ hm
        have hok1 := HS.out.2.2.2.1.room HS.out.2.2.2.2.1 HATP.out hroom
        have hupd := fun (W W' : World) (h8 : PyAt W B g p1 jl (grow F w2 w7) y1) (P : Nat → Prop) (a1 a2 a3 a4) => h8.upd hok1.ord hk1 hkey (key_mode m) (W' := W') (P := P) a1 a2 a3 a4
        obtain ⟨x, hxx⟩ : ∃ x, y1.q.getD k1 qs0 = x := ⟨_, rfl⟩
        rw [hxx] at hea hupd ⊢
        have hb8 := bel_alloc w7 (.cells #[.int .i64 x.s.t, .int .i64 x.s.v, .pointer (some ⟨x.r, 0, none⟩), .pointer (some ⟨x.a, 0, none⟩)] 67)
        have h8 := hat.below hb8
        have hr8 := hea.1.below hb8 hea.1.lt
        have ha8 := hea.2.below hb8 hea.2.lt
        have HR := Lib.hid (rset_ok hr8 m HMD.out)
        have HE := Lib.hid (And.intro h8 (And.intro hr8 (And.intro ha8 (And.intro ht7 (And.intro hroom (And.intro hupd (And.intro hok1 hb8.size)))))))
        unfold Qs.val
        clear hat hk1 hkey hm hea hok1 hupd hxx hb8 h8 hr8 ha8 hroom ht7 c0 c1
        go_wp2_with fail
        refine HR.out.mono ?_
        rintro e w9 ⟨rfl, hr9, tr9⟩
        have hu := HE.out.2.2.2.2.2.1 _ w9 HE.out.1 (fun j => j = x.r) tr9 (fun _ e => .inl e) hr9 (HE.out.2.2.1.touch tr9 (fun e => blk_ne HE.out.2.2.1 HE.out.2.1 (by decide) e))
        obtain ⟨⟨y9, h9⟩, tu⟩ := hu
        have HSW := Lib.hid (sweep_any h9 (by show (updK p1.l t v (modeS m)).length ≤ 16; unfold updK; rw [List.length_map]; exact HE.out.2.2.2.2.2.2.1.len))
        have HTU := Lib.hid (And.intro tu tr9.size)
        clear h9 tu hr9 tr9
        go_wp2_with fail
        refine HSW.out.mono ?_
        rintro e w10 ⟨rfl, h10, t10⟩
        have hs9 := HTU.out.2
        have hs10 := t10.size
        have hs7 := HE.out.2.2.2.1.size
        have hs8 := HE.out.2.2.2.2.2.2.2
        have hs2 := HB2.out.1.size
        have HFI := Lib.hid (show PyF w10 B g (modeP p t v m) jl (grow F w w10) ∧ Touch F w w10 from by
          refine ⟨?_, ?_⟩
          · rw [show modeP p t v m = tidyP (withL p1 (updK p1.l t v (modeS m))) by unfold modeP; rw [HE.out.2.2.2.2.1]]
            refine h10.wide (fun j hj => ?_) (grow_lt HS.out.1.lt HS.out.2.2.2.2.2 (by omega))
            rcases hj with hj | hj
            · exact .inl hj
            · exact .inr (by omega)
          · have t1 : Touch F w w7 := (below_touch HB2.out.1 F).trans HE.out.2.2.2.1
            have t2 : Touch (grow F w2 w7) w7 w10 := (below_touch (bel_alloc w7 _) _).trans (HTU.out.1.trans t10)
            refine ⟨t2.os.trans t1.os, t2.tape.trans t1.tape, t2.output.trans t1.output, by omega, fun j hj hp => (t2.block j (by omega) (fun c => ?_)).trans (t1.block j hj hp)⟩
            rcases c with c | c
            · exact hp c
            · omega)
        clear h10 t10 hs9 hs10 hs7 hs8 hs2
        go_wp2_with fail
        go_ret
        exact ⟨⟨_, rfl⟩, HFI.out⟩
      · obtain ⟨hroom, rfl, y2, hat⟩ := hc
        have hs7 := ht7.size
        have hs2 := HB2.out.1.size
        have hb8 := bel_alloc w7 (.cells #[.int .i64 0, .int .i64 0, .pointer none, .pointer none] 67)
        have hs8 := hb8.size
        have HFI := Lib.hid (show PyF (w7.alloc (.cells #[.int .i64 0, .int .i64 0, .pointer none, .pointer none] 67)) B g (modeP p t v m) jl (grow F w (w7.alloc (.cells #[.int .i64 0, .int .i64 0, .pointer none, .pointer none] 67))) ∧ Touch F w (w7.alloc (.cells #[.int .i64 0, .int .i64 0, .pointer none, .pointer none] 67)) from by
          refine ⟨?_, ((below_touch HB2.out.1 F).trans ht7).trans (below_touch hb8 F)⟩
          rw [show modeP p t v m = failP p by unfold modeP; rw [hroom]]
          exact ⟨y2, (hat.below hb8).wide (fun j hj => .inl hj) (grow_lt HS.out.1.lt HS.out.2.2.2.2.2 (by omega))⟩)
        have HRM := Lib.hid hroom
        unfold kz
        clear hroom hat hs7 hs2 ht7 c0 c1 hb8 hs8
        go_wp2_with fail
        go_ret
        exact ⟨⟨_, rfl⟩, HFI.out⟩
/-- What Want answers. -/
def wantE (p : Py) (t v b : Int) : Int := if attrB t v = true ∧ b ≤ 1048576 then (if b < 0 then 0 else match roomP p t v with | some _ => 0 | none => 6) else 1
def wantW (p : Py) (t v b : Int) (n : Bool) : Py := if attrB t v = true ∧ b ≤ 1048576 then wantQ p t v b n else p
set_option maxHeartbeats 16000000 in
theorem want_any (h : PyAt w B g p jl F y) {T : Int} (hok : PyOk T p) (hT : 0 ≤ T) (hB : B ≤ w.heap.size) (t v b : Int) (nw : Bool) :
    Calls Try.prog 10 #[.pointer (some ⟨g, 0, none⟩), .agg #[.int .i64 t, .int .i64 v], .int .i64 b, .bool nw] w fun e w' => e = .returned (.int .i64 (wantE p t v b)) ∧ PyF w' B g (wantW p t v b nw) jl (grow F w w') ∧ Touch F w w' := by
  have hb := bel_alloc w (.cells #[.int .i64 t, .int .i64 v] 29)
  have hbx := Blk.new w 29 #[.int .i64 t, .int .i64 v]
  have HAT := Lib.hid (attr_any t v (w.alloc (.cells #[.int .i64 t, .int .i64 v] 29)))
  have HS := Lib.hid (And.intro h (And.intro hb (And.intro hbx (And.intro hok (And.intro hT hB)))))
  clear h hb hbx hok hT hB
  obtain ⟨we, hwe⟩ : ∃ we, wantE p t v b = we := ⟨_, rfl⟩
  obtain ⟨wp, hwp⟩ : ∃ wp, wantW p t v b nw = wp := ⟨_, rfl⟩
  rw [hwe, hwp]
  unfold wantE at hwe
  unfold wantW at hwp
  cases hat : attrB t v with
  | false =>
    rw [hat] at HAT
    rw [hat, if_neg (fun c => by cases c.1)] at hwe hwp
    subst hwe hwp
    clear hat
    go_enter Try.func10, Try.ntmps10
    go_wp2_with fail
    refine HAT.out.mono ?_
    rintro e w1 ⟨rfl, b1⟩
    have HB := Lib.hid (HS.out.2.1.trans (b1.mono HS.out.2.1.size))
    clear b1
    go_wp2_with fail
    go_ret
    exact ⟨rfl, ⟨y, (HS.out.1.below HB.out).grown HS.out.1.lt HS.out.2.2.2.2.2 HB.out.size⟩, below_touch HB.out F⟩
  | true =>
    rw [hat] at HAT
    have HATP := Lib.hid (show attrP t v from of_decide_eq_true hat)
    by_cases hbm : b ≤ 1048576
    · rw [if_pos ⟨hat, hbm⟩] at hwe hwp
      clear hat
      by_cases hb0 : b < 0
      · rw [if_pos hb0] at hwe
        subst hwe
        have HQ := Lib.hid (show wp = withL p (updK p.l t v (wantS b nw)) by rw [← hwp]; unfold wantQ; rw [if_pos hb0])
        clear hwp
        go_enter Try.func10, Try.ntmps10
        go_wp2_with fail
        refine HAT.out.mono ?_
        rintro e w1 ⟨rfl, b1⟩
        have hb1 := HS.out.2.1.trans (b1.mono HS.out.2.1.size)
        have hbx1 := HS.out.2.2.1.below b1 HS.out.2.2.1.lt
        have c0 : w1.cell? ⟨w.heap.size, 0, none⟩ = some (.int .i64 t) := hbx1.cell 0
        have c1 : w1.cell? ⟨w.heap.size, 1, none⟩ = some (.int .i64 v) := hbx1.cell 1
        have h1 := HS.out.1.below hb1
        have HOF := Lib.hid (of_any h1 HS.out.2.2.2.1.len t v)
        have HB1 := Lib.hid (And.intro hb1 h1)
        clear b1 hb1 hbx1 h1
        go_wp2_with fail
        refine HOF.out.mono ?_
        rintro e w2 ⟨k, hk, rfl, b2⟩
        have h2 := HB1.out.2.below b2
        have hb2 := HB1.out.1.trans (b2.mono HB1.out.1.size)
        have ho := HS.out.2.2.2.1.ord
        rw [← h2.ls] at ho
        have hhas := here_has hk ho
        rw [h2.ls] at hhas
        cases hh : hereQ y.q t v k with
        | true =>
          rw [show keptV y.q t v k = (y.q.getD k qs0).val by unfold keptV; rw [hh]; rfl]
          obtain ⟨hkl, hkey⟩ := here_iff.1 hh
          have hm := getD_mem' hkl
          have hsl := HS.out.2.2.2.1.all _ (show (y.q.getD k qs0).s ∈ p.l by rw [← h2.ls]; exact List.mem_map_of_mem hm)
          have hea := h2.slots.each _ hm
          have hupd := fun (W' : World) (P : Nat → Prop) (a1 a2 a3 a4) => h2.upd HS.out.2.2.2.1.ord hkl hkey (key_want b nw) (W' := W') (P := P) a1 a2 a3 a4
          obtain ⟨x, hxx⟩ : ∃ x, y.q.getD k qs0 = x := ⟨_, rfl⟩
          rw [hxx] at hea hsl hupd ⊢
          have HR := Lib.hid (awant_any hea.2 hsl.st b nw)
          have HE := Lib.hid (And.intro hea (And.intro hb2 hupd))
          unfold Qs.val
          clear h2 hb2 ho hhas hh hkl hkey hm hsl hea hupd hxx b2 hk c0 c1
          have fr := field_reg
          have fa := field_app
          go_wp2_with fail
          refine HR.out.mono ?_
          rintro e w9 ⟨rfl, ha9, ta9⟩
          have hu := HE.out.2.2 w9 (fun j => j = x.a) ta9 (fun _ e => .inr e) (HE.out.1.1.touch ta9 (fun e => blk_ne HE.out.1.1 HE.out.1.2 (by decide) e)) ha9
          have HFI := Lib.hid (show PyF w9 B g wp jl (grow F w w9) ∧ Touch F w w9 from by
            have hs9 := ta9.size
            have hs2 := HE.out.2.1.size
            refine ⟨?_, (below_touch HE.out.2.1 F).trans hu.2⟩
            rw [HQ.out]
            exact hu.1.wide (fun j hj => .inl hj) (grow_lt HS.out.1.lt HS.out.2.2.2.2.2 (by omega)))
          clear hu ha9 ta9
          go_wp2_with fail
          go_ret
          exact ⟨rfl, HFI.out⟩
        | false =>
          rw [show keptV y.q t v k = kz by unfold keptV; rw [hh]; rfl]
          rw [hh] at hhas
          have HR := Lib.hid (awant_nil b nw w2)
          have HFI := Lib.hid (show PyF w2 B g wp jl (grow F w w2) ∧ Touch F w w2 from by
            refine ⟨?_, below_touch hb2 F⟩
            rw [HQ.out, upd_none hhas.symm, withL_self]
            exact ⟨y, h2.grown HS.out.1.lt HS.out.2.2.2.2.2 hb2.size⟩)
          unfold kz
          clear h2 hb2 ho hhas hh b2 hk c0 c1
          have fr := field_reg
          have fa := field_app
          go_wp2_with fail
          refine HR.out.mono ?_
          rintro e w9 ⟨rfl, rfl⟩
          go_wp2_with fail
          go_ret
          exact ⟨rfl, HFI.out⟩
      · rw [if_neg hb0] at hwe
        have HQ := Lib.hid (show wp = match roomP p t v with | some q => withL q (updK q.l t v (wantS b nw)) | none => failP p by rw [← hwp]; unfold wantQ; rw [if_neg hb0])
        have HWE := Lib.hid hwe
        clear hwe hwp
        go_enter Try.func10, Try.ntmps10
        go_wp2_with fail
        refine HAT.out.mono ?_
        rintro e w2 ⟨rfl, b1⟩
        have hb2 := HS.out.2.1.trans (b1.mono HS.out.2.1.size)
        have hbx2 := HS.out.2.2.1.below b1 HS.out.2.2.1.lt
        have c0 : w2.cell? ⟨w.heap.size, 0, none⟩ = some (.int .i64 t) := hbx2.cell 0
        have c1 : w2.cell? ⟨w.heap.size, 1, none⟩ = some (.int .i64 v) := hbx2.cell 1
        have h2 := HS.out.1.below hb2
        have HCOME := Lib.hid (come_any h2 HS.out.2.2.2.1 (Nat.le_trans HS.out.2.2.2.2.2 hb2.size) t v)
        have HB2 := Lib.hid (And.intro hb2 h2)
        clear b1 hb2 hbx2 h2
        go_wp2_with fail
        refine HCOME.out.mono ?_
        rintro e w7 ⟨ht7, hc | hc⟩
        · obtain ⟨p1, y1, k1, hroom, hat, hk1, hkey, rfl⟩ := hc
          have hm := getD_mem' hk1
          have hea := hat.slots.each _ hm
          have hok1 := HS.out.2.2.2.1.room HS.out.2.2.2.2.1 HATP.out hroom
          have hupd := fun (W W' : World) (h8 : PyAt W B g p1 jl (grow F w2 w7) y1) (P : Nat → Prop) (a1 a2 a3 a4) => h8.upd hok1.ord hk1 hkey (key_want b nw) (W' := W') (P := P) a1 a2 a3 a4
          have hsl := hok1.all _ (show (y1.q.getD k1 qs0).s ∈ p1.l by rw [← hat.ls]; exact List.mem_map_of_mem hm)
          obtain ⟨x, hxx⟩ : ∃ x, y1.q.getD k1 qs0 = x := ⟨_, rfl⟩
          rw [hxx] at hea hupd hsl ⊢
          have hb8 := bel_alloc w7 (.cells #[.int .i64 x.s.t, .int .i64 x.s.v, .pointer (some ⟨x.r, 0, none⟩), .pointer (some ⟨x.a, 0, none⟩)] 67)
          have h8 := hat.below hb8
          have hr8 := hea.1.below hb8 hea.1.lt
          have ha8 := hea.2.below hb8 hea.2.lt
          have HR := Lib.hid (awant_any ha8 hsl.st b nw)
          have HE := Lib.hid (And.intro h8 (And.intro hr8 (And.intro ha8 (And.intro ht7 (And.intro hroom (And.intro hupd (And.intro hok1 hb8.size)))))))
          unfold Qs.val
          clear hat hk1 hkey hm hea hok1 hupd hxx hb8 h8 hr8 ha8 hroom ht7 c0 c1 hsl
          go_wp2_with fail
          refine HR.out.mono ?_
          rintro e w9 ⟨rfl, ha9, ta9⟩
          have hu := HE.out.2.2.2.2.2.1 _ w9 HE.out.1 (fun j => j = x.a) ta9 (fun _ e => .inr e) (HE.out.2.1.touch ta9 (fun e => blk_ne HE.out.2.1 HE.out.2.2.1 (by decide) e)) ha9
          have HFI := Lib.hid (show (0 : Int) = we ∧ PyF w9 B g wp jl (grow F w w9) ∧ Touch F w w9 from by
            have hs9 := ta9.size
            have hs7 := HE.out.2.2.2.1.size
            have hs8 := HE.out.2.2.2.2.2.2.2
            have hs2 := HB2.out.1.size
            refine ⟨by rw [← HWE.out, HE.out.2.2.2.2.1], ?_, ?_⟩
            · rw [show wp = withL p1 (updK p1.l t v (wantS b nw)) by rw [HQ.out, HE.out.2.2.2.2.1]]
              refine hu.1.wide (fun j hj => ?_) (grow_lt HS.out.1.lt HS.out.2.2.2.2.2 (by omega))
              rcases hj with hj | hj
              · exact .inl hj
              · exact .inr (by omega)
            · have t1 : Touch F w w7 := (below_touch HB2.out.1 F).trans HE.out.2.2.2.1
              have t2 : Touch (grow F w2 w7) w7 w9 := (below_touch (bel_alloc w7 _) _).trans hu.2
              refine ⟨t2.os.trans t1.os, t2.tape.trans t1.tape, t2.output.trans t1.output, by omega, fun j hj hp => (t2.block j (by omega) (fun c => ?_)).trans (t1.block j hj hp)⟩
              rcases c with c | c
              · exact hp c
              · omega)
          clear hu ha9 ta9
          go_wp2_with fail
          go_ret
          exact ⟨ret_i64 HFI.out.1, HFI.out.2⟩
        · obtain ⟨hroom, rfl, y2, hat⟩ := hc
          have hs7 := ht7.size
          have hs2 := HB2.out.1.size
          have hb8 := bel_alloc w7 (.cells #[.int .i64 0, .int .i64 0, .pointer none, .pointer none] 67)
          have hs8 := hb8.size
          have HFI := Lib.hid (show PyF (w7.alloc (.cells #[.int .i64 0, .int .i64 0, .pointer none, .pointer none] 67)) B g (wp) jl (grow F w (w7.alloc (.cells #[.int .i64 0, .int .i64 0, .pointer none, .pointer none] 67))) ∧ Touch F w (w7.alloc (.cells #[.int .i64 0, .int .i64 0, .pointer none, .pointer none] 67)) from by
            refine ⟨?_, ((below_touch HB2.out.1 F).trans ht7).trans (below_touch hb8 F)⟩
            rw [show wp = failP p by rw [HQ.out, hroom]]
            exact ⟨y2, (hat.below hb8).wide (fun j hj => .inl hj) (grow_lt HS.out.1.lt HS.out.2.2.2.2.2 (by omega))⟩)
          have HRM := Lib.hid hroom
          unfold kz
          clear hroom hat hs7 hs2 ht7 c0 c1 hb8 hs8
          go_wp2_with fail
          go_ret
          exact ⟨ret_i64 (by rw [← HWE.out, HRM.out]), HFI.out⟩
    · rw [if_neg (fun c => hbm c.2)] at hwe hwp
      subst hwe hwp
      clear hat
      have hb1 : 1048576 < b := by omega
      clear hbm
      go_enter Try.func10, Try.ntmps10
      go_wp2_with fail
      refine HAT.out.mono ?_
      rintro e w1 ⟨rfl, b1⟩
      have HB := Lib.hid (HS.out.2.1.trans (b1.mono HS.out.2.1.size))
      clear b1
      go_wp2_with fail
      go_ret
      exact ⟨rfl, ⟨y, (HS.out.1.below HB.out).grown HS.out.1.lt HS.out.2.2.2.2.2 HB.out.size⟩, below_touch HB.out F⟩
end
end
end Go.Proofs.Ythghedlgeceepaa
