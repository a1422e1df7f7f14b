/- A place is put into the program's table: put, Learn, Fix (layer 18). Its condition: at most 2^20 places, in order. -/
import Derived.Test.YtnhnllkcnpbgoaaFgDo
namespace Go.Proofs.Ytnhnllkcnpbgoaa
open Go.RowKit
set_option maxRecDepth 100000

def putG (s : Dt) (x : Pl) : Dt × Int := if fineP x.v x.m x.p then (match ixP x.v x.m s.l with
    | some i => if (s.l.getD i pl0).st = true ∧ x.st = false then (s, 0) else (⟨s.l.set i x, s.f⟩, 0)
    | none => if (roomS s).2 = true then (⟨insP x (roomS s).1.l, (roomS s).1.f⟩, 0) else (⟨(roomS s).1.l, wrap64 ((roomS s).1.f + 1)⟩, 6)) else (s, 1)
theorem put_snew (s : Dt) (x : Pl) (h : ixP x.v x.m s.l = none) : (if (roomS s).2 = true then ((⟨insP x (roomS s).1.l, (roomS s).1.f⟩ : Dt), (0 : Int)) else (⟨(roomS s).1.l, wrap64 ((roomS s).1.f + 1)⟩, 6)) = putS s x := by
  unfold roomS putS
  rw [h]
  simp only
  by_cases h1 : 24 ≤ s.l.length
  · rw [if_pos h1, if_pos h1]
    by_cases h2 : oldTo s.l s.l.length < 0
    · rw [if_pos h2, if_pos h2]; rfl
    · rw [if_neg h2, if_neg h2]; rfl
  · rw [if_neg h1, if_neg h1]; rfl
theorem put_sold (s : Dt) (x : Pl) (i : Nat) (h : ixP x.v x.m s.l = some i) : (⟨s.l.set i x, s.f⟩, 0) = putS s x := by
  unfold putS
  rw [h]
theorem learn_put (s : Dt) (v m p now : Int) : learnS s v m p now = putG s ⟨v, m, p, now, false⟩ := by
  unfold learnS putG
  by_cases h : fineP v m p
  · rw [if_pos h, if_pos h]
    cases hx : ixP v m s.l with
    | some i =>
      simp only
      by_cases h2 : (s.l.getD i pl0).st = true
      · rw [if_pos h2, if_pos ⟨h2, trivial⟩]
      · rw [if_neg h2, if_neg (fun c => h2 c.1)]
        exact (put_sold s _ i hx).symm
    | none => exact (put_snew s ⟨v, m, p, now, false⟩ hx).symm
  · rw [if_neg h, if_neg h]
theorem fix_put (s : Dt) (v m p : Int) : fixS s v m p = putG s ⟨v, m, p, 0, true⟩ := by
  unfold fixS putG
  by_cases h : fineP v m p
  · rw [if_pos h, if_pos h]
    cases hx : ixP v m s.l with
    | some i =>
      simp only
      rw [if_neg (fun c => Bool.noConfusion c.2)]
      exact (put_sold s ⟨v, m, p, 0, true⟩ i hx).symm
    | none => exact (put_snew s ⟨v, m, p, 0, true⟩ hx).symm
  · rw [if_neg h, if_neg h]
theorem room_srt {s : Dt} (hs : Srt s.l) : Srt (roomS s).1.l ∧ (roomS s).1.l.length ≤ s.l.length := by
  unfold roomS
  repeat' split
  all_goals first | exact ⟨hs, Nat.le_refl _⟩ | (refine ⟨rm_srt hs _, ?_⟩; unfold rmP; rw [List.length_append, List.length_take, List.length_drop]; omega)
theorem Pt.after {w w2 w3 W : World} {B g c c' : Nat} {F : Nat → Prop} {s s' : Dt} {A A' : Option Addr} (h : PtAt w B F g s A c) (b : Below w.heap.size w w2) (t3 : Touch F w2 w3) (tW : Touch (grow F w2 w3) w3 W) (hp : PtAt W B (grow (grow F w2 w3) w3 W) g s' A' c') : Touch F w W ∧ Pt W B (grow F w W) g s' :=
  ⟨below_next b (touch_next t3 tW), _, _, hp.wide (fun k hk => grow_wide b.size k (grow_grow t3.size tW.size hk)) (grow_lo h.base h.lo (Nat.le_trans b.size (Nat.le_trans t3.size tW.size)))⟩
theorem PtAt.turn {w w2 : World} {B g c gA : Nat} {F : Nat → Prop} {s : Dt} (h : PtAt w B F g s (some ⟨gA, 0, none⟩) c) (b : Below w.heap.size w w2) (k : Nat) (x : Pl) (hk : k < s.l.length) : Touch F w (putF w2.drew gA k x) ∧ Pt (putF w2.drew gA k x) B (grow F w (putF w2.drew gA k x)) g ⟨s.l.set k x, s.f⟩ := by
  have h2 := h.below b
  have hr : RowF w2.drew B gA c s.l := ⟨own_heap h2.row fun _ _ => rfl⟩
  have hF := h.fr gA rfl
  have t1 : Touch (· = gA) w2.drew (putF w2.drew gA k x) := putF_touch (Touch.refl _ _)
  have t2 : Touch F w (putF w2.drew gA k x) := (below_touch b F).drew.trans (t1.mono fun q _ e => by rw [e]; exact hF)
  refine ⟨t2, _, c, ?_, (hr.set_ k x hk).own, .inl h.fg, fun q hq => .inl (h.fr q hq), grow_lo h.base h.lo t2.size⟩
  rw [List.length_set]
  exact (h2.blk.drew).touch t1 (fun e => h.ne (by rw [e]; rfl))
theorem PtAt.fail {w w2 w3 : World} {B g c c3 : Nat} {F : Nat → Prop} {s s' : Dt} {A A3 : Option Addr} (h : PtAt w B F g s A c) (b : Below w.heap.size w w2) (t3 : Touch F w2 w3) (h3 : PtAt w3 B (grow F w2 w3) g s' A3 c3) (u : Int) :
    Touch F w (w3.setCell ⟨g, 1, none⟩ (.int .i64 u)) ∧ Pt (w3.setCell ⟨g, 1, none⟩ (.int .i64 u)) B (grow F w (w3.setCell ⟨g, 1, none⟩ (.int .i64 u))) g ⟨s'.l, u⟩ := by
  have hsz : (w3.setCell ⟨g, 1, none⟩ (.int .i64 u)).heap.size = w3.heap.size := by simp [World.setCell]
  refine ⟨(below_next b t3).set_ (fun _ => h.fg) _, A3, c3, h3.blk.set_ 1 _, own_heap h3.row fun k hk => Below.heap_setCell _ _ _ k (fun e => ?_), .inl h.fg, fun k hk => grow_wide b.size k (show grow F w2 _ k from ?_), grow_lo h.base h.lo (by rw [hsz]; exact Nat.le_trans b.size t3.size)⟩
  · subst e
    exact own_ne h3.row h3.blk (by decide) hk
  · exact (h3.fr k hk).imp id (fun q => ⟨q.1, by rw [hsz]; exact q.2⟩)
set_option maxHeartbeats 8000000 in
theorem put_any {w : World} {B g : Nat} {F : Nat → Prop} {s : Dt} (x : Pl) (hp : Pt w B F g s) (hs : Srt s.l) (hn : s.l.length ≤ 1000000) :
    Calls Try.prog 27 #[.pointer (some ⟨g, 0, none⟩), .agg #[.int .i64 x.v, .int .i64 x.m, .int .i64 x.p, .int .i64 x.s, .bool x.st]] w fun e w' => e = .returned (.int .i64 (putG s x).2) ∧ Touch F w w' ∧ Pt w' B (grow F w w') g (putG s x).1 := by
  obtain ⟨A, c, h⟩ := hp
  obtain ⟨r, hr⟩ : ∃ r, putG s x = r := ⟨_, rfl⟩
  have HR := Lib.hid hr
  rw [hr]
  have HG := Lib.hid (fun W => pgood_any x W)
  obtain ⟨x0, x1, x2, x3, x4⟩ := x
  show Calls _ _ #[_, .agg #[.int .i64 x0, .int .i64 x1, .int .i64 x2, .int .i64 x3, .bool x4]] w _
  have HG : Hid (∀ W, Calls Try.prog 32 #[.agg #[.int .i64 x0, .int .i64 x1, .int .i64 x2, .int .i64 x3, .bool x4]] W fun e w' => e = .returned (.bool (decide (fineP x0 x1 x2))) ∧ Below W.heap.size W w') := HG
  have H := Lib.hid h
  have HS := Lib.hid hs
  have HN := Lib.hid hn
  have HB := Lib.hid (bel_alloc w (.cells #[.int .i64 x0, .int .i64 x1, .int .i64 x2, .int .i64 x3, .bool x4] 49))
  have HX := Lib.hid (Blk.new w 49 #[.int .i64 x0, .int .i64 x1, .int .i64 x2, .int .i64 x3, .bool x4])
  by_cases hfine : fineP x0 x1 x2
  · rw [decide_eq_true hfine] at HG
    have HFI := Lib.hid (fun (W : World) (h : PtAt W B F g s A c) => tfind_any h (by omega) x0 x1)
    have HP1 := Lib.hid hfine
    have z0 : (w.alloc (.cells #[.int .i64 x0, .int .i64 x1, .int .i64 x2, .int .i64 x3, .bool x4] 49)).cell? ⟨w.heap.size, 0, none⟩ = some (.int .i64 x0) := HX.out.cell 0
    have z1 : (w.alloc (.cells #[.int .i64 x0, .int .i64 x1, .int .i64 x2, .int .i64 x3, .bool x4] 49)).cell? ⟨w.heap.size, 1, none⟩ = some (.int .i64 x1) := HX.out.cell 1
    have z2 : (w.alloc (.cells #[.int .i64 x0, .int .i64 x1, .int .i64 x2, .int .i64 x3, .bool x4] 49)).cell? ⟨w.heap.size, 2, none⟩ = some (.int .i64 x2) := HX.out.cell 2
    have z3 : (w.alloc (.cells #[.int .i64 x0, .int .i64 x1, .int .i64 x2, .int .i64 x3, .bool x4] 49)).cell? ⟨w.heap.size, 3, none⟩ = some (.int .i64 x3) := HX.out.cell 3
    have z4 : (w.alloc (.cells #[.int .i64 x0, .int .i64 x1, .int .i64 x2, .int .i64 x3, .bool x4] 49)).cell? ⟨w.heap.size, 4, none⟩ = some (.bool x4) := HX.out.cell 4
    clear h hs hn hr hfine
    go_enter Try.func27, Try.ntmps27
    go_wp2_with fail
    refine (HG.out _).mono ?_
    rintro e w1 ⟨rfl, b1⟩
    clear z0 z1 z2 z3 z4
    have HB1 := Lib.hid (HB.out.trans (b1.mono HB.out.size))
    have HX1 := Lib.hid (HX.out.below b1 HX.out.lt)
    have z0 : w1.cell? ⟨w.heap.size, 0, none⟩ = some (.int .i64 x0) := HX1.out.cell 0
    have z1 : w1.cell? ⟨w.heap.size, 1, none⟩ = some (.int .i64 x1) := HX1.out.cell 1
    have z2 : w1.cell? ⟨w.heap.size, 2, none⟩ = some (.int .i64 x2) := HX1.out.cell 2
    have z3 : w1.cell? ⟨w.heap.size, 3, none⟩ = some (.int .i64 x3) := HX1.out.cell 3
    have z4 : w1.cell? ⟨w.heap.size, 4, none⟩ = some (.bool x4) := HX1.out.cell 4
    clear b1
    go_wp2_with fail
    refine (HFI.out _ (H.out.below HB1.out)).mono ?_
    rintro e w2 ⟨k, hk, rfl, b2⟩
    clear z0 z1 z2 z3 z4
    have HB2 := Lib.hid (HB1.out.trans (b2.mono HB1.out.size))
    have HX2 := Lib.hid (HX1.out.below b2 HX1.out.lt)
    have z0 : w2.cell? ⟨w.heap.size, 0, none⟩ = some (.int .i64 x0) := HX2.out.cell 0
    have z1 : w2.cell? ⟨w.heap.size, 1, none⟩ = some (.int .i64 x1) := HX2.out.cell 1
    have z2 : w2.cell? ⟨w.heap.size, 2, none⟩ = some (.int .i64 x2) := HX2.out.cell 2
    have z3 : w2.cell? ⟨w.heap.size, 3, none⟩ = some (.int .i64 x3) := HX2.out.cell 3
    have z4 : w2.cell? ⟨w.heap.size, 4, none⟩ = some (.bool x4) := HX2.out.cell 4
    rcases at_ix HS.out hk with ⟨hkl, hh, hx⟩ | ⟨hh, hx⟩
    · rw [hh]
      have h2 := H.out.below HB2.out
      obtain ⟨gA, cap, e, _, _⟩ := h2.row.form (show 0 < s.l.length by omega)
      injection e with e1 _ e3
      subst e1 e3
      have hrw : RowF w2 B gA c s.l := ⟨h2.row⟩
      have kc := hrw.cell k hkl
      obtain ⟨y, hy⟩ : ∃ y, s.l.getD k pl0 = y := ⟨_, rfl⟩
      rw [hy] at kc
      obtain ⟨y0, y1, y2, y3, y4⟩ := y
      have q0 : w2.cell? ⟨gA, k * 5, none⟩ = some (.int .i64 y0) := kc.c0
      have q1 : w2.cell? ⟨gA, k * 5 + 1, none⟩ = some (.int .i64 y1) := kc.c1
      have q2 : w2.cell? ⟨gA, k * 5 + 2, none⟩ = some (.int .i64 y2) := kc.c2
      have q3 : w2.cell? ⟨gA, k * 5 + 3, none⟩ = some (.int .i64 y3) := kc.c3
      have q4 : w2.cell? ⟨gA, k * 5 + 4, none⟩ = some (.bool y4) := kc.c4
      have f0 : w2.frozen? ⟨gA, k * 5, none⟩ = false := hrw.own.frozenAt (k * 5)
      have f1 : w2.frozen? ⟨gA, k * 5 + 1, none⟩ = false := hrw.own.frozenAt (k * 5 + 1)
      have f2 : w2.frozen? ⟨gA, k * 5 + 2, none⟩ = false := hrw.own.frozenAt (k * 5 + 2)
      have f3 : w2.frozen? ⟨gA, k * 5 + 3, none⟩ = false := hrw.own.frozenAt (k * 5 + 3)
      have f4 : w2.frozen? ⟨gA, k * 5 + 4, none⟩ = false := hrw.own.frozenAt (k * 5 + 4)
      have c0 : w2.cell? ⟨g, 0, none⟩ = some (.slice (some ⟨gA, 0, none⟩) s.l.length c) := h2.blk.cell 0
      have HT := Lib.hid (fun (k : Nat) (x : Pl) (hk : k < s.l.length) => H.out.turn HB2.out k x hk)
      have HE0 := Lib.hid (show r = if y4 = true ∧ x4 = false then (s, 0) else (⟨s.l.set k ⟨x0, x1, x2, x3, x4⟩, s.f⟩, 0) by
        rw [← HR.out]
        unfold putG
        rw [if_pos HP1.out]
        simp only
        rw [hx]
        simp only
        rw [hy])
      have HKL := Lib.hid hkl
      have HSAME := Lib.hid (show Touch F w w2 ∧ Pt w2 B (grow F w w2) g s from ⟨below_touch HB2.out F, _, _, H.out.grown HB2.out⟩)
      obtain ⟨n, hnn⟩ : ∃ n, s.l.length = n := ⟨_, rfl⟩
      have k1 : (k : Int) < n := by omega
      have k0 : (0 : Int) ≤ k := by omega
      rw [hnn] at c0
      clear h2 hrw kc hy hkl hk hx hh hnn b2
      cases y4 with
      | true =>
        cases x4 with
        | false =>
          have HE := Lib.hid (show r = (s, 0) from HE0.out.trans (if_pos ⟨rfl, rfl⟩))
          go_wp2_with fail
          go_ret
          rw [HE.out]
          exact ⟨rfl, HSAME.out⟩
        | true =>
          have HE := Lib.hid (show r = (⟨s.l.set k ⟨x0, x1, x2, x3, true⟩, s.f⟩, 0) from HE0.out.trans (if_neg (fun q => Bool.noConfusion q.2)))
          have HFIN := Lib.hid (HT.out k ⟨x0, x1, x2, x3, true⟩ HKL.out)
          go_wp2_with fail
          go_region_law (fail)
          all_goals
            go_wp2_with fail
            go_ret
            rw [HE.out]
            exact ⟨rfl, HFIN.out⟩
      | false =>
        have HE := Lib.hid (show r = (⟨s.l.set k ⟨x0, x1, x2, x3, x4⟩, s.f⟩, 0) from HE0.out.trans (if_neg (fun q => Bool.noConfusion q.1)))
        have HFIN := Lib.hid (HT.out k ⟨x0, x1, x2, x3, x4⟩ HKL.out)
        go_wp2_with fail
        go_region_law (fail)
        all_goals
          go_wp2_with fail
          go_ret
          rw [HE.out]
          exact ⟨rfl, HFIN.out⟩
    · rw [hh]
      have HE0 := Lib.hid (show r = if (roomS s).2 = true then (⟨insP ⟨x0, x1, x2, x3, x4⟩ (roomS s).1.l, (roomS s).1.f⟩, 0) else (⟨(roomS s).1.l, wrap64 ((roomS s).1.f + 1)⟩, 6) by
        rw [← HR.out]
        unfold putG
        rw [if_pos HP1.out]
        simp only
        rw [hx])
      have HRO := Lib.hid (room_any (w := w2) ⟨A, c, H.out.below HB2.out⟩ HS.out (by have := HN.out; omega))
      have HRS := Lib.hid (room_srt HS.out)
      obtain ⟨s', hs'⟩ : ∃ s', (roomS s).1 = s' := ⟨_, rfl⟩
      obtain ⟨ok, hok⟩ : ∃ ok, (roomS s).2 = ok := ⟨_, rfl⟩
      rw [hs', hok] at HRO HE0
      rw [hs'] at HRS
      clear hk hh hx b2 hs' hok
      go_wp2_with fail
      refine HRO.out.mono ?_
      rintro e w3 ⟨rfl, t3, A3, c3, h3⟩
      clear z0 z1 z2 z3 z4
      have HX3 := Lib.hid (HX2.out.touch t3 (fun hF => by have := (H.out.lo _ hF).2; omega))
      have H3 := Lib.hid h3
      have HT3 := Lib.hid t3
      cases ok with
      | false =>
        have HE := Lib.hid (show r = (⟨s'.l, wrap64 (s'.f + 1)⟩, 6) from HE0.out.trans (if_neg (fun q => Bool.noConfusion q)))
        have d1 : w3.cell? ⟨g, 1, none⟩ = some (.int .i64 s'.f) := h3.blk.cell 1
        have f1 : w3.frozen? ⟨g, 1, none⟩ = false := h3.blk.frozen 1
        have HFIN := Lib.hid (H.out.fail HB2.out t3 h3 (wrap64 (s'.f + 1)))
        clear t3 h3
        go_wp2_with fail
        go_ret
        rw [HE.out]
        exact ⟨rfl, HFIN.out⟩
      | true =>
        have z0 : w3.cell? ⟨w.heap.size, 0, none⟩ = some (.int .i64 x0) := HX3.out.cell 0
        have z1 : w3.cell? ⟨w.heap.size, 1, none⟩ = some (.int .i64 x1) := HX3.out.cell 1
        have z2 : w3.cell? ⟨w.heap.size, 2, none⟩ = some (.int .i64 x2) := HX3.out.cell 2
        have z3 : w3.cell? ⟨w.heap.size, 3, none⟩ = some (.int .i64 x3) := HX3.out.cell 3
        have z4 : w3.cell? ⟨w.heap.size, 4, none⟩ = some (.bool x4) := HX3.out.cell 4
        have HFI3 := Lib.hid (tfind_any h3 (by have := HRS.out.2; have := HN.out; omega) x0 x1)
        have HE := Lib.hid (show r = (⟨insP ⟨x0, x1, x2, x3, x4⟩ s'.l, s'.f⟩, 0) from HE0.out.trans (if_pos rfl))
        clear t3 h3
        go_wp2_with fail
        refine HFI3.out.mono ?_
        rintro e w4 ⟨k4, hk4, rfl, b4⟩
        clear z0 z1 z2 z3 z4
        have h4 := H3.out.below b4
        have HX4 := Lib.hid (HX3.out.below b4 HX3.out.lt)
        have HB4 := Lib.hid b4
        have HINS := Lib.hid (fun (V : World) (hV : PtAt V B (grow F w2 w3) g s' A3 c3 ∧ Blk V w4.heap.size 49 #[.int .i64 x0, .int .i64 x1, .int .i64 x2, .int .i64 x3, .bool x4]) => insert_any A3 c3 k4 w4.heap.size s'.l ⟨x0, x1, x2, x3, x4⟩ B V hV.1.row (by have := HRS.out.2; have := HN.out; omega) hV.2 (fun e => by have := (H3.out.lo _ (H3.out.fr _ e)).2; have := HB4.out.size; omega) hk4.le hV.1.base)
        have HINS : Hid (∀ (V : World), PtAt V B (grow F w2 w3) g s' A3 c3 ∧ Blk V w4.heap.size 49 #[.int .i64 x0, .int .i64 x1, .int .i64 x2, .int .i64 x3, .bool x4] → Calls Try.prog 34 #[.slice A3 s'.l.length c3, .int .i64 (k4 : Int), .slice (some ⟨w4.heap.size, 0, none⟩) 1 1] V fun e w' => ∃ a' c', e = .returned (.slice a' (insK s'.l k4 ⟨x0, x1, x2, x3, x4⟩).length c') ∧ OwnL 49 w' B a' c' (insK s'.l k4 ⟨x0, x1, x2, x3, x4⟩) ∧ V.grownBy w' (Value.slice A3 s'.l.length c3).ownBlock ∧ ((Value.slice a' 0 0).ownBlock = (Value.slice A3 0 0).ownBlock ∨ ∃ k, V.heap.size ≤ k ∧ (Value.slice a' 0 0).ownBlock = some k)) := HINS
        have HAFT := Lib.hid (fun (V : World) (hb : Below w3.heap.size w3 V) (w9 : World) (a' : Option Addr) (c' : Nat) (ho9 : OwnL 49 w9 B a' c' (insK s'.l k4 ⟨x0, x1, x2, x3, x4⟩)) (hg9 : V.grownBy w9 (Value.slice A3 s'.l.length c3).ownBlock) (hmv : (Value.slice a' 0 0).ownBlock = (Value.slice A3 0 0).ownBlock ∨ ∃ k, V.heap.size ≤ k ∧ (Value.slice a' 0 0).ownBlock = some k) => show w9.frozen? ⟨g, 0, none⟩ = false ∧ w9.cell? ⟨g, 0, none⟩ = some (.slice A3 s'.l.length c3) ∧ Touch F w (w9.setCell ⟨g, 0, none⟩ (.slice a' (insK s'.l k4 ⟨x0, x1, x2, x3, x4⟩).length c')) ∧ Pt (w9.setCell ⟨g, 0, none⟩ (.slice a' (insK s'.l k4 ⟨x0, x1, x2, x3, x4⟩).length c')) B (grow F w (w9.setCell ⟨g, 0, none⟩ (.slice a' (insK s'.l k4 ⟨x0, x1, x2, x3, x4⟩).length c'))) g ⟨insP ⟨x0, x1, x2, x3, x4⟩ s'.l, s'.f⟩ by
          obtain ⟨q1, q2, q3, q4⟩ := H3.out.store hb hg9 ho9 hmv
          have q5 := Pt.after H.out HB2.out HT3.out q3 q4
          refine ⟨q1, q2, q5.1, ?_⟩
          rw [← ins_at (x := ⟨x0, x1, x2, x3, x4⟩) HRS.out.1 hk4]
          exact q5.2)
        have HV1 := Lib.hid (show PtAt (w4.alloc (.cells #[.int .i64 x0, .int .i64 x1, .int .i64 x2, .int .i64 x3, .bool x4] 49)).drew B (grow F w2 w3) g s' A3 c3 ∧ Blk (w4.alloc (.cells #[.int .i64 x0, .int .i64 x1, .int .i64 x2, .int .i64 x3, .bool x4] 49)).drew w4.heap.size 49 #[.int .i64 x0, .int .i64 x1, .int .i64 x2, .int .i64 x3, .bool x4] from ⟨h4.below (bel_alloc _ _).drew, (Blk.new _ _ _).drew⟩)
        have HBL1 := Lib.hid (show Below w3.heap.size w3 (w4.alloc (.cells #[.int .i64 x0, .int .i64 x1, .int .i64 x2, .int .i64 x3, .bool x4] 49)).drew from b4.trans ((bel_alloc _ _).drew.mono b4.size))
        have hg0 : w4.drew.cell? ⟨g, 0, none⟩ = some (.slice A3 s'.l.length c3) := h4.blk.cell 0
        have hg1 : ∀ o : Obj, (w4.alloc o).cell? ⟨g, 0, none⟩ = some (.slice A3 s'.l.length c3) := fun o => (h4.below (bel_alloc w4 o)).blk.cell 0
        have z0 : w4.drew.cell? ⟨w.heap.size, 0, none⟩ = some (.int .i64 x0) := HX4.out.cell 0
        have z1 : w4.drew.cell? ⟨w.heap.size, 1, none⟩ = some (.int .i64 x1) := HX4.out.cell 1
        have z2 : w4.drew.cell? ⟨w.heap.size, 2, none⟩ = some (.int .i64 x2) := HX4.out.cell 2
        have z3 : w4.drew.cell? ⟨w.heap.size, 3, none⟩ = some (.int .i64 x3) := HX4.out.cell 3
        have z4 : w4.drew.cell? ⟨w.heap.size, 4, none⟩ = some (.bool x4) := HX4.out.cell 4
        have HZ := Lib.hid (fun o : Obj => HX4.out.alloc o)
        have y0 : ∀ o : Obj, (w4.alloc o).cell? ⟨w.heap.size, 0, none⟩ = some (.int .i64 x0) := fun o => (HX4.out.alloc o).cell 0
        have y1 : ∀ o : Obj, (w4.alloc o).cell? ⟨w.heap.size, 1, none⟩ = some (.int .i64 x1) := fun o => (HX4.out.alloc o).cell 1
        have y2 : ∀ o : Obj, (w4.alloc o).cell? ⟨w.heap.size, 2, none⟩ = some (.int .i64 x2) := fun o => (HX4.out.alloc o).cell 2
        have y3 : ∀ o : Obj, (w4.alloc o).cell? ⟨w.heap.size, 3, none⟩ = some (.int .i64 x3) := fun o => (HX4.out.alloc o).cell 3
        have y4 : ∀ o : Obj, (w4.alloc o).cell? ⟨w.heap.size, 4, none⟩ = some (.bool x4) := fun o => (HX4.out.alloc o).cell 4
        have i0 : (0 : Int) ≤ k4 := by omega
        clear h4 b4 hk4 HZ
        go_wp2_with fail
        go_region_law ((first
          | (go_simp; go_at_call 34; (with_reducible (refine (HINS.out _ HV1.out).mono ?_)); rintro e w9 ⟨a', c', rfl, ho9, hg9, hmv⟩; obtain ⟨f0, d0, hfin⟩ := HAFT.out _ HBL1.out w9 a' c' ho9 hg9 hmv; have HFIN := Lib.hid hfin; clear ho9 hg9 hmv hfin)))
        all_goals
          go_wp2_with fail
          go_ret
          rw [HE.out]
          exact ⟨rfl, HFIN.out⟩
  · rw [decide_eq_false hfine] at HG
    have HE := Lib.hid (show r = (s, 1) by rw [← HR.out]; exact if_neg hfine)
    have z0 : (w.alloc (.cells #[.int .i64 x0, .int .i64 x1, .int .i64 x2, .int .i64 x3, .bool x4] 49)).cell? ⟨w.heap.size, 0, none⟩ = some (.int .i64 x0) := HX.out.cell 0
    have z1 : (w.alloc (.cells #[.int .i64 x0, .int .i64 x1, .int .i64 x2, .int .i64 x3, .bool x4] 49)).cell? ⟨w.heap.size, 1, none⟩ = some (.int .i64 x1) := HX.out.cell 1
    have z2 : (w.alloc (.cells #[.int .i64 x0, .int .i64 x1, .int .i64 x2, .int .i64 x3, .bool x4] 49)).cell? ⟨w.heap.size, 2, none⟩ = some (.int .i64 x2) := HX.out.cell 2
    have z3 : (w.alloc (.cells #[.int .i64 x0, .int .i64 x1, .int .i64 x2, .int .i64 x3, .bool x4] 49)).cell? ⟨w.heap.size, 3, none⟩ = some (.int .i64 x3) := HX.out.cell 3
    have z4 : (w.alloc (.cells #[.int .i64 x0, .int .i64 x1, .int .i64 x2, .int .i64 x3, .bool x4] 49)).cell? ⟨w.heap.size, 4, none⟩ = some (.bool x4) := HX.out.cell 4
    clear h hs hn hr hfine
    go_enter Try.func27, Try.ntmps27
    go_wp2_with fail
    refine (HG.out _).mono ?_
    rintro e w1 ⟨rfl, b1⟩
    have HB1 := Lib.hid (HB.out.trans (b1.mono HB.out.size))
    clear b1
    go_wp2_with fail
    go_ret
    rw [HE.out]
    exact ⟨rfl, below_touch HB1.out F, _, _, H.out.grown HB1.out⟩
end Go.Proofs.Ytnhnllkcnpbgoaa
