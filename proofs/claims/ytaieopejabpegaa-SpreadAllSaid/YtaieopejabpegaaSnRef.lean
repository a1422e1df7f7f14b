/- The document's answers for layer 17: Born, Has, Want. No condition but bounds on lengths. -/
import Derived.Test.YtaieopejabpegaaSnMem
namespace Go.Proofs.Ytaieopejabpegaa
open Go.RowKit
set_option maxRecDepth 100000

theorem eql_attr (x y : At) (w : World) : (binOp .eql 24 (.agg #[.int .i64 x.t, .int .i64 x.v]) (.agg #[.int .i64 y.t, .int .i64 y.v])).run Try.prog w = .ok (.bool (decide (x = y))) w := by
  obtain ⟨x0, x1⟩ := x
  obtain ⟨y0, y1⟩ := y
  by_cases h0 : x0 = y0
  · subst h0
    by_cases h1 : x1 = y1
    · subst h1
      go_simp
    · go_simp
  · go_simp
/-- Two boxes that a call makes of its arguments, and what was below. -/
def Boxed (w wr : World) (t u : TypeId) (xs ys : Array Value) : Prop := Below w.heap.size w wr ∧ Blk wr w.heap.size t xs ∧ Blk wr (w.heap.size + 1) u ys
theorem boxed (w : World) (t u : TypeId) (xs ys : Array Value) : Boxed w ((w.alloc (.cells xs t)).alloc (.cells ys u)) t u xs ys := by
  have hsz : (w.alloc (.cells xs t)).heap.size = w.heap.size + 1 := by
    show (w.heap.push _).size = _
    exact Array.size_push ..
  refine ⟨bel_alloc2 w _ _, (Blk.new w t xs).alloc _, ?_⟩
  have := Blk.new (w.alloc (.cells xs t)) u ys
  rw [hsz] at this
  exact this
theorem Boxed.alloc {w wr : World} {t u : TypeId} {xs ys : Array Value} (h : Boxed w wr t u xs ys) (o : Obj) : Boxed w (wr.alloc o) t u xs ys :=
  ⟨h.1.trans ((bel_alloc wr o).mono h.1.size), h.2.1.alloc o, h.2.2.alloc o⟩
theorem has_nil_place {a : At} {l : List At} (h : ∀ k, k < l.length → l.getD k at0 ≠ a) : a ∉ l := fun c => by
  obtain ⟨i, hi, e⟩ := List.mem_iff_getElem.1 c
  refine h i hi ?_
  rw [List.getD_eq_getElem?_getD, List.getElem?_eq_getElem hi]
  exact e
theorem has_place {a : At} {l : List At} {j : Nat} (hj : j < l.length) (h : l.getD j at0 = a) : a ∈ l := by
  rw [List.getD_eq_getElem?_getD, List.getElem?_eq_getElem hj] at h
  rw [← h]
  exact List.getElem_mem hj
set_option maxHeartbeats 4000000 in
theorem dborn_any (x : Vx) (a : At) (w : World) (hr : x.rows w w.heap.size) (hl : x.xs.length ≤ 1048576) :
    Calls Try.prog 17 #[.agg x.cells.toArray, .agg #[.int .i64 a.t, .int .i64 a.v]] w fun e w' => e = .returned (.int .i64 (bornV x.v a)) ∧ Below w.heap.size w w' := by
  obtain ⟨op, A, c, xs, A', c', bs⟩ := x
  obtain ⟨n, hn⟩ : ∃ n, xs.length = n := ⟨_, rfl⟩
  obtain ⟨m, hm⟩ : ∃ m, bs.length = m := ⟨_, rfl⟩
  have HR := Lib.hid hr
  have HL := Lib.hid hl
  show Calls _ _ #[.agg #[.bool op, .slice A xs.length c, .slice A' bs.length c'], _] w _
  have HN := Lib.hid (And.intro hn hm)
  rw [hn, hm]
  clear hr hl hn hm
  cases op with
  | false =>
    go_enter Try.func17, Try.ntmps17
    go_wp2_with fail
    go_ret
    exact ⟨rfl, bel_alloc2 _ _ _⟩
  | true =>
    have HX := Lib.hid (boxed w 38 24 #[.bool true, .slice A n c, .slice A' m c'] #[.int .i64 a.t, .int .i64 a.v])
    go_enter Try.func17, Try.ntmps17
    go_wp2_with fail
    go_loopw [13] (fun iv wr => ∃ j : Nat, j ≤ n ∧ iv = .int .i64 j ∧ (∀ k, k < j → xs.getD k at0 ≠ a) ∧ Hid (Boxed w wr 38 24 #[.bool true, .slice A n c, .slice A' m c'] #[.int .i64 a.t, .int .i64 a.v])) (fun iv _ => n - (intOf iv).toNat)
    case atStart => exact ⟨0, Nat.zero_le _, rfl, fun k hk => absurd hk (Nat.not_lt_zero k), HX⟩
    case round =>
      obtain ⟨j, hj, rfl, hno, HB⟩ := hrel
      have HNO := Lib.hid hno
      by_cases hlt : j < n
      · have j1 : (j : Int) < n := by omega
        have j0 : (0 : Int) ≤ j := by omega
        have HLT := Lib.hid hlt
        have HJ := Lib.hid (show wrap64 ((j : Int) + 1) = (j : Int) + 1 from IntWalk.wrap64_in _ (by have := HL.out; have := HN.out.1; omega))
        obtain ⟨b, off, eA, hbl, c0, c1⟩ := HR.out.1 j (by show j < xs.length; rw [HN.out.1]; exact hlt)
        have eA : A = some ⟨b, off, none⟩ := eA
        have q0 := (HB.out.1.cell (p := ⟨b, off + j * 2, none⟩) hbl).trans c0
        have q1 := (HB.out.1.cell (p := ⟨b, off + j * 2 + 1, none⟩) hbl).trans c1
        have q0 : wr.cell? ⟨b, off + j * 2, none⟩ = some (.int .i64 (xs.getD j at0).t) := q0
        have q1 : wr.cell? ⟨b, off + j * 2 + 1, none⟩ = some (.int .i64 (xs.getD j at0).v) := q1
        have v2 := fun o => (HB.out.alloc o).2.1.cell 2
        have a0 := fun o => (HB.out.alloc o).2.2.cell 0
        have a1 := fun o => (HB.out.alloc o).2.2.cell 1
        obtain ⟨x, hx⟩ : ∃ x, xs.getD j at0 = x := ⟨_, rfl⟩
        rw [hx] at q0 q1
        obtain ⟨eq, heq⟩ : ∃ eq, decide (x = a) = eq := ⟨_, rfl⟩
        have HEQ : ∀ w, (binOp .eql 24 (.agg #[.int .i64 x.t, .int .i64 x.v]) (.agg #[.int .i64 a.t, .int .i64 a.v])).run Try.prog w = .ok (.bool eq) w := fun w => by rw [← heq]; exact eql_attr x a w
        have HE := Lib.hid (And.intro hx heq)
        subst eA
        clear hno hj hlt hbl c0 c1 hx heq
        cases eq with
        | true =>
          have HXA := Lib.hid (show xs.getD j at0 = a from HE.out.1.trans (of_decide_eq_true HE.out.2))
          by_cases hb : j < m
          · have b1 : (j : Int) < m := by omega
            obtain ⟨b', off', eA', hbl', d0⟩ := HR.out.2 j (by show j < bs.length; rw [HN.out.2]; exact hb)
            have eA' : A' = some ⟨b', off', none⟩ := eA'
            have d1 : ∀ o, (wr.alloc o).cell? ⟨b', off' + j, none⟩ = some (.int .i64 (bs.getD j 0)) := fun o => ((HB.out.alloc o).1.cell (p := ⟨b', off' + j, none⟩) hbl').trans d0
            have hv : bornV (Vx.v ⟨true, some ⟨b, off, none⟩, c, xs, A', c', bs⟩) a = bs.getD j 0 := by
              show (if true = true then bornO ⟨true, xs, bs⟩ a else -1) = _
              rw [if_pos rfl]
              unfold bornO
              rw [show placeA a xs = some j from placeA_at (by rw [HN.out.1]; exact HLT.out) HXA.out HNO.out]
              exact if_pos (by rw [HN.out.2]; exact hb)
            obtain ⟨z, hz⟩ : ∃ z, bs.getD j 0 = z := ⟨_, rfl⟩
            rw [hz] at d1 hv
            have HV := Lib.hid hv
            subst eA'
            clear hb d0 hbl' hv hz
            go_wp2_with fail
            go_ret
            exact ⟨by rw [HV.out]; rfl, (HB.out.alloc _).1⟩
          · have b1 : ¬ (j : Int) < m := by omega
            have HV := Lib.hid (show bornV (Vx.v ⟨true, some ⟨b, off, none⟩, c, xs, A', c', bs⟩) a = -1 from by
              show (if true = true then bornO ⟨true, xs, bs⟩ a else -1) = _
              rw [if_pos rfl]
              unfold bornO
              rw [show placeA a xs = some j from placeA_at (by rw [HN.out.1]; exact HLT.out) HXA.out HNO.out]
              exact if_neg (by rw [HN.out.2]; exact hb))
            clear hb
            go_wp2_with fail
            go_ret
            exact ⟨by rw [HV.out]; rfl, (HB.out.alloc _).1⟩
        | false =>
          have HXA := Lib.hid (show ∀ k, k < j + 1 → xs.getD k at0 ≠ a from fun k hk => by
            by_cases e : k = j
            · subst e; rw [HE.out.1]; exact of_decide_eq_false HE.out.2
            · exact HNO.out k (by omega))
          go_wp2_with fail
          go_roundw
          case rel =>
            rw [HJ.out]
            exact ⟨j + 1, HLT.out, by rw [Int.natCast_add]; rfl, HXA.out, Lib.hid (HB.out.alloc _)⟩
          case measure =>
            rw [HJ.out]
            show n - ((j : Int) + 1).toNat < n - ((j : Int)).toNat
            have := HLT.out
            omega
      · obtain rfl : n = j := by omega
        clear hj hlt
        have HV := Lib.hid (show bornV (Vx.v ⟨true, A, c, xs, A', c', bs⟩) a = -1 from by
          show (if true = true then bornO ⟨true, xs, bs⟩ a else -1) = _
          rw [if_pos rfl]
          unfold bornO
          rw [placeA_no (by rw [HN.out.1]; exact hno)])
        clear hno
        go_wp2_with fail
        go_ret
        exact ⟨by rw [HV.out]; rfl, HB.out.1⟩
set_option maxHeartbeats 4000000 in
theorem dhas_any (x : Vx) (a : At) (w : World) (hr : x.rows w w.heap.size) (hl : x.xs.length ≤ 1048576) :
    Calls Try.prog 14 #[.agg x.cells.toArray, .agg #[.int .i64 a.t, .int .i64 a.v]] w fun e w' => e = .returned (.bool (hasV x.v a)) ∧ Below w.heap.size w w' := by
  obtain ⟨op, A, c, xs, A', c', bs⟩ := x
  obtain ⟨n, hn⟩ : ∃ n, xs.length = n := ⟨_, rfl⟩
  obtain ⟨m, hm⟩ : ∃ m, bs.length = m := ⟨_, rfl⟩
  have HR := Lib.hid hr
  have HL := Lib.hid hl
  show Calls _ _ #[.agg #[.bool op, .slice A xs.length c, .slice A' bs.length c'], _] w _
  have HN := Lib.hid (And.intro hn hm)
  rw [hn, hm]
  clear hr hl hn hm
  have HX := Lib.hid (boxed w 38 24 #[.bool op, .slice A n c, .slice A' m c'] #[.int .i64 a.t, .int .i64 a.v])
  go_enter Try.func14, Try.ntmps14
  go_wp2_with fail
  go_loopw [10] (fun iv wr => ∃ j : Nat, j ≤ n ∧ iv = .int .i64 j ∧ (∀ k, k < j → xs.getD k at0 ≠ a) ∧ Hid (Boxed w wr 38 24 #[.bool op, .slice A n c, .slice A' m c'] #[.int .i64 a.t, .int .i64 a.v])) (fun iv _ => n - (intOf iv).toNat)
  case atStart => exact ⟨0, Nat.zero_le _, rfl, fun k hk => absurd hk (Nat.not_lt_zero k), HX⟩
  case round =>
    obtain ⟨j, hj, rfl, hno, HB⟩ := hrel
    have HNO := Lib.hid hno
    by_cases hlt : j < n
    · have j1 : (j : Int) < n := by omega
      have j0 : (0 : Int) ≤ j := by omega
      have HLT := Lib.hid hlt
      have HJ := Lib.hid (show wrap64 ((j : Int) + 1) = (j : Int) + 1 from IntWalk.wrap64_in _ (by have := HL.out; have := HN.out.1; omega))
      obtain ⟨b, off, eA, hbl, c0, c1⟩ := HR.out.1 j (by show j < xs.length; rw [HN.out.1]; exact hlt)
      have eA : A = some ⟨b, off, none⟩ := eA
      have q0 := (HB.out.1.cell (p := ⟨b, off + j * 2, none⟩) hbl).trans c0
      have q1 := (HB.out.1.cell (p := ⟨b, off + j * 2 + 1, none⟩) hbl).trans c1
      have q0 : wr.cell? ⟨b, off + j * 2, none⟩ = some (.int .i64 (xs.getD j at0).t) := q0
      have q1 : wr.cell? ⟨b, off + j * 2 + 1, none⟩ = some (.int .i64 (xs.getD j at0).v) := q1
      have v2 := fun o => (HB.out.alloc o).2.1.cell 2
      have a0 := fun o => (HB.out.alloc o).2.2.cell 0
      have a1 := fun o => (HB.out.alloc o).2.2.cell 1
      obtain ⟨x, hx⟩ : ∃ x, xs.getD j at0 = x := ⟨_, rfl⟩
      rw [hx] at q0 q1
      obtain ⟨eq, heq⟩ : ∃ eq, decide (x = a) = eq := ⟨_, rfl⟩
      have HEQ : ∀ w, (binOp .eql 24 (.agg #[.int .i64 x.t, .int .i64 x.v]) (.agg #[.int .i64 a.t, .int .i64 a.v])).run Try.prog w = .ok (.bool eq) w := fun w => by rw [← heq]; exact eql_attr x a w
      have HE := Lib.hid (And.intro hx heq)
      subst eA
      clear hno hj hlt hbl c0 c1 hx heq
      cases eq with
      | true =>
        have HXA := Lib.hid (show xs.getD j at0 = a from HE.out.1.trans (of_decide_eq_true HE.out.2))
        have HV := Lib.hid (show hasV (Vx.v ⟨op, some ⟨b, off, none⟩, c, xs, A', c', bs⟩) a = true from decide_eq_true (has_place (l := xs) (by rw [HN.out.1]; exact HLT.out) HXA.out))
        go_wp2_with fail
        go_ret
        exact ⟨by rw [HV.out]; rfl, (HB.out.alloc _).1⟩
      | false =>
        have HXA := Lib.hid (show ∀ k, k < j + 1 → xs.getD k at0 ≠ a from fun k hk => by
          by_cases e : k = j
          · subst e; rw [HE.out.1]; exact of_decide_eq_false HE.out.2
          · exact HNO.out k (by omega))
        go_wp2_with fail
        go_roundw
        case rel =>
          rw [HJ.out]
          exact ⟨j + 1, HLT.out, by rw [Int.natCast_add]; rfl, HXA.out, Lib.hid (HB.out.alloc _)⟩
        case measure =>
          rw [HJ.out]
          show n - ((j : Int) + 1).toNat < n - ((j : Int)).toNat
          have := HLT.out
          omega
    · obtain rfl : n = j := by omega
      clear hj hlt
      have HV := Lib.hid (show hasV (Vx.v ⟨op, A, c, xs, A', c', bs⟩) a = false from decide_eq_false (has_nil_place (l := xs) (by rw [HN.out.1]; exact hno)))
      clear hno
      go_wp2_with fail
      go_ret
      exact ⟨by rw [HV.out]; rfl, HB.out.1⟩
end Go.Proofs.Ytaieopejabpegaa
