/- The program's View.handsOn, slices.Index and slices.Contains of attributes. No condition but bounds on lengths. -/
import Derived.Test.YtaieopejabpegaaSnRef
namespace Go.Proofs.Ytaieopejabpegaa
open Go.RowKit
set_option maxRecDepth 100000

/-- The first place of an attribute, -1 if there is none. -/
def placeI (a : At) (l : List At) : Int := match placeA a l with
  | some i => i
  | none => -1
theorem placeI_at {a : At} {l : List At} {i : Nat} (hi : i < l.length) (h : l.getD i at0 = a) (hb : ∀ k, k < i → l.getD k at0 ≠ a) : placeI a l = i := by
  unfold placeI
  rw [placeA_at hi h hb]
theorem placeI_no {a : At} {l : List At} (h : ∀ k, k < l.length → l.getD k at0 ≠ a) : placeI a l = -1 := by
  unfold placeI
  rw [placeA_no h]
theorem placeI_mem (a : At) (l : List At) : decide (0 ≤ placeI a l) = decide (a ∈ l) := by
  unfold placeI
  cases h : placeA a l with
  | none =>
    rw [decide_eq_false (has_nil_place (placeA_none h))]
    rfl
  | some i =>
    obtain ⟨h1, h2, _⟩ := placeA_some h
    rw [decide_eq_true (has_place h1 h2)]
    exact decide_eq_true (Int.natCast_nonneg i)
def Boxd (w wr : World) (a : At) : Prop := Below w.heap.size w wr ∧ Blk wr w.heap.size 24 #[.int .i64 a.t, .int .i64 a.v]
theorem boxd (w : World) (a : At) : Boxd w (w.alloc (.cells #[.int .i64 a.t, .int .i64 a.v] 24)) a := ⟨bel_alloc w _, Blk.new w _ _⟩
theorem Boxd.drewN {w wr : World} {a : At} (h : Boxd w wr a) (q : Nat) : Boxd w (wr.drewN q) a := ⟨bel_drewN h.1 q, h.2⟩
set_option maxHeartbeats 4000000 in
theorem aidx_any (A : Option Addr) (c : Nat) (xs : List At) (a : At) (w : World) (hA : AtsAt w w.heap.size A xs) (hl : xs.length ≤ 1048576) :
    Calls Try.prog 29 #[.slice A xs.length c, .agg #[.int .i64 a.t, .int .i64 a.v]] w fun e w' => e = .returned (.int .i64 (placeI a xs)) ∧ Below w.heap.size w w' := by
  obtain ⟨n, hn⟩ : ∃ n, xs.length = n := ⟨_, rfl⟩
  have HR := Lib.hid hA
  have HL := Lib.hid (And.intro hn hl)
  rw [hn]
  clear hA hl hn
  have HX := Lib.hid (boxd w a)
  go_enter Try.func29, Try.ntmps29
  go_wp2_with fail
  go_loopw [8] (fun iv wr => ∃ j : Nat, j ≤ n ∧ iv = .int .i64 j ∧ (∀ k, k < j → xs.getD k at0 ≠ a) ∧ Hid (Boxd w wr a)) (fun iv _ => n - (intOf iv).toNat)
  case atStart => exact ⟨0, Nat.zero_le _, rfl, fun k hk => absurd hk (Nat.not_lt_zero k), HX⟩
  case round =>
    obtain ⟨j, hj, rfl, hno, HB⟩ := hrel
    have HNO := Lib.hid hno
    by_cases hlt : j < n
    · have j1 : (j : Int) < n := by omega
      have j0 : (0 : Int) ≤ j := by omega
      have HLT := Lib.hid hlt
      have HJ := Lib.hid (show wrap64 ((j : Int) + 1) = (j : Int) + 1 from IntWalk.wrap64_in _ (by have := HL.out; omega))
      obtain ⟨b, off, eA, hbl, c0, c1⟩ := HR.out j (by rw [HL.out.1]; exact hlt)
      have q0 : wr.cell? ⟨b, off + j * 2, none⟩ = some (.int .i64 (xs.getD j at0).t) := (HB.out.1.cell (p := ⟨b, off + j * 2, none⟩) hbl).trans c0
      have q1 : wr.cell? ⟨b, off + j * 2 + 1, none⟩ = some (.int .i64 (xs.getD j at0).v) := (HB.out.1.cell (p := ⟨b, off + j * 2 + 1, none⟩) hbl).trans c1
      have a0 := HB.out.2.cell 0
      have a1 := HB.out.2.cell 1
      obtain ⟨x, hx⟩ : ∃ x, xs.getD j at0 = x := ⟨_, rfl⟩
      rw [hx] at q0 q1
      obtain ⟨eq, heq⟩ : ∃ eq, decide (a = x) = eq := ⟨_, rfl⟩
      have HEQ : ∀ w, (binOp .eql 24 (.agg #[.int .i64 a.t, .int .i64 a.v]) (.agg #[.int .i64 x.t, .int .i64 x.v])).run Try.prog w = .ok (.bool eq) w := fun w => by rw [← heq]; exact eql_attr a x w
      have HE := Lib.hid (And.intro hx heq)
      subst eA
      clear hno hj hlt hbl c0 c1 hx heq
      cases eq with
      | true =>
        have HXA := Lib.hid (show xs.getD j at0 = a from HE.out.1.trans (of_decide_eq_true HE.out.2).symm)
        have HV := Lib.hid (show placeI a xs = j from placeI_at (by rw [HL.out.1]; exact HLT.out) HXA.out HNO.out)
        go_wp2_with fail
        go_region
        go_wp2_with fail
        go_ret
        exact ⟨by rw [HV.out]; rfl, (HB.out.drewN 1).1⟩
      | false =>
        have HXA := Lib.hid (show ∀ k, k < j + 1 → xs.getD k at0 ≠ a from fun k hk => by
          by_cases e : k = j
          · subst e; rw [HE.out.1]; exact fun e => of_decide_eq_false HE.out.2 e.symm
          · exact HNO.out k (by omega))
        go_wp2_with fail
        go_region
        go_wp2_with fail
        go_roundw
        case rel =>
          rw [HJ.out]
          exact ⟨j + 1, HLT.out, by rw [Int.natCast_add]; rfl, HXA.out, Lib.hid (HB.out.drewN 1)⟩
        case measure =>
          rw [HJ.out]
          show n - ((j : Int) + 1).toNat < n - ((j : Int)).toNat
          have := HLT.out
          omega
    · obtain rfl : n = j := by omega
      clear hj hlt
      have HV := Lib.hid (show placeI a xs = -1 from placeI_no (by rw [HL.out.1]; exact hno))
      clear hno
      go_wp2_with fail
      go_ret
      exact ⟨by rw [HV.out]; rfl, HB.out.1⟩
set_option maxHeartbeats 4000000 in
theorem acon_any (A : Option Addr) (c : Nat) (xs : List At) (a : At) (w : World) (hA : AtsAt w w.heap.size A xs) (hl : xs.length ≤ 1048576) :
    Calls Try.prog 23 #[.slice A xs.length c, .agg #[.int .i64 a.t, .int .i64 a.v]] w fun e w' => e = .returned (.bool (decide (a ∈ xs))) ∧ Below w.heap.size w w' := by
  have HB := Lib.hid (boxd w a)
  have a0 := HB.out.2.cell 0
  have a1 := HB.out.2.cell 1
  have HI := Lib.hid (aidx_any A c xs a (w.alloc (.cells #[.int .i64 a.t, .int .i64 a.v] 24)) ((hA.below HB.out.1).more HB.out.1.size) hl)
  have HM := Lib.hid (placeI_mem a xs)
  clear hA hl
  go_enter Try.func23, Try.ntmps23
  go_wp2_with fail
  refine HI.out.mono ?_
  rintro e w' ⟨rfl, b1⟩
  have HE := Lib.hid (HB.out.1.trans (b1.mono HB.out.1.size))
  clear b1 a0 a1
  go_wp2_with fail
  go_ret
  exact ⟨ret_bool HM.out, HE.out⟩
set_option maxHeartbeats 4000000 in
theorem hands_any (x : Vx) (a : At) (w : World) (hr : x.rows w w.heap.size) (hl : x.xs.length ≤ 1048576) :
    Calls Try.prog 24 #[.agg x.cells.toArray, .agg #[.int .i64 a.t, .int .i64 a.v]] w fun e w' => e = .returned (.int .i64 (bornV x.v a)) ∧ Below w.heap.size w w' := by
  obtain ⟨op, A, c, xs, A', c', bs⟩ := x
  have HR := Lib.hid hr
  show Calls _ _ #[.agg #[.bool op, .slice A xs.length c, .slice A' bs.length c'], _] w _
  have HX := Lib.hid (boxed w 43 24 #[.bool op, .slice A xs.length c, .slice A' bs.length c'] #[.int .i64 a.t, .int .i64 a.v])
  obtain ⟨W, hW⟩ : ∃ W, (w.alloc (.cells #[.bool op, .slice A xs.length c, .slice A' bs.length c'] 43)).alloc (.cells #[.int .i64 a.t, .int .i64 a.v] 24) = W := ⟨_, rfl⟩
  have HI := Lib.hid (aidx_any A c xs a W ((hr.1.below (by rw [← hW]; exact HX.out.1)).more (by rw [← hW]; exact HX.out.1.size)) hl)
  rw [hW] at HX
  obtain ⟨n, hn⟩ : ∃ n, xs.length = n := ⟨_, rfl⟩
  obtain ⟨m, hm⟩ : ∃ m, bs.length = m := ⟨_, rfl⟩
  have HN := Lib.hid (And.intro hn (And.intro hm hl))
  rw [hn, hm] at HX hW
  rw [hn] at HI
  rw [hn, hm]
  clear hr hl hn hm
  have HD := Lib.hid (show bornV (Vx.v ⟨op, A, c, xs, A', c', bs⟩) a = if op = true then (match placeA a xs with | some i => if i < bs.length then bs.getD i 0 else -1 | none => -1) else -1 from rfl)
  cases op with
  | false =>
    clear HI
    have k0 := HX.out.2.1.cell 0
    go_enter Try.func24, Try.ntmps24
    go_wp2_with fail
    go_ret
    exact ⟨by rw [HD.out]; rfl, HX.out.1⟩
  | true =>
    have k0 := HX.out.2.1.cell 0
    have k1 := HX.out.2.1.cell 1
    have a0 := HX.out.2.2.cell 0
    have a1 := HX.out.2.2.cell 1
    go_enter Try.func24, Try.ntmps24
    go_wp2_with fail
    refine HI.out.mono ?_
    rintro e w1 ⟨rfl, b1⟩
    have HX1 := Lib.hid (And.intro (HX.out.1.trans (b1.mono HX.out.1.size)) (HX.out.2.1.below b1 HX.out.2.1.lt))
    have k2 := HX1.out.2.cell 2
    clear b1 k0 k1 a0 a1 HI
    cases hp : placeA a xs with
    | none =>
      have HV := Lib.hid (show bornV (Vx.v ⟨true, A, c, xs, A', c', bs⟩) a = -1 from by rw [HD.out, hp]; rfl)
      have e1 : placeI a xs = -1 := by unfold placeI; rw [hp]
      rw [e1]
      clear hp e1 k2
      go_wp2_with fail
      go_ret
      exact ⟨by rw [HV.out]; rfl, HX1.out.1⟩
    | some i =>
      have e1 : placeI a xs = i := by unfold placeI; rw [hp]
      rw [e1]
      have i0 : (0 : Int) ≤ i := by omega
      by_cases hi : i < m
      · have i1 : (i : Int) < m := by omega
        have HV := Lib.hid (show bornV (Vx.v ⟨true, A, c, xs, A', c', bs⟩) a = bs.getD i 0 from by rw [HD.out, hp]; simp [HN.out.2.1, hi])
        obtain ⟨b, off, eA, hbl, c0⟩ := HR.out.2 i (by show i < bs.length; rw [HN.out.2.1]; exact hi)
        have eA : A' = some ⟨b, off, none⟩ := eA
        have q0 : w1.cell? ⟨b, off + i, none⟩ = some (.int .i64 (bs.getD i 0)) := (HX1.out.1.cell (p := ⟨b, off + i, none⟩) hbl).trans c0
        obtain ⟨z, hz⟩ : ∃ z, bs.getD i 0 = z := ⟨_, rfl⟩
        rw [hz] at q0 HV
        subst eA
        clear hp e1 hi hbl c0 hz
        go_wp2_with fail
        go_ret
        exact ⟨by rw [HV.out]; rfl, HX1.out.1⟩
      · have i1 : ¬ (i : Int) < m := by omega
        have i2 : (m : Int) ≤ i := by omega
        have i3 : decide ((m : Int) ≤ i) = true := decide_eq_true i2
        have HV := Lib.hid (show bornV (Vx.v ⟨true, A, c, xs, A', c', bs⟩) a = -1 from by rw [HD.out, hp]; simp [HN.out.2.1, hi])
        clear hp e1 hi
        go_wp2_with fail
        go_ret
        exact ⟨by rw [HV.out]; rfl, HX1.out.1⟩
end Go.Proofs.Ytaieopejabpegaa
