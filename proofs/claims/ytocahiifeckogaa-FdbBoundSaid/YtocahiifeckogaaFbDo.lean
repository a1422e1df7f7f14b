/- The document's table (layer 18): Learn, Fix, Drop, Keep. No condition but bounds on lengths. -/
import Derived.Test.YtocahiifeckogaaFbPut
namespace Go.Proofs.Ytocahiifeckogaa
open Go.RowKit
set_option maxRecDepth 100000

theorem learn_bad {d : Dt} {v m p now : Int} (h : ¬ fineP v m p) : learnD d v m p now = (d, 1) := if_neg h
theorem learn_none {d : Dt} {v m p now : Int} (h : fineP v m p) (h2 : ixP v m d.l = none) : learnD d v m p now = putD d ⟨v, m, p, now, false⟩ := by
  unfold learnD
  rw [if_pos h, h2]
theorem learn_some {d : Dt} {v m p now : Int} {i : Nat} (h : fineP v m p) (h2 : ixP v m d.l = some i) : learnD d v m p now = if (d.l.getD i pl0).st = true then (d, 0) else putD d ⟨v, m, p, now, false⟩ := by
  unfold learnD
  rw [if_pos h, h2]
theorem DtAt.wide {w : World} {B g c : Nat} {F F' : Nat → Prop} {d : Dt} {A : Option Addr} (h : DtAt w B F g d A c) (hF : ∀ k, F k → F' k) (hl : ∀ k, F' k → B ≤ k ∧ k < w.heap.size) : DtAt w B F' g d A c :=
  ⟨h.blk, h.row, hF g h.fg, fun k hk => hF k (h.fr k hk), hl⟩
theorem DtAt.grown {w w0 : World} {B g c : Nat} {F : Nat → Prop} {d : Dt} {A : Option Addr} (h : DtAt w B F g d A c) (hB : B ≤ w0.heap.size) : DtAt w B (grow F w0 w) g d A c :=
  h.wide (fun _ hk => .inl hk) (fun k hk => by
    rcases hk with hk | hk
    · exact h.lo k hk
    · exact ⟨by omega, hk.2⟩)
/-- What was below stays, and the table with it. -/
theorem DtAt.same {w w' : World} {B g c : Nat} {F : Nat → Prop} {d : Dt} {A : Option Addr} (h : DtAt w B F g d A c) (hb : Below w.heap.size w w') : Touch F w w' ∧ ∃ A' c', DtAt w' B (grow F w w') g d A' c' :=
  ⟨below_touch hb F, A, c, (h.below hb).grown (Nat.le_trans (h.lo g h.fg).1 (Nat.le_of_lt (h.lo g h.fg).2))⟩
theorem grow_grow {F : Nat → Prop} {w0 w1 w2 : World} (h1 : w0.heap.size ≤ w1.heap.size) (h2 : w1.heap.size ≤ w2.heap.size) {k : Nat} (h : grow (grow F w0 w1) w1 w2 k) : grow F w0 w2 k := by
  rcases h with (h | h) | h
  · exact .inl h
  · exact .inr ⟨h.1, by omega⟩
  · exact .inr ⟨by omega, h.2⟩
/-- A call behind one that left all as it was. -/
theorem after_same {w w1 w' : World} {B g : Nat} {F : Nat → Prop} {d' : Dt} (hb : Below w.heap.size w w1) (hB : B ≤ w.heap.size) (_hl : ∀ k, F k → k < w.heap.size) (h : Touch F w1 w' ∧ ∃ A' c', DtAt w' B (grow F w1 w') g d' A' c') : Touch F w w' ∧ ∃ A' c', DtAt w' B (grow F w w') g d' A' c' := by
  obtain ⟨ht, A', c', h⟩ := h
  refine ⟨(below_touch hb F).trans ht, A', c', h.wide (fun k hk => ?_) (fun k hk => ?_)⟩
  · rcases hk with hk | hk
    · exact .inl hk
    · exact .inr ⟨Nat.le_trans hb.size hk.1, hk.2⟩
  · rcases hk with hk | hk
    · exact h.lo k (.inl hk)
    · exact ⟨by omega, hk.2⟩
set_option maxHeartbeats 4000000 in
theorem dlearn_any {w : World} {B g c : Nat} {F : Nat → Prop} {d : Dt} {A : Option Addr} (h : DtAt w B F g d A c) (hl : d.l.length ≤ 1000) (v m p now : Int) :
    Calls Try.prog 19 #[.pointer (some ⟨g, 0, none⟩), .int .i64 v, .int .i64 m, .int .i64 p, .int .i64 now] w fun e w' => e = .returned (.int .i64 (learnD d v m p now).2) ∧ Touch F w w' ∧ ∃ A' c', DtAt w' B (grow F w w') g (learnD d v m p now).1 A' c' := by
  have HG := Lib.hid (dgood_any v m p w)
  by_cases hf : fineP v m p
  · rw [decide_eq_true hf] at HG
    have HAT := Lib.hid (dat_any h (by omega) v m)
    have HH := Lib.hid (And.intro h hl)
    have hB : B ≤ w.heap.size := Nat.le_trans (h.lo g h.fg).1 (Nat.le_of_lt (h.lo g h.fg).2)
    have HB := Lib.hid (And.intro hB (fun k hk => (h.lo k hk).2 : ∀ k, F k → k < w.heap.size))
    have HF := Lib.hid hf
    clear h hl hf hB
    go_enter Try.func19, Try.ntmps19
    go_wp2_with fail
    refine HG.out.mono ?_
    rintro e w1 ⟨rfl, rfl⟩
    go_wp2_with fail
    refine HAT.out.mono ?_
    rintro e w1 ⟨rfl, b1⟩
    have h1 := HH.out.1.below b1
    have HP := Lib.hid (dput_any h1 HH.out.2 ⟨v, m, p, now, false⟩)
    have HB1 := Lib.hid b1
    have HH1 := Lib.hid h1
    clear b1 h1
    cases hix : ixP v m d.l with
    | none =>
      have e1 : ixI v m d.l = -1 := by unfold ixI; rw [hix]
      have HE := Lib.hid (learn_none (now := now) HF.out hix)
      rw [e1]
      clear hix e1
      go_wp2_with fail
      refine HP.out.mono ?_
      rintro e w2 ⟨rfl, h2⟩
      have HR := Lib.hid (after_same HB1.out HB.out.1 HB.out.2 h2)
      clear h2
      go_wp2_with fail
      go_ret
      rw [HE.out]
      exact ⟨rfl, HR.out⟩
    | some i =>
      have hii := (ixP_some hix).1
      have e1 : ixI v m d.l = i := by unfold ixI; rw [hix]
      have HE := Lib.hid (learn_some (now := now) HF.out hix)
      rw [e1]
      obtain ⟨n, hn⟩ : ∃ n, d.l.length = n := ⟨_, rfl⟩
      have g0 : w1.cell? ⟨g, 0, none⟩ = some (.slice A n c) := by rw [← hn]; exact HH1.out.blk.cell 0
      obtain ⟨b, off, eA, hbl, hc⟩ := HH1.out.row.at_ i hii
      have i0 : (0 : Int) ≤ i := by omega
      have i1 : (i : Int) < n := by omega
      have q4 := hc.c4
      obtain ⟨st, hst⟩ : ∃ st, (d.l.getD i pl0).st = st := ⟨_, rfl⟩
      rw [hst] at q4 HE
      subst eA
      clear hix e1 hii hn hbl hc hst
      cases st with
      | true =>
        have HE2 := Lib.hid (show learnD d v m p now = (d, 0) from HE.out.trans (if_pos rfl))
        go_wp2_with fail
        go_ret
        rw [HE2.out]
        exact ⟨rfl, HH.out.1.same HB1.out⟩
      | false =>
        have HE2 := Lib.hid (show learnD d v m p now = putD d ⟨v, m, p, now, false⟩ from HE.out.trans (if_neg (fun c => nomatch c)))
        go_wp2_with fail
        refine HP.out.mono ?_
        rintro e w2 ⟨rfl, h2⟩
        have HR := Lib.hid (after_same HB1.out HB.out.1 HB.out.2 h2)
        clear h2 g0 q4
        go_wp2_with fail
        go_ret
        rw [HE2.out]
        exact ⟨rfl, HR.out⟩
  · rw [decide_eq_false hf] at HG
    have HH := Lib.hid h
    have HE := Lib.hid (learn_bad (d := d) (now := now) hf)
    clear h hl hf
    go_enter Try.func19, Try.ntmps19
    go_wp2_with fail
    refine HG.out.mono ?_
    rintro e w1 ⟨rfl, rfl⟩
    go_wp2_with fail
    go_ret
    rw [HE.out]
    exact ⟨rfl, HH.out.same (Below.refl _ _)⟩
set_option maxHeartbeats 4000000 in
theorem dfix_any {w : World} {B g c : Nat} {F : Nat → Prop} {d : Dt} {A : Option Addr} (h : DtAt w B F g d A c) (hl : d.l.length ≤ 1000) (v m p : Int) :
    Calls Try.prog 20 #[.pointer (some ⟨g, 0, none⟩), .int .i64 v, .int .i64 m, .int .i64 p] w fun e w' => e = .returned (.int .i64 (fixD d v m p).2) ∧ Touch F w w' ∧ ∃ A' c', DtAt w' B (grow F w w') g (fixD d v m p).1 A' c' := by
  have HG := Lib.hid (dgood_any v m p w)
  by_cases hf : fineP v m p
  · rw [decide_eq_true hf] at HG
    have HP := Lib.hid (dput_any h hl ⟨v, m, p, 0, true⟩)
    have HE := Lib.hid (show fixD d v m p = putD d ⟨v, m, p, 0, true⟩ from if_pos hf)
    clear h hl hf
    go_enter Try.func20, Try.ntmps20
    go_wp2_with fail
    refine HG.out.mono ?_
    rintro e w1 ⟨rfl, rfl⟩
    go_wp2_with fail
    refine HP.out.mono ?_
    rintro e w2 ⟨rfl, h2⟩
    have HR := Lib.hid h2
    clear h2
    go_wp2_with fail
    go_ret
    rw [HE.out]
    exact ⟨rfl, HR.out⟩
  · rw [decide_eq_false hf] at HG
    have HH := Lib.hid h
    have HE := Lib.hid (show fixD d v m p = (d, 1) from if_neg hf)
    clear h hl hf
    go_enter Try.func20, Try.ntmps20
    go_wp2_with fail
    refine HG.out.mono ?_
    rintro e w1 ⟨rfl, rfl⟩
    go_wp2_with fail
    go_ret
    rw [HE.out]
    exact ⟨rfl, HH.out.same (Below.refl _ _)⟩
set_option maxHeartbeats 4000000 in
theorem ddrop_any {w : World} {B g c : Nat} {F : Nat → Prop} {d : Dt} {A : Option Addr} (h : DtAt w B F g d A c) (hl : d.l.length ≤ 1000) (v m : Int) :
    Calls Try.prog 21 #[.pointer (some ⟨g, 0, none⟩), .int .i64 v, .int .i64 m] w fun e w' => e = .returned (.int .i64 (dropD d v m).2) ∧ Touch F w w' ∧ ∃ A' c', DtAt w' B (grow F w w') g (dropD d v m).1 A' c' := by
  have HAT := Lib.hid (dat_any h (by omega) v m)
  have HH := Lib.hid (And.intro h hl)
  clear h hl
  go_enter Try.func21, Try.ntmps21
  go_wp2_with fail
  refine HAT.out.mono ?_
  rintro e w1 ⟨rfl, b1⟩
  have HB1 := Lib.hid b1
  have HH1 := Lib.hid (HH.out.1.below b1)
  clear b1
  cases hix : ixP v m d.l with
  | none =>
    have e1 : ixI v m d.l = -1 := by unfold ixI; rw [hix]
    have HE := Lib.hid (show dropD d v m = (d, 5) from by unfold dropD; rw [hix])
    rw [e1]
    clear hix e1
    go_wp2_with fail
    go_ret
    rw [HE.out]
    exact ⟨rfl, HH.out.1.same HB1.out⟩
  | some i =>
    have hii := (ixP_some hix).1
    have e1 : ixI v m d.l = i := by unfold ixI; rw [hix]
    have HE := Lib.hid (show dropD d v m = (⟨rmP d.l i, d.f⟩, 0) from by unfold dropD; rw [hix])
    have HW := Lib.hid (dwo_any HH1.out (by have := HH.out.2; omega) i hii)
    rw [e1]
    have i0 : (0 : Int) ≤ i := by omega
    obtain ⟨rn, hrn⟩ : ∃ rn, (rmP d.l i).length = rn := ⟨_, rfl⟩
    rw [hrn] at HW
    have HRN := Lib.hid hrn
    clear hix e1 hii hrn
    go_wp2_with fail
    refine HW.out.mono ?_
    rintro e w6 ⟨A6, c6, rfl, o6, b6⟩
    have hb6 := HB1.out.trans (b6.mono HB1.out.size)
    have hk6 := HH.out.1.blk.below hb6 (HH.out.1.lo g HH.out.1.fg).2
    have g6 := hk6.cell 0
    have f6 := hk6.frozen 0
    have HF := Lib.hid (put_fin HH.out.1 (below_touch hb6 F) hk6 (World.ownsRow.mono o6 HB1.out.size) (n := rn) HRN.out)
    clear b6 hb6 hk6 o6
    go_wp2_with fail
    go_ret
    rw [HE.out]
    exact ⟨rfl, HF.out.2, A6, c6, HF.out.1⟩
end Go.Proofs.Ytocahiifeckogaa
