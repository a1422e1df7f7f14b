/- OctetStops: behind a fault nothing is read, and the fault stays where it was. No condition. -/
import Derived.Test.YtpijnbcibmjnpaaParts
import Derived.Deep.SlicePairs
namespace Go.Proofs.Ytpijnbcibmjnpaa
open Go.ChangeShapes Go.WideShapes Go.ChangeAt Go.RowKit
open Go.ChangeMaps (open_string shut_string)

/-- A slice of questions that came in: of each the kind and the number, in cells that lie among the blocks that are there. -/
def IsAsks (w : World) (a : Option Addr) (len : Nat) (ks ns : Nat → Int) : Prop :=
  ∀ i, i < len → ∃ b off, a = some ⟨b, off, none⟩ ∧ b < w.heap.size ∧ w.cell? ⟨b, off + i * 2, none⟩ = some (.int .i64 (ks i)) ∧ w.cell? ⟨b, off + i * 2 + 1, none⟩ = some (.int .i64 (ns i)) ∧ (Lit.int .i64 (ks i)).wf = true ∧ (Lit.int .i64 (ns i)).wf = true

theorem int_of (v : Value) : ∃ n : Int, ∀ m, v = .int .i64 m → n = m := by
  by_cases h : ∃ m, v = .int .i64 m
  · obtain ⟨m, rfl⟩ := h
    exact ⟨m, fun m' h => by injection h⟩
  · exact ⟨0, fun m hm => absurd ⟨m, hm⟩ h⟩

theorem open_asks {H : Type} {enc : TypeId × Value → H} {w : World} {fuel : Nat} {cs : List Value} {x : DataW H × List MemPlace} (h : DataW.trod enc Try.prog w 0 (fun _ => true) true fuel 33 cs = some x) :
    ∃ a len cap ks ns, cs = [.slice a len cap] ∧ IsAsks w a len ks ns := by
  rcases Deep.open_slice_pairs Try.underlying33 Try.underlying40 (by kernel_rfl) rfl rfl (by kernel_rfl) (by kernel_rfl) h with ⟨rfl, _⟩ | ⟨a, len, cap, m, n, V0, V1, D0, D1, P0, P1, rfl, _, hl, hm, hmm, _, hi⟩
  · exact ⟨none, 0, 0, fun _ => 0, fun _ => 0, rfl, fun i hi => absurd hi (Nat.not_lt_zero _)⟩
  · refine ⟨some a, len, cap, fun i => Classical.choose (int_of (V0 i)), fun i => Classical.choose (int_of (V1 i)), rfl, fun i hil => ?_⟩
    have hlm : i < m := by rw [hmm]; simp; omega
    obtain ⟨c0, c1, t0, t1⟩ := hi i hlm
    obtain ⟨n0, e0, _, w0⟩ := DataW.trod_int Try.underlying3 t0
    obtain ⟨n1, e1, _, w1⟩ := DataW.trod_int Try.underlying3 t1
    have e0' : V0 i = .int .i64 n0 := by simpa using e0
    have e1' : V1 i = .int .i64 n1 := by simpa using e1
    have h0 := Classical.choose_spec (int_of (V0 i)) n0 e0'
    have h1 := Classical.choose_spec (int_of (V1 i)) n1 e1'
    obtain ⟨b, off, spot⟩ := a
    have hsp : spot = none := by
      obtain ⟨z0, _⟩ := hi 0 (by omega)
      exact by simpa [Addr.add] using World.cell?_spot z0
    subst hsp
    rw [Addr.add_lit] at c0 c1
    rw [e0'] at c0
    rw [e1'] at c1
    have hb : b < w.heap.size := by
      by_cases hl : b < w.heap.size
      · exact hl
      · unfold World.cell? at c0
        rw [Array.getElem?_eq_none (by show _ ≤ b; omega)] at c0
        cases c0
    refine ⟨b, off, rfl, hb, ?_, ?_, ?_, ?_⟩
    · show _ = some (Value.int .i64 (Classical.choose (int_of (V0 i))))
      rw [h0]; exact c0
    · show _ = some (Value.int .i64 (Classical.choose (int_of (V1 i))))
      rw [h1]; exact c1
    · show (Lit.int .i64 (Classical.choose (int_of (V0 i)))).wf = true
      rw [h0]; exact w0
    · show (Lit.int .i64 (Classical.choose (int_of (V1 i)))).wf = true
      rw [h1]; exact w1

theorem wf_i64 {n : Int} (h : (Lit.int .i64 n).wf = true) : -9223372036854775808 ≤ n ∧ n ≤ 9223372036854775807 := by
  simp [Lit.wf, IntKind.min, IntKind.max, IntKind.signed, IntKind.bits] at h
  omega
theorem bad_text (s : ByteArray) (a : Nat) (n : Int) : (RdS.mk s a true).text n = ⟨#[]⟩ := by simp [RdS.text, RdS.can]
theorem bad_take (s : ByteArray) (a : Nat) (n : Int) : (RdS.mk s a true).take n = ⟨s, a, true⟩ := by simp [RdS.take, RdS.can, RdS.fail]
theorem bad_fail (s : ByteArray) (a : Nat) : (RdS.mk s a true).fail = ⟨s, a, true⟩ := rfl

set_option maxHeartbeats 4000000 in
theorem walkOctetStops (s0 : ByteArray) (a1 : Option Addr) (len1 cap1 : Nat) (ks ns : Nat → Int) (w : World) (_h0 : s0.size ≤ maxLen) (h1 : IsAsks w a1 len1 ks ns) :
    Calls Try.prog 6 #[.string s0, .slice a1 len1 cap1] w fun e w' => e = .returned (.bool true) ∧ Below w.heap.size w w' := by
  by_cases hg : s0.size ≤ 1024 ∧ len1 ≤ 60
  · obtain ⟨g1, g2⟩ := hg
    have d1 : decide ((1024 : Int) < (s0.size : Int)) = false := by simp; omega
    have d2 : decide ((60 : Int) < (len1 : Int)) = false := by simp; omega
    go_enter Try.func6, Try.ntmps6
    go_wp2_with fail
    refine (alive_any _).mono ?_
    rintro e w1 ⟨rfl, b1⟩
    go_wp2_with fail
    refine (open_any _ _).mono ?_
    rintro e w2 ⟨rfl, r2, b2⟩
    have hw2 := b1.trans (b2.mono b1.size)
    have hB : w.heap.size ≤ w1.heap.size := b1.size
    clear b1 b2
    go_wp2_with fail
    refine (raw_any _ _ _ _ r2 ⟨Nat.zero_le _, by show s0.size ≤ _; omega⟩ (by omega)).mono ?_
    rintro e w3 ⟨rfl, r3, t3⟩
    have e3 : (RdS.mk s0 0 false).take ((s0.size : Int) / 2) = ⟨s0, s0.size / 2, false⟩ := by
      have := (read_at s0 0 (s0.size / 2) (by omega)).2
      rw [Nat.zero_add] at this
      exact this
    rw [e3] at r3
    have hw3 := hw2.trans (t3.below hw2.size (by rintro j rfl; exact hB))
    clear r2 hw2 t3 e3
    go_wp2_with fail
    refine (raw_any _ _ _ _ r3 ⟨by show s0.size / 2 ≤ s0.size; omega, by show s0.size ≤ _; omega⟩ (by omega)).mono ?_
    rintro e w4 ⟨rfl, r4, t4⟩
    have e4 : (RdS.mk s0 (s0.size / 2) false).take ((s0.size : Int) + 1) = ⟨s0, s0.size / 2, true⟩ := by
      have hc : (RdS.mk s0 (s0.size / 2) false).can ((s0.size : Int) + 1) = false := by
        simp only [RdS.can, Bool.not_false, Bool.true_and, Bool.and_eq_false_iff, decide_eq_false_iff_not]
        omega
      simp [RdS.take, hc, RdS.fail]
    rw [e4] at r4
    have hw4 := hw3.trans (t4.below hw3.size (by rintro j rfl; exact hB))
    clear r3 hw3 t4 e4
    go_wp2_with fail
    refine (fault_any _ _ _ r4).mono ?_
    rintro e w5 ⟨rfl, rfl⟩
    simp only [ite_true]
    have hhalf : ((s0.size / 2 : Nat) : Int) = (s0.size : Int) / 2 := by omega
    have HH := Lib.hid hhalf
    clear hhalf
    rw [HH.out]
    go_wp2_with fail
    go_loopw [35] (fun i wr => ∃ k : Nat, k ≤ len1 ∧ i = .int .i64 k ∧ IsR wr w1.heap.size ⟨s0, s0.size / 2, true⟩ ∧ Below w.heap.size w wr) (fun i _ => len1 - (intOf i).toNat)
    case atStart => exact ⟨0, Nat.zero_le _, rfl, r4, hw4⟩
    case round =>
      obtain ⟨k, hk, rfl, r5, hw5⟩ := hrel
      clear r4 hw4
      by_cases hlt : k < len1
      · obtain ⟨b, off, rfl, hbl, hc0, hc1, _, hnw⟩ := h1 k hlt
        have hnk := (wf_i64 hnw).2
        have c0 : wr.cell? ⟨b, off + k * 2, none⟩ = some (.int .i64 (ks k)) := (hw5.cell (p := ⟨b, off + k * 2, none⟩) hbl).trans hc0
        have c1 : wr.cell? ⟨b, off + k * 2 + 1, none⟩ = some (.int .i64 (ns k)) := (hw5.cell (p := ⟨b, off + k * 2 + 1, none⟩) hbl).trans hc1
        generalize hks : ks k = kk at *
        generalize hns : ns k = nk at *
        clear hc0 hc1 hks hns
        have hbox := Blk.new wr 40 #[.int .i64 kk, .int .i64 nk]
        have r6 : IsR (wr.alloc (.cells #[.int .i64 kk, .int .i64 nk] 40)) w1.heap.size ⟨s0, s0.size / 2, true⟩ := Blk.alloc r5 _
        have hlt5 : w1.heap.size < wr.heap.size := Blk.lt r5
        have hw6 := hw5.alloc hw5.size (.cells #[.int .i64 kk, .int .i64 nk] 40)
        have hok : (RdS.mk s0 (s0.size / 2) true).ok := ⟨by show s0.size / 2 ≤ s0.size; omega, by show s0.size ≤ _; omega⟩
        go_wp2_with fail
        refine (get_any _ _ _ _ r6 hok).mono ?_
        rintro e w7 ⟨rfl, r7, t7⟩
        rw [bad_text, bad_take] at *
        have hn0 : num (⟨#[]⟩ : ByteArray).data.toList = 0 := rfl
        rw [hn0]
        have hbox7 := hbox.touch t7 (by omega)
        have k1 : w7.cell? ⟨wr.heap.size, 1, none⟩ = some (.int .i64 nk) := hbox7.cell 1
        have hw7 := hw6.trans (t7.below hw6.size (by rintro j rfl; exact hB))
        clear r5 hbox r6 hw6 t7 hw5 c0 c1 hbox7
        go_wp2_with fail
        refine (raw_any _ _ _ _ r7 hok hnk).mono ?_
        rintro e w8 ⟨rfl, r8, t8⟩
        rw [bad_text, bad_take] at *
        have hw8 := hw7.trans (t8.below hw7.size (by rintro j rfl; exact hB))
        clear r7 hw7 t8 k1
        go_wp2_with fail
        refine (fail_any _ _ _ r8).mono ?_
        rintro e w9 ⟨rfl, r9, t9⟩
        rw [bad_fail] at *
        have hw9 := hw8.trans (t9.below hw8.size (by rintro j rfl; exact hB))
        clear r8 hw8 t9
        go_wp2_with fail
        go_roundw
        case rel => exact ⟨k + 1, by omega, by go_num, r9, hw9⟩
        case measure => simp [intOf]; omega
      · obtain rfl : k = len1 := by omega
        have hok : (RdS.mk s0 (s0.size / 2) true).ok := ⟨by show s0.size / 2 ≤ s0.size; omega, by show s0.size ≤ _; omega⟩
        go_wp2_with fail
        refine (fault_any _ _ _ r5).mono ?_
        rintro e w6 ⟨rfl, rfl⟩
        simp only [ite_true]
        rw [HH.out]
        go_wp2_with fail
        refine (left_any _ _ _ r5 hok).mono ?_
        rintro e w7 ⟨rfl, n7, rfl⟩
        have hl0 : (RdS.mk s0 (s0.size / 2) true).left = 0 := by simp [RdS.left]
        rw [hl0]
        go_wp2_with fail
        go_ret
        exact ⟨rfl, bel_drewN hw5 n7⟩
  · by_cases g1 : s0.size ≤ 1024
    · have d1 : decide ((1024 : Int) < (s0.size : Int)) = false := by simp; omega
      have d2 : decide ((60 : Int) < (len1 : Int)) = true := by simp; omega
      go_enter Try.func6, Try.ntmps6
      go_wp2_with fail
      refine (alive_any _).mono ?_
      rintro e w1 ⟨rfl, b1⟩
      go_wp2_with fail
      go_ret
      exact ⟨rfl, b1⟩
    · have d1 : decide ((1024 : Int) < (s0.size : Int)) = true := by simp; omega
      go_enter Try.func6, Try.ntmps6
      go_wp2_with fail
      refine (alive_any _).mono ?_
      rintro e w1 ⟨rfl, b1⟩
      go_wp2_with fail
      go_ret
      exact ⟨rfl, b1⟩
set_option maxRecDepth 100000 in
theorem liftedOctetStops (os : Os) (started : os.Started) (H : Type) (enc : TypeId × Value → H) :
    ReturnsInHanded {} Try.checked os 6 .any (Rows.octetStopsSpec.pre6 enc Try.prog Try.f6 Rows.octetStopsRow.domain false) (Rows.octetStopsSpec.post enc Try.prog Try.f6 false true false false) := by
  refine returnsInHanded_of_change (C := Try.checked) own started (by kernel_rfl) Try.func6
    (ChangeSpec.witness6 (enc := enc) (C := Try.checked) false ⟨#[], #[.string ⟨#[]⟩, .slice none 0 0], []⟩ 8 (by kernel_rfl) (by kernel_rfl) (by kernel_rfl) (by kernel_rfl)) ?_
  intro W base args ds gs before hval0 hW hcnd _
  have hval : ∀ (j : Nat) t v, Try.f6.params[j]? = some t → args[j]? = some v → Value.okWide Try.prog W .any base t v := hval0
  have hW' := hW
  obtain ⟨p, q, hA0, hV, rfl, hfz, hnd⟩ := hW
  have hA : DataW.TrodAll enc Try.prog W 0 (fun _ => true) true Try.f6.params.toList args.toList ds p := hA0
  rw [Try.params6] at hA hval
  obtain ⟨v0, vs0, d0, ds0, p0, q0, hargs, rfl, rfl, h0, r0⟩ := trodAll_cons hA
  obtain ⟨v1, vs1, d1, ds1, p1, q1, rfl, rfl, rfl, h1, r1⟩ := trodAll_cons r0
  obtain ⟨rfl, rfl, rfl⟩ := trodAll_nil r1
  obtain rfl : args = #[v0, v1] := by cases args; simp_all
  obtain ⟨rfl, rfl⟩ := trodVars_none hV
  obtain ⟨s0, rfl, rfl, rfl, w0⟩ := open_string Try.underlying9 (hval 0 9 v0 rfl rfl) h0
  obtain ⟨a1, len1, cap1, rfl⟩ := okWide_slice Try.underlying33 (hval 1 33 v1 rfl rfl)
  have k1 := h1
  have lt1 : ∀ x ∈ p1, x.block < W.heap.size := by obtain ⟨m, hm⟩ := k1; exact DataW.trod_lt m _ _ _ hm
  obtain ⟨ks, ns, w1⟩ : ∃ ks ns, IsAsks W a1 len1 ks ns := by
    obtain ⟨fuel, hf⟩ := h1
    obtain ⟨a, len, cap, ks, ns, hcs, hi⟩ := open_asks hf
    simp [Value.cells] at hcs
    obtain ⟨rfl, rfl, rfl⟩ := hcs
    exact ⟨ks, ns, hi⟩
  clear hA0 hval0
  refine (walkOctetStops s0 a1 len1 cap1 ks ns W w0 w1).mono fun e W' ⟨he, bel⟩ => ?_
  subst he
  exact ⟨_, rfl, _, _, _, [], _, [], hW', trodAll_mk1 (shut_bool Try.underlying4 _), (trodAll_cons_mk (shut_string Try.underlying9 w0) (trodAll_cons_mk (Below.trod laidOut (by kernel_rfl) (of_decide_eq_true (by kernel_rfl)) k1 bel lt1) trodAll_mk0)), rfl, bel.frame _, fun h => by cases h⟩

theorem overOctetStops : Rows.octetStopsRow.holds Try.pinned (OpenSpec.ofChange Rows.octetStopsSpec) :=
  OpenClaim.holds_of_wide 6 Try.f6 rfl rfl rfl rfl rfl rfl rfl ⟨rfl, rfl, rfl, rfl, rfl⟩ rfl rfl rfl rfl rfl (by kernel_rfl) Try.func6 (by kernel_rfl)
    (of_decide_eq_true (by kernel_rfl)) (by unfold Func.isWrapper; first | (rw [if_pos (by decide +kernel)]; kernel_rfl) | (rw [if_neg (by decide +kernel)]; exact ⟨rfl, rfl⟩))
    (fun os started H enc _ => liftedOctetStops os started H enc)

/-- The statement. -/
theorem octetStops_holds : Rows.OctetStopsSaid := overOctetStops
end Go.Proofs.Ytpijnbcibmjnpaa
