/- Good and Bytes answer what the document says, of all messages; what has bytes is read from them, with nothing wrong. No condition. -/
import Derived.Test.YtoigapanhbmjlaaFrame
import Derived.Test.YtoigapanhbmjlaaMPdu
import Derived.Test.YtoigapanhbmjlaaMrAll
namespace Go.Proofs.Ytoigapanhbmjlaa
open Go.RowKit Go.ChangeShapes Go.WideShapes

set_option maxRecDepth 100000 in
set_option maxHeartbeats 8000000 in
theorem walkMrpduBytes (A A' : Option Addr) (c c' : Nat) (m : Msg) (w : World) (hA : IntsAt w w.heap.size A m.all) (hA' : WordsAt w w.heap.size A' m.ws) (hc : m.ws.length ≤ c') :
    Calls Try.prog 3 #[.agg #[.slice A m.all.length c, .slice A' m.ws.length c']] w fun e w' => e = .returned (.bool true) ∧ Below w.heap.size w w' := by
  have z0 := Blk.new w 25 #[.slice A m.all.length c, .slice A' m.ws.length c']
  have bel := bel_alloc w (.cells #[.slice A m.all.length c, .slice A' m.ws.length c'] 25)
  obtain ⟨a, ha⟩ : ∃ a, m.all.length = a := ⟨_, rfl⟩
  obtain ⟨b, hb⟩ : ∃ a, m.ws.length = a := ⟨_, rfl⟩
  rw [ha, hb] at z0 bel
  rw [ha, hb]
  obtain ⟨g1, hg1⟩ : ∃ g, greatB a b = g := ⟨_, rfl⟩
  have HGR : ∀ w, Calls Try.prog 10 #[.agg #[.slice A a c, .slice A' b c']] w fun e w' => e = .returned (.bool g1) ∧ Below w.heap.size w w' := fun w => by rw [← hg1]; exact great_any _ _ _ _ _ _ _
  cases g1 with
  | true =>
    clear hA hA' hc
    go_enter Try.func3, Try.ntmps3
    go_wp2_with fail
    refine (alive_any _).mono ?_
    rintro e u1 ⟨rfl, bb⟩
    replace z0 := z0.below bb z0.lt
    replace bel := bel.trans (bb.mono bel.size)
    clear bb
    have q0 : u1.cell? ⟨w.heap.size, 0, none⟩ = some (.slice A a c) := z0.cell 0
    have q1 : u1.cell? ⟨w.heap.size, 1, none⟩ = some (.slice A' b c') := z0.cell 1
    go_wp2_with fail
    refine (HGR _).mono ?_
    rintro e u2 ⟨rfl, bb⟩
    clear q0 q1
    replace z0 := z0.below bb z0.lt
    replace bel := bel.trans (bb.mono bel.size)
    clear bb
    go_wp2_with fail
    go_ret
    exact ⟨rfl, bel⟩
  | false =>
    simp only [greatB, decide_eq_false_iff_not] at hg1
    have hGd := fun (w3 : World) (b3 : Below w.heap.size w w3) => goodr_all A A' c c' m.all m.ws w.heap.size w3 b3.size (by omega) (by omega) (hA.below b3) (hA'.below b3)
    have hGp := fun (w3 : World) (b3 : Below w.heap.size w w3) => good_all A A' c c' m.all m.ws w.heap.size w3 b3.size (by omega) (by omega) (hA.below b3) (hA'.below b3)
    by_cases hgood : m.Good
    · rw [show Msg.goodB ⟨m.all, m.ws⟩ = true from decide_eq_true hgood] at hGd hGp
      have hRB := fun (w3 : World) (b3 : Below w.heap.size w w3) => rbytes_any A A' c c' m w.heap.size w3 b3.size (by omega) (by omega) (hA.below b3) (hA'.below b3) hgood
      have hMB := fun (w3 : World) (b3 : Below w.heap.size w w3) => mbytes_good A A' c c' m w.heap.size w3 b3.size (by omega) (by omega) (hA.below b3) (hA'.below b3) hc hgood
      obtain ⟨S, hS⟩ : ∃ S, str m.bytes = S := ⟨_, rfl⟩
      by_cases h4 : 400 < m.bytes.length
      · have d4 : decide ((400 : Int) < (S.size : Int)) = true := by rw [← hS, str_size]; exact decide_eq_true (by omega)
        have d4' : decide (400 < S.size) = true := by rw [← hS, str_size]; exact decide_eq_true (by omega)
        rw [if_pos h4] at hMB
        rw [hS] at hRB
        rw [ha, hb] at hGd hGp hRB hMB
        have HGD := Lib.hid hGd
        have HGP := Lib.hid hGp
        have HRB := Lib.hid hRB
        have HMB := Lib.hid hMB
        clear hGd hGp hRB hMB hA hA' hc ha hb hg1 h4 hS hgood
        go_enter Try.func3, Try.ntmps3
        go_wp2_with fail
        refine (alive_any _).mono ?_
        rintro e u1 ⟨rfl, bb⟩
        replace z0 := z0.below bb z0.lt
        replace bel := bel.trans (bb.mono bel.size)
        clear bb
        have q0 : u1.cell? ⟨w.heap.size, 0, none⟩ = some (.slice A a c) := z0.cell 0
        have q1 : u1.cell? ⟨w.heap.size, 1, none⟩ = some (.slice A' b c') := z0.cell 1
        go_wp2_with fail
        refine (HGR _).mono ?_
        rintro e u2 ⟨rfl, bb⟩
        clear q0 q1
        replace z0 := z0.below bb z0.lt
        replace bel := bel.trans (bb.mono bel.size)
        clear bb
        have q0 : u2.cell? ⟨w.heap.size, 0, none⟩ = some (.slice A a c) := z0.cell 0
        have q1 : u2.cell? ⟨w.heap.size, 1, none⟩ = some (.slice A' b c') := z0.cell 1
        go_wp2_with fail
        refine (HGD.out _ bel).mono ?_
        rintro e u3 ⟨rfl, bb⟩
        clear q0 q1
        replace z0 := z0.below bb z0.lt
        replace bel := bel.trans (bb.mono bel.size)
        clear bb
        have q0 : u3.cell? ⟨w.heap.size, 0, none⟩ = some (.slice A a c) := z0.cell 0
        have q1 : u3.cell? ⟨w.heap.size, 1, none⟩ = some (.slice A' b c') := z0.cell 1
        go_wp2_with fail
        refine (HMB.out _ bel).mono ?_
        rintro e u4 ⟨rfl, bb⟩
        clear q0 q1
        replace z0 := z0.below bb z0.lt
        replace bel := bel.trans (bb.mono bel.size)
        clear bb
        have q0 : u4.cell? ⟨w.heap.size, 0, none⟩ = some (.slice A a c) := z0.cell 0
        have q1 : u4.cell? ⟨w.heap.size, 1, none⟩ = some (.slice A' b c') := z0.cell 1
        go_wp2_with fail
        refine (HGP.out _ bel).mono ?_
        rintro e u5 ⟨rfl, bb⟩
        clear q0 q1
        replace z0 := z0.below bb z0.lt
        replace bel := bel.trans (bb.mono bel.size)
        clear bb
        have q0 : u5.cell? ⟨w.heap.size, 0, none⟩ = some (.slice A a c) := z0.cell 0
        have q1 : u5.cell? ⟨w.heap.size, 1, none⟩ = some (.slice A' b c') := z0.cell 1
        go_wp2_with fail
        refine (HRB.out _ bel).mono ?_
        rintro e u6 ⟨rfl, bb⟩
        clear q0 q1
        replace z0 := z0.below bb z0.lt
        replace bel := bel.trans (bb.mono bel.size)
        clear bb
        go_wp2_with fail
        go_ret
        exact ⟨rfl, bel⟩
      · have d4 : decide ((400 : Int) < (S.size : Int)) = false := by rw [← hS, str_size]; exact decide_eq_false (by omega)
        have d4' : decide (400 < S.size) = false := by rw [← hS, str_size]; exact decide_eq_false (by omega)
        obtain ⟨t, ht, hmt⟩ := bytes_read hgood []
        rw [List.append_nil] at ht
        have hRD := read_known (str m.bytes) t m false (by rw [str_size]; omega) (by rw [str_list]; exact ht) (by rw [hmt]; rfl)
        have hSM := fun (w3 : World) (b3 : Below w.heap.size w w3) (Q Q' : Option Addr) (q q' : Nat) (hQ : IntsAt w3 w3.heap.size Q m.all) (hQ' : WordsAt w3 w3.heap.size Q' m.ws) => sameM_any Q A Q' A' q c q' c' m.all m.all m.ws m.ws w3.heap.size w3 (by omega) (by omega) hQ ((hA.below b3).more b3.size) hQ' ((hA'.below b3).more b3.size)
        rw [same_refl] at hSM
        rw [if_neg h4] at hMB
        rw [hS] at hRB hMB hRD
        rw [ha, hb] at hGd hGp hRB hMB hSM hRD
        have HGD := Lib.hid hGd
        have HGP := Lib.hid hGp
        have HRB := Lib.hid hRB
        have HMB := Lib.hid hMB
        have HSM := Lib.hid hSM
        have HRD := Lib.hid hRD
        clear hGd hGp hRB hMB hSM hRD hA hA' hc ha hb hg1 h4 hS hgood ht hmt
        go_enter Try.func3, Try.ntmps3
        go_wp2_with fail
        refine (alive_any _).mono ?_
        rintro e u1 ⟨rfl, bb⟩
        replace z0 := z0.below bb z0.lt
        replace bel := bel.trans (bb.mono bel.size)
        clear bb
        have q0 : u1.cell? ⟨w.heap.size, 0, none⟩ = some (.slice A a c) := z0.cell 0
        have q1 : u1.cell? ⟨w.heap.size, 1, none⟩ = some (.slice A' b c') := z0.cell 1
        go_wp2_with fail
        refine (HGR _).mono ?_
        rintro e u2 ⟨rfl, bb⟩
        clear q0 q1
        replace z0 := z0.below bb z0.lt
        replace bel := bel.trans (bb.mono bel.size)
        clear bb
        have q0 : u2.cell? ⟨w.heap.size, 0, none⟩ = some (.slice A a c) := z0.cell 0
        have q1 : u2.cell? ⟨w.heap.size, 1, none⟩ = some (.slice A' b c') := z0.cell 1
        go_wp2_with fail
        refine (HGD.out _ bel).mono ?_
        rintro e u3 ⟨rfl, bb⟩
        clear q0 q1
        replace z0 := z0.below bb z0.lt
        replace bel := bel.trans (bb.mono bel.size)
        clear bb
        have q0 : u3.cell? ⟨w.heap.size, 0, none⟩ = some (.slice A a c) := z0.cell 0
        have q1 : u3.cell? ⟨w.heap.size, 1, none⟩ = some (.slice A' b c') := z0.cell 1
        go_wp2_with fail
        refine (HMB.out _ bel).mono ?_
        rintro e u4 ⟨rfl, bb⟩
        clear q0 q1
        replace z0 := z0.below bb z0.lt
        replace bel := bel.trans (bb.mono bel.size)
        clear bb
        have q0 : u4.cell? ⟨w.heap.size, 0, none⟩ = some (.slice A a c) := z0.cell 0
        have q1 : u4.cell? ⟨w.heap.size, 1, none⟩ = some (.slice A' b c') := z0.cell 1
        go_wp2_with fail
        refine (HGP.out _ bel).mono ?_
        rintro e u5 ⟨rfl, bb⟩
        clear q0 q1
        replace z0 := z0.below bb z0.lt
        replace bel := bel.trans (bb.mono bel.size)
        clear bb
        have q0 : u5.cell? ⟨w.heap.size, 0, none⟩ = some (.slice A a c) := z0.cell 0
        have q1 : u5.cell? ⟨w.heap.size, 1, none⟩ = some (.slice A' b c') := z0.cell 1
        go_wp2_with fail
        refine (HRB.out _ bel).mono ?_
        rintro e u6 ⟨rfl, bb⟩
        clear q0 q1
        replace z0 := z0.below bb z0.lt
        replace bel := bel.trans (bb.mono bel.size)
        clear bb
        have q0 : u6.cell? ⟨w.heap.size, 0, none⟩ = some (.slice A a c) := z0.cell 0
        have q1 : u6.cell? ⟨w.heap.size, 1, none⟩ = some (.slice A' b c') := z0.cell 1
        go_wp2_with fail
        refine (HRD.out _).mono ?_
        rintro e u7 ⟨⟨Q, Q', q, q', rfl, hQ, hQ'⟩, bb⟩
        clear q0 q1
        replace z0 := z0.below bb z0.lt
        replace bel := bel.trans (bb.mono bel.size)
        clear bb
        have hb6 := bel_alloc u7 (.cells #[.slice Q a q, .slice Q' b q'] 25)
        replace z0 := z0.alloc (.cells #[.slice Q a q, .slice Q' b q'] 25)
        replace bel := bel.alloc bel.size (.cells #[.slice Q a q, .slice Q' b q'] 25)
        have HQ := Lib.hid ((hQ.below hb6).more hb6.size)
        have HQ' := Lib.hid ((hQ'.below hb6).more hb6.size)
        clear hb6 hQ hQ'
        have q0 : (u7.alloc (.cells #[.slice Q a q, .slice Q' b q'] 25)).cell? ⟨w.heap.size, 0, none⟩ = some (.slice A a c) := z0.cell 0
        have q1 : (u7.alloc (.cells #[.slice Q a q, .slice Q' b q'] 25)).cell? ⟨w.heap.size, 1, none⟩ = some (.slice A' b c') := z0.cell 1
        go_wp2_with fail
        refine (HSM.out _ bel Q Q' q q' HQ.out HQ'.out).mono ?_
        rintro e u9 ⟨rfl, nq, rfl⟩
        clear q0 q1
        go_wp2_with fail
        go_ret
        exact ⟨rfl, bel_drewN bel nq⟩
    · rw [show Msg.goodB ⟨m.all, m.ws⟩ = false from decide_eq_false hgood] at hGd hGp
      have hMB := fun (w3 : World) (b3 : Below w.heap.size w w3) => mbytes_bad A A' c c' m w.heap.size w3 b3.size (by omega) (by omega) (hA.below b3) (hA'.below b3) hgood
      rw [ha, hb] at hGd hGp hMB
      have HGD := Lib.hid hGd
      have HGP := Lib.hid hGp
      have HMB := Lib.hid hMB
      clear hGd hGp hMB hA hA' hc ha hb hg1 hgood
      go_enter Try.func3, Try.ntmps3
      go_wp2_with fail
      refine (alive_any _).mono ?_
      rintro e u1 ⟨rfl, bb⟩
      replace z0 := z0.below bb z0.lt
      replace bel := bel.trans (bb.mono bel.size)
      clear bb
      have q0 : u1.cell? ⟨w.heap.size, 0, none⟩ = some (.slice A a c) := z0.cell 0
      have q1 : u1.cell? ⟨w.heap.size, 1, none⟩ = some (.slice A' b c') := z0.cell 1
      go_wp2_with fail
      refine (HGR _).mono ?_
      rintro e u2 ⟨rfl, bb⟩
      clear q0 q1
      replace z0 := z0.below bb z0.lt
      replace bel := bel.trans (bb.mono bel.size)
      clear bb
      have q0 : u2.cell? ⟨w.heap.size, 0, none⟩ = some (.slice A a c) := z0.cell 0
      have q1 : u2.cell? ⟨w.heap.size, 1, none⟩ = some (.slice A' b c') := z0.cell 1
      go_wp2_with fail
      refine (HGD.out _ bel).mono ?_
      rintro e u3 ⟨rfl, bb⟩
      clear q0 q1
      replace z0 := z0.below bb z0.lt
      replace bel := bel.trans (bb.mono bel.size)
      clear bb
      have q0 : u3.cell? ⟨w.heap.size, 0, none⟩ = some (.slice A a c) := z0.cell 0
      have q1 : u3.cell? ⟨w.heap.size, 1, none⟩ = some (.slice A' b c') := z0.cell 1
      go_wp2_with fail
      refine (HMB.out _ bel).mono ?_
      rintro e u4 ⟨rfl, bb⟩
      clear q0 q1
      replace z0 := z0.below bb z0.lt
      replace bel := bel.trans (bb.mono bel.size)
      clear bb
      have q0 : u4.cell? ⟨w.heap.size, 0, none⟩ = some (.slice A a c) := z0.cell 0
      have q1 : u4.cell? ⟨w.heap.size, 1, none⟩ = some (.slice A' b c') := z0.cell 1
      go_wp2_with fail
      refine (HGP.out _ bel).mono ?_
      rintro e u5 ⟨rfl, bb⟩
      clear q0 q1
      replace z0 := z0.below bb z0.lt
      replace bel := bel.trans (bb.mono bel.size)
      clear bb
      go_wp2_with fail
      go_ret
      exact ⟨rfl, bel⟩
set_option maxRecDepth 100000 in
theorem liftedMrpduBytes (os : Os) (started : os.Started) (H : Type) (enc : TypeId × Value → H) :
    ReturnsInHanded {} Try.checked os 3 .any (Rows.mrpduBytesSpec.pre6 enc Try.prog Try.f3 Rows.mrpduBytesRow.domain false) (Rows.mrpduBytesSpec.post enc Try.prog Try.f3 false true false false) := by
  refine returnsInHanded_of_change (C := Try.checked) own started (by kernel_rfl) Try.func3
    (ChangeSpec.witness6 (enc := enc) (C := Try.checked) false ⟨#[], #[.agg #[.slice none 0 0, .slice none 0 0]], []⟩ 8 (by kernel_rfl) (by kernel_rfl) (by kernel_rfl) (by kernel_rfl)) ?_
  intro W base args ds gs before hval0 hW hcnd _
  have hval : ∀ (j : Nat) t v, Try.f3.params[j]? = some t → args[j]? = some v → Value.okWide Try.prog W .any base t v := hval0
  have hW' := hW
  obtain ⟨p, q, hA0, hV, rfl, hfz, hnd⟩ := hW
  have hA : DataW.TrodAll enc Try.prog W 0 (fun _ => true) true Try.f3.params.toList args.toList ds p := hA0
  rw [Try.params3] at hA hval
  obtain ⟨v0, vs0, d0, ds0, p0, q0, hargs, rfl, rfl, h0, r0⟩ := trodAll_cons hA
  obtain ⟨rfl, rfl, rfl⟩ := trodAll_nil r0
  obtain rfl : args = #[v0] := by cases args; simp_all
  obtain ⟨rfl, rfl⟩ := trodVars_none hV
  have k0 := h0
  have lt0 : ∀ x ∈ p0, x.block < W.heap.size := by obtain ⟨m, hm⟩ := k0; exact DataW.trod_lt m _ _ _ hm
  obtain ⟨A0, A0', c0, c0', m0, rfl, w0, w0', w0''⟩ := open_pdu (hval 0 25 v0 rfl rfl) h0
  clear hA0 hval0
  refine (walkMrpduBytes A0 A0' c0 c0' m0 W w0 w0' w0'').mono fun e W' ⟨he, bel⟩ => ?_
  subst he
  exact ⟨_, rfl, _, _, _, [], _, [], hW', trodAll_mk1 (shut_bool Try.underlying4 _), (trodAll_cons_mk (Below.trod laidOut (by kernel_rfl) (of_decide_eq_true (by kernel_rfl)) k0 bel lt0) trodAll_mk0), rfl, bel.frame _, fun h => by cases h⟩

theorem overMrpduBytes : Rows.mrpduBytesRow.holds Try.pinned (OpenSpec.ofChange Rows.mrpduBytesSpec) :=
  OpenClaim.holds_of_wide 3 Try.f3 rfl rfl rfl rfl rfl rfl rfl ⟨rfl, rfl, rfl, rfl, rfl⟩ rfl rfl rfl rfl rfl (by kernel_rfl) Try.func3 (by kernel_rfl)
    (of_decide_eq_true (by kernel_rfl)) (by unfold Func.isWrapper; first | (rw [if_pos (by decide +kernel)]; kernel_rfl) | (rw [if_neg (by decide +kernel)]; exact ⟨rfl, rfl⟩))
    (fun os started H enc _ => liftedMrpduBytes os started H enc)

/-- The statement. -/
theorem mrpduBytes_holds : Rows.MrpduBytesSaid := overMrpduBytes

#print axioms mrpduBytes_holds
end Go.Proofs.Ytoigapanhbmjlaa
