/- What is read of any bytes can be; with nothing wrong its bytes say the same; bytes whose first isn't 0 are refused. No condition. -/
import Derived.Test.YtipieipeidedhaaFrame
import Derived.Test.YtipieipeidedhaaMrPutM
import Derived.Test.YtipieipeidedhaaMrAlive
import Derived.Test.YtipieipeidedhaaMrGoodR
import Derived.Test.YtipieipeidedhaaMrSame
namespace Go.Proofs.Ytipieipeidedhaa
open Go.RowKit Go.ChangeShapes Go.WideShapes
open Go.ChangeMaps (open_string shut_string)

theorem sameM_self (m : Msg) : sameM m.all m.all m.ws m.ws = true := sameM_yes rfl (by simp [sameB]) (fun k hk => ⟨rfl, rfl, rfl, rfl⟩)
theorem first_byte {s : ByteArray} {a : UInt8} {t : List UInt8} (h : s.data.toList = a :: t) : ∃ h0 : 0 < s.size, s[0]'h0 = a := by
  have hlen : s.data.toList.length = t.length + 1 := by rw [h]; rfl
  have hs : s.data.toList.length = s.size := Array.length_toList
  have h0 : 0 < s.size := by omega
  refine ⟨h0, ?_⟩
  have h1 : s.data.toList[0]? = some a := by rw [h]; rfl
  have h2 : s.data.toList[0]? = some s[0] := by
    rw [List.getElem?_eq_getElem (by omega)]
    rfl
  rw [h1] at h2
  injection h2 with h2
  exact h2.symm
set_option maxHeartbeats 4000000 in
theorem walkMrpduReads (s : ByteArray) (w : World) (_hs : s.size ≤ maxLen) :
    Calls Try.prog 5 #[.string s] w fun e w' => e = .returned (.bool true) ∧ Below w.heap.size w w' := by
  by_cases h6 : 600 < s.size
  · go_enter Try.func5, Try.ntmps5
    go_wp2_with fail
    refine (alive_any _).mono ?_
    rintro e w1 ⟨rfl, b1⟩
    go_wp2_with fail
    go_ret
    exact ⟨rfl, b1⟩
  have HR := Lib.hid (fun w => readm_all s w (by omega))
  go_enter Try.func5, Try.ntmps5
  go_wp2_with fail
  refine (alive_any _).mono ?_
  rintro e w1 ⟨rfl, b1⟩
  go_wp2_with fail
  refine (HR.out _).mono ?_
  rintro e w2 ⟨hend, b2⟩
  have bel := b1.trans (b2.mono b1.size)
  clear b1 b2
  rcases hend with ⟨hodd, rfl⟩ | ⟨t, A, A', c, c', hl, rfl, hA, hA', hc, hc', hn, hn'⟩
  · rcases hodd with h0 | ⟨a, t, hat, ha⟩
    · obtain rfl : s = ⟨#[]⟩ := ByteArray.ext (Array.ext' h0)
      go_wp2_with fail
      go_ret
      exact ⟨rfl, bel.alloc bel.size _⟩
    · obtain ⟨hs0, hbyte⟩ := first_byte hat
      have d0 : ((s.size : Int) == 0) = false := by rw [beq_eq_false_iff_ne]; omega
      have d1 : (((s[0]'hs0).toNat : Int) != 0) = true := by
        have : (s[0]'hs0).toNat ≠ 0 := by rw [hbyte]; intro e; exact ha (UInt8.toNat_inj.1 e)
        simp; omega
      clear hat ha hbyte
      go_wp2_with fail
      go_ret
      exact ⟨rfl, bel.alloc bel.size _⟩
  · obtain ⟨hs0, hbyte⟩ := first_byte hl
    have d0 : ((s.size : Int) == 0) = false := by rw [beq_eq_false_iff_ne]; omega
    have d1 : (((s[0]'hs0).toNat : Int) != 0) = false := by rw [hbyte]; rfl
    have hgood := msg_good good_none t
    obtain ⟨m, hm⟩ : ∃ m, (msgLoop Msg.none t).1 = m := ⟨_, rfl⟩
    obtain ⟨bad, hbad⟩ : ∃ b, (msgLoop Msg.none t).2 = b := ⟨_, rfl⟩
    rw [hm] at hgood hA hA' hc hc' hn hn'
    rw [hm, hbad]
    clear hm hbad hl hbyte HR
    have hbx := Blk.new w2 25 #[.slice A m.all.length c, .slice A' m.ws.length c']
    have hbl := bel_alloc w2 (.cells #[.slice A m.all.length c, .slice A' m.ws.length c'] 25)
    have hbel := bel.alloc bel.size (.cells #[.slice A m.all.length c, .slice A' m.ws.length c'] 25)
    have hG := goodr_all A A' c c' m.all m.ws w2.heap.size (w2.alloc (.cells #[.slice A m.all.length c, .slice A' m.ws.length c'] 25)) hbl.size (by omega) (by omega) (hA.below hbl) (hA'.below hbl)
    rw [show Msg.goodB ⟨m.all, m.ws⟩ = true from decide_eq_true hgood] at hG
    have HG := Lib.hid hG
    have HBY : Hid (∀ w3, Below w2.heap.size w2 w3 → _) := Lib.hid (fun w3 (hb : Below w2.heap.size w2 w3) => mbytes_good A A' c c' m w2.heap.size w3 hb.size hn hn' (hA.below hb) (hA'.below hb) hc' hgood)
    have HRD := Lib.hid (fun (h4 : ¬ 400 < m.bytes.length) (w : World) => readm_all (str m.bytes) w (by rw [str_size]; omega))
    have HGD := Lib.hid hgood
    have HA := Lib.hid hA
    have HA' := Lib.hid hA'
    have HN := Lib.hid hn
    have HN' := Lib.hid hn'
    clear hG hgood hA hA' hn hn' hc hc'
    obtain ⟨a, ha⟩ : ∃ a, m.all.length = a := ⟨_, rfl⟩
    obtain ⟨b, hb⟩ : ∃ a, m.ws.length = a := ⟨_, rfl⟩
    rw [ha, hb] at HG HBY hbx hbl hbel
    rw [ha, hb]
    have HAA := Lib.hid ha
    have HBB := Lib.hid hb
    clear ha hb
    go_wp2_with fail
    refine HG.out.mono ?_
    rintro e w3 ⟨rfl, b3⟩
    have hbx3 := hbx.below b3 hbx.lt
    have hbl3 := hbl.trans (b3.mono hbl.size)
    have hbel3 := hbel.trans (b3.mono hbel.size)
    have k0 : w3.cell? ⟨w2.heap.size, 0, none⟩ = some (.slice A a c) := hbx3.cell 0
    have k1 : w3.cell? ⟨w2.heap.size, 1, none⟩ = some (.slice A' b c') := hbx3.cell 1
    clear hbx hbl hbel b3 HG
    go_wp2_with fail
    refine (HBY.out w3 hbl3).mono ?_
    rintro e w4 ⟨rfl, b4⟩
    have hbx4 := hbx3.below b4 hbx3.lt
    have hbl4 := hbl3.trans (b4.mono hbl3.size)
    have hbel4 := hbel3.trans (b4.mono hbel3.size)
    clear hbx3 hbl3 hbel3 b4 HBY k0 k1
    by_cases h4 : 400 < m.bytes.length
    · rw [if_pos h4]
      go_wp2_with fail
      all_goals
        go_ret
        exact ⟨rfl, hbel4⟩
    · rw [if_neg h4]
      have hread := HRD.out h4
      rw [str_list] at hread
      obtain ⟨S, hS⟩ : ∃ S, str m.bytes = S := ⟨_, rfl⟩
      rw [hS] at hread
      rw [hS]
      have HRE := Lib.hid hread
      clear h4 hread hS HRD
      cases bad with
      | true =>
        go_wp2_with fail
        go_ret
        exact ⟨rfl, hbel4⟩
      | false =>
        go_wp2_with fail
        refine (HRE.out _).mono ?_
        rintro e w5 ⟨hend, b5⟩
        have hbx5 := hbx4.below b5 hbx4.lt
        have hbl5 := hbl4.trans (b5.mono hbl4.size)
        have hbel5 := hbel4.trans (b5.mono hbel4.size)
        clear hbx4 hbl4 hbel4 b5 HRE
        obtain ⟨t2, ht2, hmsg⟩ := bytes_read HGD.out []
        rw [List.append_nil] at ht2
        rcases hend with ⟨hodd, _⟩ | ⟨t3, Q, Q', q, q', hl3, rfl, hQ, hQ', _⟩
        · exfalso
          rcases hodd with h0 | ⟨x, y, hxy, hx⟩
          · rw [h0] at ht2; cases ht2
          · rw [ht2] at hxy; injection hxy with h1 _; exact hx h1.symm
        · obtain rfl : t2 = t3 := by rw [ht2] at hl3; injection hl3
          have e1 : (msgLoop Msg.none t2).1 = m := by rw [hmsg]
          have e2 : (msgLoop Msg.none t2).2 = false := by rw [hmsg]; rfl
          rw [e1] at hQ hQ'
          rw [e1, e2, HAA.out, HBB.out]
          clear hl3 ht2 hmsg e1 e2
          have hby := hbx5.alloc (.cells #[.slice Q a q, .slice Q' b q'] 25)
          have hbel6 := hbel5.alloc hbel5.size (.cells #[.slice Q a q, .slice Q' b q'] 25)
          have hb6 := bel_alloc w5 (.cells #[.slice Q a q, .slice Q' b q'] 25)
          have k0 : (w5.alloc (.cells #[.slice Q a q, .slice Q' b q'] 25)).cell? ⟨w2.heap.size, 0, none⟩ = some (.slice A a c) := hby.cell 0
          have k1 : (w5.alloc (.cells #[.slice Q a q, .slice Q' b q'] 25)).cell? ⟨w2.heap.size, 1, none⟩ = some (.slice A' b c') := hby.cell 1
          have hsame := sameM_any A Q A' Q' c q c' q' m.all m.all m.ws m.ws w5.heap.size (w5.alloc (.cells #[.slice Q a q, .slice Q' b q'] 25)) (by have := HN.out; omega) (by have := HN'.out; omega) (((HA.out.below hbl5).more hbl5.size).below hb6) (hQ.below hb6) (((HA'.out.below hbl5).more hbl5.size).below hb6) (hQ'.below hb6)
          rw [sameM_self, HAA.out, HBB.out] at hsame
          have HSA := Lib.hid hsame
          clear hsame hby hb6 hbx5 hbl5 hbel5 hQ hQ'
          go_wp2_with fail
          refine HSA.out.mono ?_
          rintro e w7 ⟨rfl, nq, rfl⟩
          go_wp2_with fail
          go_ret
          exact ⟨rfl, bel_drewN hbel6 nq⟩
set_option maxRecDepth 100000 in
theorem liftedMrpduReads (os : Os) (started : os.Started) (H : Type) (enc : TypeId × Value → H) :
    ReturnsInHanded {} Try.checked os 5 .any (Rows.mrpduReadsSpec.pre6 enc Try.prog Try.f5 Rows.mrpduReadsRow.domain false) (Rows.mrpduReadsSpec.post enc Try.prog Try.f5 false true false false) := by
  refine returnsInHanded_of_change (C := Try.checked) own started (by kernel_rfl) Try.func5
    (ChangeSpec.witness6 (enc := enc) (C := Try.checked) false ⟨#[], #[.string ⟨#[]⟩], []⟩ 8 (by kernel_rfl) (by kernel_rfl) (by kernel_rfl) (by kernel_rfl)) ?_
  intro W base args ds gs before hval0 hW hcnd _
  have hval : ∀ (j : Nat) t v, Try.f5.params[j]? = some t → args[j]? = some v → Value.okWide Try.prog W .any base t v := hval0
  have hW' := hW
  obtain ⟨p, q, hA0, hV, rfl, hfz, hnd⟩ := hW
  have hA : DataW.TrodAll enc Try.prog W 0 (fun _ => true) true Try.f5.params.toList args.toList ds p := hA0
  rw [Try.params5] at hA hval
  obtain ⟨v0, vs0, d0, ds0, p0, q0, hargs, rfl, rfl, h0, r0⟩ := trodAll_cons hA
  obtain ⟨rfl, rfl, rfl⟩ := trodAll_nil r0
  obtain rfl : args = #[v0] := by cases args; simp_all
  obtain ⟨rfl, rfl⟩ := trodVars_none hV
  obtain ⟨s0, rfl, rfl, rfl, w0⟩ := open_string Try.underlying9 (hval 0 9 v0 rfl rfl) h0
  clear hA0 hval0
  refine (walkMrpduReads s0 W w0).mono fun e W' ⟨he, bel⟩ => ?_
  subst he
  exact ⟨_, rfl, _, _, _, [], _, [], hW', trodAll_mk1 (shut_bool Try.underlying4 _), (trodAll_cons_mk (shut_string Try.underlying9 w0) trodAll_mk0), rfl, bel.frame _, fun h => by cases h⟩

theorem overMrpduReads : Rows.mrpduReadsRow.holds Try.pinned (OpenSpec.ofChange Rows.mrpduReadsSpec) :=
  OpenClaim.holds_of_wide 5 Try.f5 rfl rfl rfl rfl rfl rfl rfl ⟨rfl, rfl, rfl, rfl, rfl⟩ rfl rfl rfl rfl rfl (by kernel_rfl) Try.func5 (by kernel_rfl)
    (of_decide_eq_true (by kernel_rfl)) (by unfold Func.isWrapper; first | (rw [if_pos (by decide +kernel)]; kernel_rfl) | (rw [if_neg (by decide +kernel)]; exact ⟨rfl, rfl⟩))
    (fun os started H enc _ => liftedMrpduReads os started H enc)

/-- The statement. -/
theorem mrpduReads_holds : Rows.MrpduReadsSaid := overMrpduReads

#print axioms mrpduReads_holds
end Go.Proofs.Ytipieipeidedhaa
