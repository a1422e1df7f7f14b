/- CheckStrips: what is sealed is stripped, and check.Strip answers what the document says, of every text of up to 2^11 bytes; of a longer one nothing is asked. Condition: the table check.turns reads as the program's text lays it (the card ties that). -/
import Derived.Test.YtjkldopjiabamaaDoorLaid
import Derived.Test.YtjkldopjiabamaaDoorAliveC
import Derived.Test.YtjkldopjiabamaaDoorTie
import Derived.Test.YtjkldopjiabamaaDoorCards
namespace Go.Proofs.YtjkldopjiabamaaDoor
open Go.ChangeShapes Go.WideShapes Go.ChangeAt Go.RowKit
open Go.ChangeMaps (open_string shut_string)

theorem sealed_size (s : ByteArray) : (str (Crc.sealed s.data.toList)).size = s.size + 2 := by
  rw [str_size, Crc.sealed_length]
  simp
theorem sealed_stripped (s : ByteArray) : str ((str (Crc.sealed s.data.toList)).data.toList.take ((str (Crc.sealed s.data.toList)).size - 2)) = s := by
  have h : (str (Crc.sealed s.data.toList)).size = (Crc.sealed s.data.toList).length := str_size _
  rw [h, str_list, Crc.take_sealed, str_of]

set_option maxHeartbeats 1000000 in
theorem walkCheckStrips (s : ByteArray) (w : World) (ht : Tab w) (_hm : s.size ≤ 140737488351232) :
    Calls Tryd.prog 4 #[.string s] w fun e w' => e = .returned (.bool true) ∧ Below w.heap.size w w' := by
  have hpos := ht.lt
  by_cases hs : s.size ≤ 2048
  · have d1 : decide ((2048 : Int) < (s.size : Int)) = false := by simp; omega
    have hz := sealed_size s
    have h0 : Crc.of (str (Crc.sealed s.data.toList)).data.toList = 0 := by rw [str_list]; exact Crc.sealed_zero _
    have hT := Lib.hid (sealed_stripped s)
    obtain ⟨T, hTd⟩ : ∃ T, Hid (str (Crc.sealed s.data.toList) = T) := ⟨_, Lib.hid rfl⟩
    rw [hTd.out] at hz h0 hT
    have c0 := Lib.hid h0
    clear h0
    go_enter Tryd.func4, Tryd.ntmps4
    go_wp2_with fail
    refine (alive_any _ ht).mono ?_
    rintro e w1 ⟨rfl, rfl⟩
    go_wp2_with fail
    with_reducible refine (ref_seal_any s _ (by omega)).mono ?_
    rw [hTd.out]
    rintro e w2 ⟨rfl, b2⟩
    have ht2 := ht.below b2 hpos
    have hs2 := b2.size
    go_wp2_with fail
    with_reducible refine (strip_good T _ (by omega) (by omega) ht2 c0.out).mono ?_
    rw [hT.out]
    rintro e w3 ⟨rfl, b3⟩
    have ht3 := ht2.below b3 (by omega)
    have hs3 := b3.size
    by_cases hz2 : s.size < 2
    · go_wp2_with fail
      with_reducible refine (strip_short s _ hz2).mono ?_
      rintro e w4 ⟨rfl, b4⟩
      go_wp2
      go_ret
      exact ⟨rfl, b2.trans ((b3.mono hs2).trans (b4.mono (by omega)))⟩
    · have hU := Lib.hid (sealed_head s (by omega))
      have hHl : (str (s.data.toList.take (s.size - 2))).data.toList = s.data.toList.take (s.size - 2) := str_list _
      have hHz : (str (s.data.toList.take (s.size - 2))).size ≤ 1048576 := by rw [str_size, List.length_take]; omega
      have hH := head_str s (s.size - 2)
      obtain ⟨l, hl⟩ : ∃ l, Hid (s.data.toList.take (s.size - 2) = l) := ⟨_, Lib.hid rfl⟩
      rw [hl.out] at hU hHl hHz hH
      obtain ⟨H, hHd⟩ : ∃ H, Hid (str l = H) := ⟨_, Lib.hid rfl⟩
      rw [hHd.out] at hHl hHz hH
      have hHl' := Lib.hid hHl
      clear hHl
      go_wp2_with fail
      with_reducible refine (ref_seal_any H _ hHz).mono ?_
      rw [hHl'.out]
      rintro e w4 ⟨rfl, b4⟩
      have ht4 := ht3.below b4 (by omega)
      have hs4 := b4.size
      by_cases h0 : Crc.of s.data.toList = 0
      · have e0 := Lib.hid (hU.out.2 h0)
        rw [e0.out]
        have h0' := Lib.hid h0
        clear h0
        go_wp2_with fail
        with_reducible refine (strip_good s _ (by omega) (by omega) ht4 h0'.out).mono ?_
        rw [hl.out, hHd.out]
        rintro e w5 ⟨rfl, b5⟩
        go_wp2
        go_ret
        exact ⟨rfl, b2.trans ((b3.mono hs2).trans ((b4.mono (by omega)).trans (b5.mono (by omega))))⟩
      · have e0 := unlike_lists (mt hU.out.1 h0)
        have h0' := Lib.hid h0
        clear h0
        generalize str (Crc.sealed l) = U at *
        go_wp2_with fail
        with_reducible refine (strip_long s _ (by omega) (by omega) ht4 h0'.out).mono ?_
        rintro e w5 ⟨rfl, b5⟩
        go_wp2
        go_ret
        exact ⟨rfl, b2.trans ((b3.mono hs2).trans ((b4.mono (by omega)).trans (b5.mono (by omega))))⟩
  · have d1 : decide ((2048 : Int) < (s.size : Int)) = true := by simp; omega
    go_enter Tryd.func4, Tryd.ntmps4
    go_wp2_with fail
    refine (alive_any _ ht).mono ?_
    rintro e w1 ⟨rfl, rfl⟩
    go_wp2
    go_ret
    exact ⟨rfl, Below.refl _ _⟩

set_option maxRecDepth 100000 in
theorem liftedCheckStrips (os : Os) (started : os.Started) (H : Type) (enc : TypeId × Value → H) :
    ReturnsInHanded {} Tryd.checked os 4 .any (fun w args => (Rows.checkStripsSpec.pre enc Tryd.prog Tryd.f4 [] false w args ∧ laidMetH Tryd.prog laidL w) ∧ sizedMet enc Tryd.prog Tryd.f4 (OpenSpec.ofChange Rows.checkStripsSpec) false w args) (Rows.checkStripsSpec.post enc Tryd.prog Tryd.f4 false true false false) := by
  refine returnsInHanded_of_change_and (C := Tryd.checked) (X := fun w _ => laidMetH Tryd.prog laidL w) (fun _ _ _ hh h => h.of_heap hh) own started (by kernel_rfl) Tryd.func4
    (ChangeSpec.witness_shaped (enc := enc) (C := Tryd.checked) (os := os) (X := fun w _ => laidMetH Tryd.prog laidL w) false (World.doorLaid Tryd.prog 400 os) #[.string ⟨#[]⟩] 8 rfl (World.shaped_of_RefB (by kernel_rfl) (by kernel_rfl)) (by kernel_rfl) (by kernel_rfl) (by kernel_rfl) (door_met os _)) ?_
  intro W base args ds gs before hval0 hW _ hsz0 hL _
  have hval : ∀ (j : Nat) t v, Tryd.f4.params[j]? = some t → args[j]? = some v → Value.okWide Tryd.prog W .any base t v := hval0
  have hsz : (DataW.weightsEach Tryd.prog (Tryd.f4.params.toList ++ Rows.checkStripsSpec.plain.varTypes Tryd.prog) (ds ++ gs)).all (· ≤ reachBytes) = true := hsz0
  clear hsz0
  have hW' := hW
  obtain ⟨p, q, hA0, hV, rfl, hfz, hnd⟩ := hW
  have hA : DataW.TrodAll enc Tryd.prog W 0 (fun _ => true) true Tryd.f4.params.toList args.toList ds p := hA0
  rw [Tryd.params4] at hA hval hsz
  obtain ⟨v0, vs0, d0, ds0, p0, q0, hargs, rfl, rfl, h0, r0⟩ := trodAll_cons hA
  obtain ⟨rfl, rfl, rfl⟩ := trodAll_nil r0
  obtain rfl : args = #[v0] := by cases args; simp_all
  obtain ⟨rfl, rfl⟩ := trodVars_none hV
  obtain ⟨s0, rfl, rfl, rfl, w0⟩ := open_string Tryd.underlying9 (hval 0 9 v0 rfl rfl) h0
  have b0 : s0.size ≤ 140737488351232 := by
    have := sized_string hsz (j := 0) (t := 9) rfl rfl
    simpa [reachBytes] using this
  clear hA0 hval0
  refine (walkCheckStrips s0 W (tab_of_laid hL) b0).mono fun e W' ⟨he, bel⟩ => ?_
  subst he
  exact ⟨_, rfl, _, _, _, [], _, [], hW', trodAll_mk1 (shut_bool Tryd.underlying4 _), (trodAll_cons_mk (shut_string Tryd.underlying9 w0) trodAll_mk0), rfl, bel.frame _, fun h => by cases h⟩

theorem overCheckStrips : Rows.checkStripsRow.holds Tryd.pinned (OpenSpec.ofChange Rows.checkStripsSpec) :=
  OpenClaim.holds_of_wide 4 Tryd.f4 rfl rfl rfl rfl rfl rfl rfl ⟨rfl, rfl, rfl, rfl, rfl⟩ rfl rfl rfl rfl rfl (by kernel_rfl) Tryd.func4 (by kernel_rfl)
    (of_decide_eq_true (by kernel_rfl)) (by unfold Func.isWrapper; first | (rw [if_pos (by decide +kernel)]; kernel_rfl) | (rw [if_neg (by decide +kernel)]; exact ⟨rfl, rfl⟩))
    (fun os started H enc _ => liftedCheckStrips os started H enc)

theorem checkStrips_said : Rows.CheckStripsSaid := overCheckStrips

/-- The statement: the card. -/
theorem checkStrips_holds : Rows.CheckStripsCardSaid :=
  Claim7.holds_tied_plain_at .later [] [.data] true Rows.checkStripsCard.stood.harness false
    checkStrips_said (fun _ h => by cases h) (by kernel_rfl) (fun _ h => by cases h) checkStrips_row_tie rfl ⟨rfl, rfl⟩ (by kernel_rfl) rfl
    (fun f fn hf hfn => by
      obtain rfl : f = 4 := Option.some.inj ((show Tryd.prog.funcNamed "kissgate/kissgatelaw04.CheckStrips" = some 4 by kernel_rfl).symm.trans hf) |>.symm
      obtain rfl : fn = Tryd.f4 := (Option.some.inj (Tryd.func4.symm.trans hfn)).symm
      exact ⟨by kernel_rfl, fun j t ht => by
        rw [Tryd.params4] at ht
        have hm : t ∈ [9] := by simpa using Array.mem_of_getElem? ht
        have hall : ([9].all fun u => !Tryd.prog.wantsStandIn u) = true := by kernel_rfl
        exact (show Tryd.prog.wantsStandIn t = false by simpa using List.all_eq_true.1 hall t hm)⟩)
    (by kernel_rfl)

#print axioms checkStrips_holds
end Go.Proofs.YtjkldopjiabamaaDoor
