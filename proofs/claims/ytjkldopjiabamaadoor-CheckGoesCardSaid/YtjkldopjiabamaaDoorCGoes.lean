/- CheckGoes: a sum goes on from a text's sum alone: of texts of up to 2^11 bytes together what stands behind a sealed text has the sum that it has behind any other sealed one; of longer ones nothing is asked. Condition: the table check.turns reads as the program's text lays it (the card ties that). -/
import Derived.Test.YtjkldopjiabamaaDoorLaid
import Derived.Test.YtjkldopjiabamaaDoorAliveC
import Derived.Test.YtjkldopjiabamaaDoorTie
import Derived.Test.YtjkldopjiabamaaDoorCards
namespace Go.Proofs.YtjkldopjiabamaaDoor
open Go.ChangeShapes Go.WideShapes Go.ChangeAt Go.RowKit
open Go.ChangeMaps (open_string shut_string)

theorem goes_on (s m : ByteArray) : Crc.of (str (Crc.sealed s.data.toList) ++ m).data.toList = Crc.from_ 0 m.data.toList := by
  have h := Crc.sealed_zero s.data.toList
  unfold Crc.of at h ⊢
  rw [show (str (Crc.sealed s.data.toList) ++ m).data.toList = Crc.sealed s.data.toList ++ m.data.toList by simp [str], Crc.from_append, h]

theorem sealed_size' (s : ByteArray) : (str (Crc.sealed s.data.toList)).size = s.size + 2 := by
  rw [str_size, Crc.sealed_length]
  simp

set_option maxHeartbeats 1000000 in
theorem walkCheckGoes (s m : ByteArray) (w : World) (ht : Tab w) (h1 : s.size ≤ 140737488351232) (h2 : m.size ≤ 140737488351232) :
    Calls Tryd.prog 7 #[.string s, .string m] w fun e w' => e = .returned (.bool true) ∧ Below w.heap.size w w' := by
  have hpos := ht.lt
  have e1 : IntKind.i64.wrap ((s.size : Int) + (m.size : Int)) = (s.size : Int) + (m.size : Int) := IntWalk.i64_in _ (by omega)
  by_cases hs : s.size + m.size ≤ 2048
  · have d1 : decide ((2048 : Int) < (s.size : Int) + (m.size : Int)) = false := by simp; omega
    have hz := sealed_size' s
    have hz0 := sealed_size' ⟨#[]⟩
    have hg := goes_on s m
    have hg0 := goes_on ⟨#[]⟩ m
    have h0 : Crc.of (str (Crc.sealed s.data.toList)).data.toList = 0 := by rw [str_list]; exact Crc.sealed_zero _
    obtain ⟨T, hTd⟩ : ∃ T, Hid (str (Crc.sealed s.data.toList) = T) := ⟨_, Lib.hid rfl⟩
    obtain ⟨E, hEd⟩ : ∃ E, Hid (str (Crc.sealed (⟨#[]⟩ : ByteArray).data.toList) = E) := ⟨_, Lib.hid rfl⟩
    rw [hTd.out] at hz h0 hg
    rw [hEd.out] at hz0 hg0
    obtain ⟨z, hzd⟩ : ∃ z, Hid (Crc.from_ 0 m.data.toList = z) := ⟨_, Lib.hid rfl⟩
    rw [hzd.out] at hg hg0
    have c0 := Lib.hid h0
    have c1 := Lib.hid hg
    have c2 := Lib.hid hg0
    have n0 : (⟨#[]⟩ : ByteArray).size = 0 := rfl
    have k1 : (T ++ m).size < 4611686018427387904 := by rw [ByteArray.size_append]; omega
    have k2 : (E ++ m).size < 4611686018427387904 := by rw [ByteArray.size_append]; omega
    clear h0 hg hg0
    go_enter Tryd.func7, Tryd.ntmps7
    go_wp2_with fail
    refine (alive_any _ ht).mono ?_
    rintro e w1 ⟨rfl, rfl⟩
    go_wp2_with fail
    with_reducible refine (seal_any s _ (by omega) ht).mono ?_
    rw [hTd.out]
    rintro e w2 ⟨rfl, b2⟩
    have ht2 := ht.below b2 hpos
    have hs2 := b2.size
    go_wp2_with fail
    with_reducible refine (of_any T _ (by omega) ht2).mono ?_
    rw [c0.out]
    rintro e w3 ⟨rfl, rfl⟩
    go_wp2_with fail
    with_reducible refine (seal_any s _ (by omega) ht2).mono ?_
    rw [hTd.out]
    rintro e w4 ⟨rfl, b4⟩
    have ht4 := ht2.below b4 (by omega)
    have hs4 := b4.size
    go_wp2_with fail
    with_reducible refine (of_any (T ++ m) _ k1 ht4).mono ?_
    rw [c1.out]
    rintro e w5 ⟨rfl, rfl⟩
    go_wp2_with fail
    with_reducible refine (seal_any ⟨#[]⟩ _ (by decide) ht4).mono ?_
    rw [hEd.out]
    rintro e w6 ⟨rfl, b6⟩
    have ht6 := ht4.below b6 (by omega)
    have hs6 := b6.size
    go_wp2_with fail
    with_reducible refine (of_any (E ++ m) _ k2 ht6).mono ?_
    rw [c2.out]
    rintro e w7 ⟨rfl, rfl⟩
    go_wp2
    go_ret
    exact ⟨rfl, b2.trans ((b4.mono hs2).trans (b6.mono (by omega)))⟩
  · have d1 : decide ((2048 : Int) < (s.size : Int) + (m.size : Int)) = true := by simp; omega
    go_enter Tryd.func7, Tryd.ntmps7
    go_wp2_with fail
    refine (alive_any _ ht).mono ?_
    rintro e w1 ⟨rfl, rfl⟩
    go_wp2
    go_ret
    exact ⟨rfl, Below.refl _ _⟩

set_option maxRecDepth 100000 in
theorem liftedCheckGoes (os : Os) (started : os.Started) (H : Type) (enc : TypeId × Value → H) :
    ReturnsInHanded {} Tryd.checked os 7 .any (fun w args => (Rows.checkGoesSpec.pre enc Tryd.prog Tryd.f7 [] false w args ∧ laidMetH Tryd.prog laidL w) ∧ sizedMet enc Tryd.prog Tryd.f7 (OpenSpec.ofChange Rows.checkGoesSpec) false w args) (Rows.checkGoesSpec.post enc Tryd.prog Tryd.f7 false true false false) := by
  refine returnsInHanded_of_change_and (C := Tryd.checked) (X := fun w _ => laidMetH Tryd.prog laidL w) (fun _ _ _ hh h => h.of_heap hh) own started (by kernel_rfl) Tryd.func7
    (ChangeSpec.witness_shaped (enc := enc) (C := Tryd.checked) (os := os) (X := fun w _ => laidMetH Tryd.prog laidL w) false (World.doorLaid Tryd.prog 400 os) #[.string ⟨#[]⟩, .string ⟨#[]⟩] 8 rfl (World.shaped_of_RefB (by kernel_rfl) (by kernel_rfl)) (by kernel_rfl) (by kernel_rfl) (by kernel_rfl) (door_met os _)) ?_
  intro W base args ds gs before hval0 hW _ hsz0 hL _
  have hval : ∀ (j : Nat) t v, Tryd.f7.params[j]? = some t → args[j]? = some v → Value.okWide Tryd.prog W .any base t v := hval0
  have hsz : (DataW.weightsEach Tryd.prog (Tryd.f7.params.toList ++ Rows.checkGoesSpec.plain.varTypes Tryd.prog) (ds ++ gs)).all (· ≤ reachBytes) = true := hsz0
  clear hsz0
  have hW' := hW
  obtain ⟨p, q, hA0, hV, rfl, hfz, hnd⟩ := hW
  have hA : DataW.TrodAll enc Tryd.prog W 0 (fun _ => true) true Tryd.f7.params.toList args.toList ds p := hA0
  rw [Tryd.params7] at hA hval hsz
  obtain ⟨v0, vs0, d0, ds0, p0, q0, hargs, rfl, rfl, h0, r0⟩ := trodAll_cons hA
  obtain ⟨v1, vs1, d1, ds1, p1, q1, rfl, rfl, rfl, h1, r1⟩ := trodAll_cons r0
  obtain ⟨rfl, rfl, rfl⟩ := trodAll_nil r1
  obtain rfl : args = #[v0, v1] := by cases args; simp_all
  obtain ⟨rfl, rfl⟩ := trodVars_none hV
  obtain ⟨s0, rfl, rfl, rfl, w0⟩ := open_string Tryd.underlying9 (hval 0 9 v0 rfl rfl) h0
  obtain ⟨s1, rfl, rfl, rfl, w1⟩ := open_string Tryd.underlying9 (hval 1 9 v1 rfl rfl) h1
  have b0 : s0.size ≤ 140737488351232 := by
    have := sized_string hsz (j := 0) (t := 9) rfl rfl
    simpa [reachBytes] using this
  have b1 : s1.size ≤ 140737488351232 := by
    have := sized_string hsz (j := 1) (t := 9) rfl rfl
    simpa [reachBytes] using this
  clear hA0 hval0
  refine (walkCheckGoes s0 s1 W (tab_of_laid hL) b0 b1).mono fun e W' ⟨he, bel⟩ => ?_
  subst he
  exact ⟨_, rfl, _, _, _, [], _, [], hW', trodAll_mk1 (shut_bool Tryd.underlying4 _), (trodAll_cons_mk (shut_string Tryd.underlying9 w0) (trodAll_cons_mk (shut_string Tryd.underlying9 w1) trodAll_mk0)), rfl, bel.frame _, fun h => by cases h⟩

theorem overCheckGoes : Rows.checkGoesRow.holds Tryd.pinned (OpenSpec.ofChange Rows.checkGoesSpec) :=
  OpenClaim.holds_of_wide 7 Tryd.f7 rfl rfl rfl rfl rfl rfl rfl ⟨rfl, rfl, rfl, rfl, rfl⟩ rfl rfl rfl rfl rfl (by kernel_rfl) Tryd.func7 (by kernel_rfl)
    (of_decide_eq_true (by kernel_rfl)) (by unfold Func.isWrapper; first | (rw [if_pos (by decide +kernel)]; kernel_rfl) | (rw [if_neg (by decide +kernel)]; exact ⟨rfl, rfl⟩))
    (fun os started H enc _ => liftedCheckGoes os started H enc)

theorem checkGoes_said : Rows.CheckGoesSaid := overCheckGoes

/-- The statement: the card. -/
theorem checkGoes_holds : Rows.CheckGoesCardSaid :=
  Claim7.holds_tied_plain_at .later [] [.data] true Rows.checkGoesCard.stood.harness false
    checkGoes_said (fun _ h => by cases h) (by kernel_rfl) (fun _ h => by cases h) checkGoes_row_tie rfl ⟨rfl, rfl⟩ (by kernel_rfl) rfl
    (fun f fn hf hfn => by
      obtain rfl : f = 7 := Option.some.inj ((show Tryd.prog.funcNamed "kissgate/kissgatelaw04.CheckGoes" = some 7 by kernel_rfl).symm.trans hf) |>.symm
      obtain rfl : fn = Tryd.f7 := (Option.some.inj (Tryd.func7.symm.trans hfn)).symm
      exact ⟨by kernel_rfl, fun j t ht => by
        rw [Tryd.params7] at ht
        have hm : t ∈ [9, 9] := by simpa using Array.mem_of_getElem? ht
        have hall : ([9, 9].all fun u => !Tryd.prog.wantsStandIn u) = true := by kernel_rfl
        exact (show Tryd.prog.wantsStandIn t = false by simpa using List.all_eq_true.1 hall t hm)⟩)
    (by kernel_rfl)

#print axioms checkGoes_holds
end Go.Proofs.YtjkldopjiabamaaDoor
