/- FrameReads: what is read of any text of up to 1000 bytes can be, and has just these bytes; other texts are refused with ErrForm and the zero frame; of a longer text nothing is asked. Condition: the table check.turns reads as the program's text lays it (the card ties that). -/
import Derived.Test.YthbnadohldiifaaDoorLaid
import Derived.Test.YthbnadohldiifaaDoorFalive
import Derived.Test.YthbnadohldiifaaDoorFref
import Derived.Test.YthbnadohldiifaaDoorTie
import Derived.Test.YthbnadohldiifaaDoorCards
namespace Go.Proofs.YthbnadohldiifaaDoor
open Go.ChangeShapes Go.WideShapes Go.ChangeAt Go.RowKit
open Go.ChangeMaps (open_string shut_string)

set_option maxHeartbeats 2000000 in
theorem walkFrameReads (s : ByteArray) (w : World) (ht : Tab w) (_hm : s.size ≤ 140737488351232) :
    Calls Tryd.prog 4 #[.string s] w fun e w' => e = .returned (.bool true) ∧ Below w.heap.size w w' := by
  by_cases hs : s.size ≤ 1000
  · have d1 : decide ((1000 : Int) < (s.size : Int)) = false := by simp; omega
    go_enter Tryd.func4, Tryd.ntmps4
    go_wp2_with fail
    refine (alive_any _ ht).mono ?_
    rintro e w1 ⟨rfl, b1⟩
    have ht1 := ht.below b1 ht.lt
    go_wp2_with fail
    refine (read_any s _ (by omega) ht1).mono ?_
    rintro e w2 ⟨⟨v, rfl, hv⟩, b2⟩
    have hb2 := b1.trans (b2.mono b1.size)
    rcases hv with rfl | ⟨f, hf, hsf, rfl⟩
    · simp only [Fr.v, Fr.zero, Fr.cells]
      go_wp2
      go_ret
      exact ⟨rfl, hb2.alloc hb2.size _⟩
    · obtain ⟨dst, src, tagged, vid, prio, typ, data⟩ := f
      have HF := Lib.hid hf
      have HS := Lib.hid hsf
      clear hf hsf
      simp only [Fr.v, Fr.cells]
      have hblk := Blk.new w2 23 (Fr.cells ⟨dst, src, tagged, vid, prio, typ, data⟩)
      simp only [Fr.cells] at hblk
      go_wp2_with fail
      refine (rgood_any ⟨dst, src, tagged, vid, prio, typ, data⟩ _).mono ?_
      rw [HF.out]
      rintro e w3 ⟨rfl, b3⟩
      have k3 := hblk.below b3 hblk.lt
      have hb3 := (hb2.alloc hb2.size _).trans (b3.mono (hb2.alloc hb2.size _).size)
      have l0 : w3.cell? ⟨w2.heap.size, 0, none⟩ = some (.int .i64 dst) := k3.cell 0
      have l1 : w3.cell? ⟨w2.heap.size, 1, none⟩ = some (.int .i64 src) := k3.cell 1
      have l2 : w3.cell? ⟨w2.heap.size, 2, none⟩ = some (.bool tagged) := k3.cell 2
      have l3 : w3.cell? ⟨w2.heap.size, 3, none⟩ = some (.int .i64 vid) := k3.cell 3
      have l4 : w3.cell? ⟨w2.heap.size, 4, none⟩ = some (.int .i64 prio) := k3.cell 4
      have l5 : w3.cell? ⟨w2.heap.size, 5, none⟩ = some (.int .i64 typ) := k3.cell 5
      have l6 : w3.cell? ⟨w2.heap.size, 6, none⟩ = some (.string data) := k3.cell 6
      go_wp2_with fail
      refine (rbytes_any ⟨dst, src, tagged, vid, prio, typ, data⟩ _ HF.out).mono ?_
      rw [HS.out]
      rintro e w4 ⟨rfl, b4⟩
      go_wp2
      go_ret
      exact ⟨rfl, hb3.trans (b4.mono hb3.size)⟩
  · have d1 : decide ((1000 : Int) < (s.size : Int)) = true := by simp; omega
    go_enter Tryd.func4, Tryd.ntmps4
    go_wp2_with fail
    refine (alive_any _ ht).mono ?_
    rintro e w1 ⟨rfl, b1⟩
    go_wp2
    go_ret
    exact ⟨rfl, b1⟩

set_option maxRecDepth 100000 in
theorem liftedFrameReads (os : Os) (started : os.Started) (H : Type) (enc : TypeId × Value → H) :
    ReturnsInHanded {} Tryd.checked os 4 .any (fun w args => (Rows.frameReadsSpec.pre enc Tryd.prog Tryd.f4 [] false w args ∧ laidMetH Tryd.prog laidL w) ∧ sizedMet enc Tryd.prog Tryd.f4 (OpenSpec.ofChange Rows.frameReadsSpec) false w args) (Rows.frameReadsSpec.post enc Tryd.prog Tryd.f4 false true false false) := by
  refine returnsInHanded_of_change_and (C := Tryd.checked) (X := fun w _ => laidMetH Tryd.prog laidL w) (fun _ _ _ hh h => h.of_heap hh) own started (by kernel_rfl) Tryd.func4
    (ChangeSpec.witness_shaped (enc := enc) (C := Tryd.checked) (os := os) (X := fun w _ => laidMetH Tryd.prog laidL w) false (World.doorLaid Tryd.prog 400 os) #[.string ⟨#[]⟩] 8 rfl (World.shaped_of_RefB (by kernel_rfl) (by kernel_rfl)) (by kernel_rfl) (by kernel_rfl) (by kernel_rfl) (door_met os _)) ?_
  intro W base args ds gs before hval0 hW _ hsz0 hL _
  have hval : ∀ (j : Nat) t v, Tryd.f4.params[j]? = some t → args[j]? = some v → Value.okWide Tryd.prog W .any base t v := hval0
  have hsz : (DataW.weightsEach Tryd.prog (Tryd.f4.params.toList ++ Rows.frameReadsSpec.plain.varTypes Tryd.prog) (ds ++ gs)).all (· ≤ reachBytes) = true := hsz0
  clear hsz0
  have hW' := hW
  obtain ⟨p, q, hA0, hV, rfl, hfz, hnd⟩ := hW
  have hA : DataW.TrodAll enc Tryd.prog W 0 (fun _ => true) true Tryd.f4.params.toList args.toList ds p := hA0
  rw [Tryd.params4] at hA hval hsz
  obtain ⟨v0, vs0, d0, ds0, p0, q0, hargs, rfl, rfl, h0, r0⟩ := trodAll_cons hA
  obtain ⟨rfl, rfl, rfl⟩ := trodAll_nil r0
  obtain rfl : args = #[v0] := by cases args; simp_all
  obtain ⟨rfl, rfl⟩ := trodVars_none hV
  obtain ⟨s0, rfl, rfl, rfl, w0⟩ := open_string Tryd.underlying9 (hval 0 9 v0 rfl rfl) h0
  have b0 : s0.size ≤ 140737488351232 := by
    have := sized_string hsz (j := 0) (t := 9) rfl rfl
    simpa [reachBytes] using this
  clear hA0 hval0
  refine (walkFrameReads s0 W (tab_of_laid hL) b0).mono fun e W' ⟨he, bel⟩ => ?_
  subst he
  exact ⟨_, rfl, _, _, _, [], _, [], hW', trodAll_mk1 (shut_bool Tryd.underlying4 _), (trodAll_cons_mk (shut_string Tryd.underlying9 w0) trodAll_mk0), rfl, bel.frame _, fun h => by cases h⟩

theorem overFrameReads : Rows.frameReadsRow.holds Tryd.pinned (OpenSpec.ofChange Rows.frameReadsSpec) :=
  OpenClaim.holds_of_wide 4 Tryd.f4 rfl rfl rfl rfl rfl rfl rfl ⟨rfl, rfl, rfl, rfl, rfl⟩ rfl rfl rfl rfl rfl (by kernel_rfl) Tryd.func4 (by kernel_rfl)
    (of_decide_eq_true (by kernel_rfl)) (by unfold Func.isWrapper; first | (rw [if_pos (by decide +kernel)]; kernel_rfl) | (rw [if_neg (by decide +kernel)]; exact ⟨rfl, rfl⟩))
    (fun os started H enc _ => liftedFrameReads os started H enc)

theorem frameReads_said : Rows.FrameReadsSaid := overFrameReads

/-- The statement: the card. -/
theorem frameReads_holds : Rows.FrameReadsCardSaid :=
  Claim7.holds_tied_plain_at .later [] [.data] true Rows.frameReadsCard.stood.harness false
    frameReads_said (fun _ h => by cases h) (by kernel_rfl) (fun _ h => by cases h) frameReads_row_tie rfl ⟨rfl, rfl⟩ (by kernel_rfl) rfl
    (fun f fn hf hfn => by
      obtain rfl : f = 4 := Option.some.inj ((show Tryd.prog.funcNamed "kissgate/kissgatelaw05.FrameReads" = some 4 by kernel_rfl).symm.trans hf) |>.symm
      obtain rfl : fn = Tryd.f4 := (Option.some.inj (Tryd.func4.symm.trans hfn)).symm
      exact ⟨by kernel_rfl, fun j t ht => by
        rw [Tryd.params4] at ht
        have hm : t ∈ [9] := by simpa using Array.mem_of_getElem? ht
        have hall : ([9].all fun u => !Tryd.prog.wantsStandIn u) = true := by kernel_rfl
        exact (show Tryd.prog.wantsStandIn t = false by simpa using List.all_eq_true.1 hall t hm)⟩)
    (by kernel_rfl)

#print axioms frameReads_holds
end Go.Proofs.YthbnadohldiifaaDoor
