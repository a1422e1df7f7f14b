/- FrameBytes: Good and Bytes answer what the document says of every frame with up to 1000 bytes of data, and what has bytes is read from them; of a frame with more data nothing is asked. Condition: the table check.turns reads as the program's text lays it (the card ties that). -/
import Derived.Test.YthbnadohldiifaaDoorLaid
import Derived.Test.YthbnadohldiifaaDoorFalive
import Derived.Test.YthbnadohldiifaaDoorFref
import Derived.Test.YthbnadohldiifaaDoorFopen
import Derived.Test.YthbnadohldiifaaDoorTie
import Derived.Test.YthbnadohldiifaaDoorCards
namespace Go.Proofs.YthbnadohldiifaaDoor
open Go.ChangeShapes Go.WideShapes Go.ChangeAt Go.RowKit
open Go.ChangeMaps (open_string shut_string)

set_option maxHeartbeats 4000000 in
theorem walkFrameBytes (f : Fr) (w : World) (ht : Tab w) :
    Calls Tryd.prog 3 #[f.v] w fun e w' => e = .returned (.bool true) ∧ Below w.heap.size w w' := by
  obtain ⟨b, HB⟩ : ∃ b, Hid (f.good = b) := ⟨_, Lib.hid rfl⟩
  have hb0 := bel_alloc w (.cells f.cells 23)
  have hblk := Blk.new w 23 f.cells
  have ht0 := ht.alloc (.cells f.cells 23)
  obtain ⟨dst, src, tagged, vid, prio, typ, data⟩ := f
  simp only [Fr.v, Fr.cells] at hb0 hblk ht0 ⊢
  by_cases hs : (data.size : Int) ≤ 1000
  · have d1 : decide ((1000 : Int) < (data.size : Int)) = false := by simp; omega
    cases b
    · go_enter Tryd.func3, Tryd.ntmps3
      go_wp2_with fail
      refine (alive_any _ ht0).mono ?_
      rintro e w1 ⟨rfl, b1⟩
      have ht1 := ht0.below b1 ht0.lt
      have k1 := hblk.below b1 hblk.lt
      have hb1 := hb0.trans (b1.mono hb0.size)
      have l0 : w1.cell? ⟨w.heap.size, 0, none⟩ = some (.int .i64 dst) := k1.cell 0
      have l1 : w1.cell? ⟨w.heap.size, 1, none⟩ = some (.int .i64 src) := k1.cell 1
      have l2 : w1.cell? ⟨w.heap.size, 2, none⟩ = some (.bool tagged) := k1.cell 2
      have l3 : w1.cell? ⟨w.heap.size, 3, none⟩ = some (.int .i64 vid) := k1.cell 3
      have l4 : w1.cell? ⟨w.heap.size, 4, none⟩ = some (.int .i64 prio) := k1.cell 4
      have l5 : w1.cell? ⟨w.heap.size, 5, none⟩ = some (.int .i64 typ) := k1.cell 5
      have l6 : w1.cell? ⟨w.heap.size, 6, none⟩ = some (.string data) := k1.cell 6
      go_wp2_with fail
      refine (rgood_any ⟨dst, src, tagged, vid, prio, typ, data⟩ _).mono ?_
      rw [HB.out]
      rintro e w2 ⟨rfl, b2⟩
      have ht2 := ht1.below b2 ht1.lt
      have k2 := k1.below b2 k1.lt
      have hb2 := hb1.trans (b2.mono hb1.size)
      clear l0 l1 l2 l3 l4 l5 l6 k1 hb1 ht1 b1 b2
      have l0 : w2.cell? ⟨w.heap.size, 0, none⟩ = some (.int .i64 dst) := k2.cell 0
      have l1 : w2.cell? ⟨w.heap.size, 1, none⟩ = some (.int .i64 src) := k2.cell 1
      have l2 : w2.cell? ⟨w.heap.size, 2, none⟩ = some (.bool tagged) := k2.cell 2
      have l3 : w2.cell? ⟨w.heap.size, 3, none⟩ = some (.int .i64 vid) := k2.cell 3
      have l4 : w2.cell? ⟨w.heap.size, 4, none⟩ = some (.int .i64 prio) := k2.cell 4
      have l5 : w2.cell? ⟨w.heap.size, 5, none⟩ = some (.int .i64 typ) := k2.cell 5
      have l6 : w2.cell? ⟨w.heap.size, 6, none⟩ = some (.string data) := k2.cell 6
      go_wp2_with fail
      refine (bytes_bad ⟨dst, src, tagged, vid, prio, typ, data⟩ _ HB.out).mono ?_
      rintro e w3 ⟨rfl, b3⟩
      have ht3 := ht2.below b3 ht2.lt
      have k3 := k2.below b3 k2.lt
      have hb3 := hb2.trans (b3.mono hb2.size)
      clear l0 l1 l2 l3 l4 l5 l6 k2 hb2 ht2 b3
      have l0 : w3.cell? ⟨w.heap.size, 0, none⟩ = some (.int .i64 dst) := k3.cell 0
      have l1 : w3.cell? ⟨w.heap.size, 1, none⟩ = some (.int .i64 src) := k3.cell 1
      have l2 : w3.cell? ⟨w.heap.size, 2, none⟩ = some (.bool tagged) := k3.cell 2
      have l3 : w3.cell? ⟨w.heap.size, 3, none⟩ = some (.int .i64 vid) := k3.cell 3
      have l4 : w3.cell? ⟨w.heap.size, 4, none⟩ = some (.int .i64 prio) := k3.cell 4
      have l5 : w3.cell? ⟨w.heap.size, 5, none⟩ = some (.int .i64 typ) := k3.cell 5
      have l6 : w3.cell? ⟨w.heap.size, 6, none⟩ = some (.string data) := k3.cell 6
      go_wp2_with fail
      refine (fgood_any ⟨dst, src, tagged, vid, prio, typ, data⟩ _).mono ?_
      rw [HB.out]
      rintro e w4 ⟨rfl, b4⟩
      have ht4 := ht3.below b4 ht3.lt
      have k4 := k3.below b4 k3.lt
      have hb4 := hb3.trans (b4.mono hb3.size)
      go_wp2
      go_ret
      exact ⟨rfl, hb4⟩
    · have hsm := fr_small HB.out
      have hz : (str (Crc.sealed (Fr.raw ⟨dst, src, tagged, vid, prio, typ, data⟩))).size ≤ 512 := by rw [sealed_size]; have := raw_le ⟨dst, src, tagged, vid, prio, typ, data⟩; omega
      obtain ⟨S, HS⟩ : ∃ S, Hid (str (Crc.sealed (Fr.raw ⟨dst, src, tagged, vid, prio, typ, data⟩)) = S) := ⟨_, Lib.hid rfl⟩
      rw [HS.out] at hz
      have hzd : decide ((S.size : Int) ≤ 512) = true := by simp; omega
      clear hsm
      go_enter Tryd.func3, Tryd.ntmps3
      go_wp2_with fail
      refine (alive_any _ ht0).mono ?_
      rintro e w1 ⟨rfl, b1⟩
      have ht1 := ht0.below b1 ht0.lt
      have k1 := hblk.below b1 hblk.lt
      have hb1 := hb0.trans (b1.mono hb0.size)
      have l0 : w1.cell? ⟨w.heap.size, 0, none⟩ = some (.int .i64 dst) := k1.cell 0
      have l1 : w1.cell? ⟨w.heap.size, 1, none⟩ = some (.int .i64 src) := k1.cell 1
      have l2 : w1.cell? ⟨w.heap.size, 2, none⟩ = some (.bool tagged) := k1.cell 2
      have l3 : w1.cell? ⟨w.heap.size, 3, none⟩ = some (.int .i64 vid) := k1.cell 3
      have l4 : w1.cell? ⟨w.heap.size, 4, none⟩ = some (.int .i64 prio) := k1.cell 4
      have l5 : w1.cell? ⟨w.heap.size, 5, none⟩ = some (.int .i64 typ) := k1.cell 5
      have l6 : w1.cell? ⟨w.heap.size, 6, none⟩ = some (.string data) := k1.cell 6
      go_wp2_with fail
      refine (rgood_any ⟨dst, src, tagged, vid, prio, typ, data⟩ _).mono ?_
      rw [HB.out]
      rintro e w2 ⟨rfl, b2⟩
      have ht2 := ht1.below b2 ht1.lt
      have k2 := k1.below b2 k1.lt
      have hb2 := hb1.trans (b2.mono hb1.size)
      clear l0 l1 l2 l3 l4 l5 l6 k1 hb1 ht1 b1 b2
      have l0 : w2.cell? ⟨w.heap.size, 0, none⟩ = some (.int .i64 dst) := k2.cell 0
      have l1 : w2.cell? ⟨w.heap.size, 1, none⟩ = some (.int .i64 src) := k2.cell 1
      have l2 : w2.cell? ⟨w.heap.size, 2, none⟩ = some (.bool tagged) := k2.cell 2
      have l3 : w2.cell? ⟨w.heap.size, 3, none⟩ = some (.int .i64 vid) := k2.cell 3
      have l4 : w2.cell? ⟨w.heap.size, 4, none⟩ = some (.int .i64 prio) := k2.cell 4
      have l5 : w2.cell? ⟨w.heap.size, 5, none⟩ = some (.int .i64 typ) := k2.cell 5
      have l6 : w2.cell? ⟨w.heap.size, 6, none⟩ = some (.string data) := k2.cell 6
      go_wp2_with fail
      refine (bytes_good ⟨dst, src, tagged, vid, prio, typ, data⟩ _ HB.out ht2).mono ?_
      rw [HS.out]
      rintro e w3 ⟨rfl, b3⟩
      have ht3 := ht2.below b3 ht2.lt
      have k3 := k2.below b3 k2.lt
      have hb3 := hb2.trans (b3.mono hb2.size)
      clear l0 l1 l2 l3 l4 l5 l6 k2 hb2 ht2 b3
      have l0 : w3.cell? ⟨w.heap.size, 0, none⟩ = some (.int .i64 dst) := k3.cell 0
      have l1 : w3.cell? ⟨w.heap.size, 1, none⟩ = some (.int .i64 src) := k3.cell 1
      have l2 : w3.cell? ⟨w.heap.size, 2, none⟩ = some (.bool tagged) := k3.cell 2
      have l3 : w3.cell? ⟨w.heap.size, 3, none⟩ = some (.int .i64 vid) := k3.cell 3
      have l4 : w3.cell? ⟨w.heap.size, 4, none⟩ = some (.int .i64 prio) := k3.cell 4
      have l5 : w3.cell? ⟨w.heap.size, 5, none⟩ = some (.int .i64 typ) := k3.cell 5
      have l6 : w3.cell? ⟨w.heap.size, 6, none⟩ = some (.string data) := k3.cell 6
      go_wp2_with fail
      refine (fgood_any ⟨dst, src, tagged, vid, prio, typ, data⟩ _).mono ?_
      rw [HB.out]
      rintro e w4 ⟨rfl, b4⟩
      have ht4 := ht3.below b4 ht3.lt
      have k4 := k3.below b4 k3.lt
      have hb4 := hb3.trans (b4.mono hb3.size)
      clear l0 l1 l2 l3 l4 l5 l6 k3 hb3 ht3 b4
      have hread := read_good ⟨dst, src, tagged, vid, prio, typ, data⟩ w4 HB.out ht4
      rw [HS.out] at hread
      replace hread := Lib.hid hread
      go_wp2_with fail
      refine (hread.out).mono ?_
      simp only [Fr.v, Fr.cells]
      rintro e w5 ⟨rfl, b5⟩
      have ht5 := ht4.below b5 ht4.lt
      have k5 := k4.below b5 k4.lt
      have hb5 := hb4.trans (b5.mono hb4.size)
      clear hread k4 hb4 ht4 b5
      have q5 := Blk.new w5 23 (Fr.cells ⟨dst, src, tagged, vid, prio, typ, data⟩)
      have k5' := k5.alloc (.cells (Fr.cells ⟨dst, src, tagged, vid, prio, typ, data⟩) 23)
      have hb5' := hb5.alloc hb5.size (.cells (Fr.cells ⟨dst, src, tagged, vid, prio, typ, data⟩) 23)
      simp only [Fr.cells] at q5 k5' hb5'
      have l0 : (w5.alloc (.cells #[.int .i64 dst, .int .i64 src, .bool tagged, .int .i64 vid, .int .i64 prio, .int .i64 typ, .string data] 23)).cell? ⟨w.heap.size, 0, none⟩ = some (.int .i64 dst) := k5'.cell 0
      have l1 : (w5.alloc (.cells #[.int .i64 dst, .int .i64 src, .bool tagged, .int .i64 vid, .int .i64 prio, .int .i64 typ, .string data] 23)).cell? ⟨w.heap.size, 1, none⟩ = some (.int .i64 src) := k5'.cell 1
      have l2 : (w5.alloc (.cells #[.int .i64 dst, .int .i64 src, .bool tagged, .int .i64 vid, .int .i64 prio, .int .i64 typ, .string data] 23)).cell? ⟨w.heap.size, 2, none⟩ = some (.bool tagged) := k5'.cell 2
      have l3 : (w5.alloc (.cells #[.int .i64 dst, .int .i64 src, .bool tagged, .int .i64 vid, .int .i64 prio, .int .i64 typ, .string data] 23)).cell? ⟨w.heap.size, 3, none⟩ = some (.int .i64 vid) := k5'.cell 3
      have l4 : (w5.alloc (.cells #[.int .i64 dst, .int .i64 src, .bool tagged, .int .i64 vid, .int .i64 prio, .int .i64 typ, .string data] 23)).cell? ⟨w.heap.size, 4, none⟩ = some (.int .i64 prio) := k5'.cell 4
      have l5 : (w5.alloc (.cells #[.int .i64 dst, .int .i64 src, .bool tagged, .int .i64 vid, .int .i64 prio, .int .i64 typ, .string data] 23)).cell? ⟨w.heap.size, 5, none⟩ = some (.int .i64 typ) := k5'.cell 5
      have l6 : (w5.alloc (.cells #[.int .i64 dst, .int .i64 src, .bool tagged, .int .i64 vid, .int .i64 prio, .int .i64 typ, .string data] 23)).cell? ⟨w.heap.size, 6, none⟩ = some (.string data) := k5'.cell 6
      go_wp2_with fail
      refine (rbytes_any ⟨dst, src, tagged, vid, prio, typ, data⟩ _ HB.out).mono ?_
      rw [HS.out]
      rintro e w6 ⟨rfl, b6⟩
      have k6 := k5'.below b6 k5'.lt
      have q6 := q5.below b6 q5.lt
      have hb6 := hb5'.trans (b6.mono hb5'.size)
      clear l0 l1 l2 l3 l4 l5 l6 k5 k5' hb5 hb5' q5 ht5 b6
      have l0 : w6.cell? ⟨w.heap.size, 0, none⟩ = some (.int .i64 dst) := k6.cell 0
      have l1 : w6.cell? ⟨w.heap.size, 1, none⟩ = some (.int .i64 src) := k6.cell 1
      have l2 : w6.cell? ⟨w.heap.size, 2, none⟩ = some (.bool tagged) := k6.cell 2
      have l3 : w6.cell? ⟨w.heap.size, 3, none⟩ = some (.int .i64 vid) := k6.cell 3
      have l4 : w6.cell? ⟨w.heap.size, 4, none⟩ = some (.int .i64 prio) := k6.cell 4
      have l5 : w6.cell? ⟨w.heap.size, 5, none⟩ = some (.int .i64 typ) := k6.cell 5
      have l6 : w6.cell? ⟨w.heap.size, 6, none⟩ = some (.string data) := k6.cell 6
      have m0 : w6.cell? ⟨w5.heap.size, 0, none⟩ = some (.int .i64 dst) := q6.cell 0
      have m1 : w6.cell? ⟨w5.heap.size, 1, none⟩ = some (.int .i64 src) := q6.cell 1
      have m2 : w6.cell? ⟨w5.heap.size, 2, none⟩ = some (.bool tagged) := q6.cell 2
      have m3 : w6.cell? ⟨w5.heap.size, 3, none⟩ = some (.int .i64 vid) := q6.cell 3
      have m4 : w6.cell? ⟨w5.heap.size, 4, none⟩ = some (.int .i64 prio) := q6.cell 4
      have m5 : w6.cell? ⟨w5.heap.size, 5, none⟩ = some (.int .i64 typ) := q6.cell 5
      have m6 : w6.cell? ⟨w5.heap.size, 6, none⟩ = some (.string data) := q6.cell 6
      go_wp2
      go_ret
      exact ⟨rfl, hb6⟩
  · have d1 : decide ((1000 : Int) < (data.size : Int)) = true := by simp; omega
    go_enter Tryd.func3, Tryd.ntmps3
    go_wp2_with fail
    refine (alive_any _ ht0).mono ?_
    rintro e w1 ⟨rfl, b1⟩
    have ht1 := ht0.below b1 ht0.lt
    have k1 := hblk.below b1 hblk.lt
    have hb1 := hb0.trans (b1.mono hb0.size)
    have l6 : w1.cell? ⟨w.heap.size, 6, none⟩ = some (.string data) := k1.cell 6
    go_wp2
    go_ret
    exact ⟨rfl, hb1⟩

set_option maxRecDepth 100000 in
theorem liftedFrameBytes (os : Os) (started : os.Started) (H : Type) (enc : TypeId × Value → H) :
    ReturnsInHanded {} Tryd.checked os 3 .any (fun w args => (Rows.frameBytesSpec.pre enc Tryd.prog Tryd.f3 [] false w args ∧ laidMetH Tryd.prog laidL w) ∧ sizedMet enc Tryd.prog Tryd.f3 (OpenSpec.ofChange Rows.frameBytesSpec) false w args) (Rows.frameBytesSpec.post enc Tryd.prog Tryd.f3 false true false false) := by
  refine returnsInHanded_of_change_and (C := Tryd.checked) (X := fun w _ => laidMetH Tryd.prog laidL w) (fun _ _ _ hh h => h.of_heap hh) own started (by kernel_rfl) Tryd.func3
    (ChangeSpec.witness_shaped (enc := enc) (C := Tryd.checked) (os := os) (X := fun w _ => laidMetH Tryd.prog laidL w) false (World.doorLaid Tryd.prog 400 os) #[.agg #[.int .i64 0, .int .i64 0, .bool false, .int .i64 0, .int .i64 0, .int .i64 0, .string ⟨#[]⟩]] 8 rfl (World.shaped_of_RefB (by kernel_rfl) (by kernel_rfl)) (by kernel_rfl) (by kernel_rfl) (by kernel_rfl) (door_met os _)) ?_
  intro W base args ds gs before hval0 hW _ hsz0 hL _
  have hval : ∀ (j : Nat) t v, Tryd.f3.params[j]? = some t → args[j]? = some v → Value.okWide Tryd.prog W .any base t v := hval0
  have hsz : (DataW.weightsEach Tryd.prog (Tryd.f3.params.toList ++ Rows.frameBytesSpec.plain.varTypes Tryd.prog) (ds ++ gs)).all (· ≤ reachBytes) = true := hsz0
  clear hsz0
  have hW' := hW
  obtain ⟨p, q, hA0, hV, rfl, hfz, hnd⟩ := hW
  have hA : DataW.TrodAll enc Tryd.prog W 0 (fun _ => true) true Tryd.f3.params.toList args.toList ds p := hA0
  rw [Tryd.params3] at hA hval hsz
  obtain ⟨v0, vs0, d0, ds0, p0, q0, hargs, rfl, rfl, h0, r0⟩ := trodAll_cons hA
  obtain ⟨rfl, rfl, rfl⟩ := trodAll_nil r0
  obtain rfl : args = #[v0] := by cases args; simp_all
  obtain ⟨rfl, rfl⟩ := trodVars_none hV
  have k0 := h0
  have lt0 : ∀ x ∈ p0, x.block < W.heap.size := by obtain ⟨m, hm⟩ := k0; exact DataW.trod_lt m _ _ _ hm
  obtain ⟨f0, rfl⟩ := open_fr (hval 0 23 v0 rfl rfl) h0
  clear hA0 hval0
  refine (walkFrameBytes f0 W (tab_of_laid hL) ).mono fun e W' ⟨he, bel⟩ => ?_
  subst he
  exact ⟨_, rfl, _, _, _, [], _, [], hW', trodAll_mk1 (shut_bool Tryd.underlying4 _), (trodAll_cons_mk (Below.trod laidOut (by kernel_rfl) (of_decide_eq_true (by kernel_rfl)) k0 bel lt0) trodAll_mk0), rfl, bel.frame _, fun h => by cases h⟩

theorem overFrameBytes : Rows.frameBytesRow.holds Tryd.pinned (OpenSpec.ofChange Rows.frameBytesSpec) :=
  OpenClaim.holds_of_wide 3 Tryd.f3 rfl rfl rfl rfl rfl rfl rfl ⟨rfl, rfl, rfl, rfl, rfl⟩ rfl rfl rfl rfl rfl (by kernel_rfl) Tryd.func3 (by kernel_rfl)
    (of_decide_eq_true (by kernel_rfl)) (by unfold Func.isWrapper; first | (rw [if_pos (by decide +kernel)]; kernel_rfl) | (rw [if_neg (by decide +kernel)]; exact ⟨rfl, rfl⟩))
    (fun os started H enc _ => liftedFrameBytes os started H enc)

theorem frameBytes_said : Rows.FrameBytesSaid := overFrameBytes

/-- The statement: the card. -/
theorem frameBytes_holds : Rows.FrameBytesCardSaid :=
  Claim7.holds_tied_plain_at .later [] [.data] true Rows.frameBytesCard.stood.harness false
    frameBytes_said (fun _ h => by cases h) (by kernel_rfl) (fun _ h => by cases h) frameBytes_row_tie rfl ⟨rfl, rfl⟩ (by kernel_rfl) rfl
    (fun f fn hf hfn => by
      obtain rfl : f = 3 := Option.some.inj ((show Tryd.prog.funcNamed "kissgate/kissgatelaw05.FrameBytes" = some 3 by kernel_rfl).symm.trans hf) |>.symm
      obtain rfl : fn = Tryd.f3 := (Option.some.inj (Tryd.func3.symm.trans hfn)).symm
      exact ⟨by kernel_rfl, fun j t ht => by
        rw [Tryd.params3] at ht
        have hm : t ∈ [23] := by simpa using Array.mem_of_getElem? ht
        have hall : ([23].all fun u => !Tryd.prog.wantsStandIn u) = true := by kernel_rfl
        exact (show Tryd.prog.wantsStandIn t = false by simpa using List.all_eq_true.1 hall t hm)⟩)
    (by kernel_rfl)

#print axioms frameBytes_holds
end Go.Proofs.YthbnadohldiifaaDoor
