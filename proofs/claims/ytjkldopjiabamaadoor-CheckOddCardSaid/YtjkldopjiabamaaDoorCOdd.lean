/- CheckOdd: a text of up to 2^11 bytes and the one that differs from it in one byte have unlike sums; of a longer one, of none at all, and of a turn that turns nothing nothing is asked. Condition: the table check.turns reads as the program's text lays it (the card ties that). -/
import Derived.Test.YtjkldopjiabamaaDoorLaid
import Derived.Test.YtjkldopjiabamaaDoorTurn
import Derived.Test.YtjkldopjiabamaaDoorTie
import Derived.Test.YtjkldopjiabamaaDoorCards
namespace Go.Proofs.YtjkldopjiabamaaDoor
open Go.ChangeShapes Go.WideShapes Go.ChangeAt Go.RowKit
open Go.ChangeMaps (open_string shut_string)

set_option maxHeartbeats 1000000 in
theorem walkCheckOdd (s : ByteArray) (a x : Int) (w : World) (ht : Tab w) (_hm : s.size ≤ 140737488351232) (_ha : (Lit.int .i64 a).wf = true) (hx : (Lit.int .u8 x).wf = true) :
    Calls Tryd.prog 8 #[.string s, .int .i64 a, .int .u8 x] w fun e w' => e = .returned (.bool true) ∧ Below w.heap.size w w' := by
  have hpos := ht.lt
  obtain ⟨b, rfl⟩ := byte_of hx
  clear hx
  by_cases hs : s.size ≤ 2048 ∧ s.size ≠ 0 ∧ b ≠ 0
  · obtain ⟨hs, hs0, hb0⟩ := hs
    have d1 : decide ((2048 : Int) < (s.size : Int)) = false := by simp; omega
    have d2 : ((s.size : Int) == 0) = false := by rw [beq_eq_false_iff_ne]; omega
    have hbn : b.toNat ≠ 0 := fun h => hb0 (UInt8.toNat_inj.1 h)
    have d3 : ((b.toNat : Int) == 0) = false := by rw [beq_eq_false_iff_ne]; omega
    obtain ⟨K, hK, hKlt⟩ := near_of a s.size hs0 (by omega)
    obtain ⟨c, hc⟩ : ∃ c, s.data.toList[K]? = some c := ⟨_, letter_at hKlt⟩
    obtain ⟨t, htd⟩ : ∃ t, s.data.toList.set K (c ^^^ b) = t := ⟨_, rfl⟩
    have htl : t.length = s.size := by subst htd; simp
    have hun : Crc.of t ≠ Crc.of s.data.toList := by
      subst htd
      intro h
      unfold Crc.of at h
      rw [Crc.from_turn 65535 _ K b c hc] at h
      have h1 : Crc.it (8 * (s.data.toList.length - K)) (b.toNat <<< 8) = 0 := by
        have h2 := congrArg (fun z => Crc.from_ 65535 s.data.toList ^^^ z) h
        simp only [← Nat.xor_assoc, Nat.xor_self, Nat.zero_xor] at h2
        exact h2
      have h3 := Crc.it_zero (Crc.high_lt b.toNat_lt) h1
      rw [Nat.shiftLeft_eq] at h3
      omega
    obtain ⟨cs, hcs⟩ : ∃ cs, Hid (Crc.of s.data.toList = cs) := ⟨_, Lib.hid rfl⟩
    obtain ⟨ct, hct⟩ : ∃ ct, Hid (Crc.of t = ct) := ⟨_, Lib.hid rfl⟩
    rw [hcs.out, hct.out] at hun
    have d4 : ((ct : Int) != (cs : Int)) = true := by rw [bne_iff_ne]; omega
    have e8 := xor8 c b
    generalize c ^^^ b = d at e8 htd
    go_enter Tryd.func8, Tryd.ntmps8
    go_wp2_with fail
    refine (alive_any _ ht).mono ?_
    rintro e w1 ⟨rfl, rfl⟩
    obtain ⟨C, cap, hconv, hrow⟩ := BRow.of_text w1 s
    have hcell : (w1.alloc (.cells C 5 (C.size, C.size + 1))).cell? ⟨w1.heap.size, K, none⟩ = some (.int .u8 (c.toNat : Int)) := hrow.cell hc
    have hfz : (w1.alloc (.cells C 5 (C.size, C.size + 1))).frozen? ⟨w1.heap.size, K, none⟩ = false := hrow.frozen (by simpa using hKlt)
    have hrow2 : BRow ((w1.alloc (.cells C 5 (C.size, C.size + 1))).setCell ⟨w1.heap.size, K, none⟩ (.int .u8 (d.toNat : Int))).drew w1.heap.size t := by
      rw [← htd]
      exact hrow.set_ K d
    have hback := hrow2.text cap
    rw [htl] at hback
    have ht2 : Tab ((w1.alloc (.cells C 5 (C.size, C.size + 1))).setCell ⟨w1.heap.size, K, none⟩ (.int .u8 (d.toNat : Int))).drew := ((ht.alloc _).set_ (by show _ ≠ w1.heap.size; omega) _).drew
    have hz := str_size t
    go_wp2_with fail
    with_reducible refine (of_any _ _ (by rw [str_size]; omega) ht2).mono ?_
    rw [str_list]
    rintro e w2 ⟨rfl, rfl⟩
    go_wp2_with fail
    with_reducible refine (of_any s _ (by omega) ht2).mono ?_
    rw [hcs.out, hct.out]
    rintro e w2 ⟨rfl, rfl⟩
    go_wp2
    go_ret
    exact ⟨rfl, (((Below.refl _ _).alloc (Nat.le_refl _) _).setCell (Nat.le_refl _) _).drew⟩
  · have hcase : 2048 < s.size ∨ (s.size ≤ 2048 ∧ s.size = 0) ∨ (s.size ≤ 2048 ∧ s.size ≠ 0 ∧ b = 0) := by
      by_cases h1 : s.size ≤ 2048
      · by_cases h2 : s.size = 0
        · exact .inr (.inl ⟨h1, h2⟩)
        · by_cases h3 : b = 0
          · exact .inr (.inr ⟨h1, h2, h3⟩)
          · exact absurd ⟨h1, h2, h3⟩ hs
      · exact .inl (by omega)
    clear hs
    rcases hcase with h | ⟨h1, h2⟩ | ⟨h1, h2, rfl⟩
    · have d1 : decide ((2048 : Int) < (s.size : Int)) = true := by simp; omega
      go_enter Tryd.func8, Tryd.ntmps8
      go_wp2_with fail
      refine (alive_any _ ht).mono ?_
      rintro e w1 ⟨rfl, rfl⟩
      go_wp2
      go_ret
      exact ⟨rfl, Below.refl _ _⟩
    · have d1 : decide ((2048 : Int) < (s.size : Int)) = false := by simp; omega
      have d2 : ((s.size : Int) == 0) = true := by rw [beq_iff_eq]; omega
      go_enter Tryd.func8, Tryd.ntmps8
      go_wp2_with fail
      refine (alive_any _ ht).mono ?_
      rintro e w1 ⟨rfl, rfl⟩
      go_wp2
      go_ret
      exact ⟨rfl, Below.refl _ _⟩
    · have d1 : decide ((2048 : Int) < (s.size : Int)) = false := by simp; omega
      have d2 : ((s.size : Int) == 0) = false := by rw [beq_eq_false_iff_ne]; omega
      go_enter Tryd.func8, Tryd.ntmps8
      go_wp2_with fail
      refine (alive_any _ ht).mono ?_
      rintro e w1 ⟨rfl, rfl⟩
      go_wp2
      go_ret
      exact ⟨rfl, Below.refl _ _⟩

set_option maxRecDepth 100000 in
theorem liftedCheckOdd (os : Os) (started : os.Started) (H : Type) (enc : TypeId × Value → H) :
    ReturnsInHanded {} Tryd.checked os 8 .any (fun w args => (Rows.checkOddSpec.pre enc Tryd.prog Tryd.f8 [] false w args ∧ laidMetH Tryd.prog laidL w) ∧ sizedMet enc Tryd.prog Tryd.f8 (OpenSpec.ofChange Rows.checkOddSpec) false w args) (Rows.checkOddSpec.post enc Tryd.prog Tryd.f8 false true false false) := by
  refine returnsInHanded_of_change_and (C := Tryd.checked) (X := fun w _ => laidMetH Tryd.prog laidL w) (fun _ _ _ hh h => h.of_heap hh) own started (by kernel_rfl) Tryd.func8
    (ChangeSpec.witness_shaped (enc := enc) (C := Tryd.checked) (os := os) (X := fun w _ => laidMetH Tryd.prog laidL w) false (World.doorLaid Tryd.prog 400 os) #[.string ⟨#[]⟩, .int .i64 0, .int .u8 0] 8 rfl (World.shaped_of_RefB (by kernel_rfl) (by kernel_rfl)) (by kernel_rfl) (by kernel_rfl) (by kernel_rfl) (door_met os _)) ?_
  intro W base args ds gs before hval0 hW _ hsz0 hL _
  have hval : ∀ (j : Nat) t v, Tryd.f8.params[j]? = some t → args[j]? = some v → Value.okWide Tryd.prog W .any base t v := hval0
  have hsz : (DataW.weightsEach Tryd.prog (Tryd.f8.params.toList ++ Rows.checkOddSpec.plain.varTypes Tryd.prog) (ds ++ gs)).all (· ≤ reachBytes) = true := hsz0
  clear hsz0
  have hW' := hW
  obtain ⟨p, q, hA0, hV, rfl, hfz, hnd⟩ := hW
  have hA : DataW.TrodAll enc Tryd.prog W 0 (fun _ => true) true Tryd.f8.params.toList args.toList ds p := hA0
  rw [Tryd.params8] at hA hval hsz
  obtain ⟨v0, vs0, d0, ds0, p0, q0, hargs, rfl, rfl, h0, r0⟩ := trodAll_cons hA
  obtain ⟨v1, vs1, d1, ds1, p1, q1, rfl, rfl, rfl, h1, r1⟩ := trodAll_cons r0
  obtain ⟨v2, vs2, d2, ds2, p2, q2, rfl, rfl, rfl, h2, r2⟩ := trodAll_cons r1
  obtain ⟨rfl, rfl, rfl⟩ := trodAll_nil r2
  obtain rfl : args = #[v0, v1, v2] := by cases args; simp_all
  obtain ⟨rfl, rfl⟩ := trodVars_none hV
  obtain ⟨s0, rfl, rfl, rfl, w0⟩ := open_string Tryd.underlying9 (hval 0 9 v0 rfl rfl) h0
  obtain ⟨a1, rfl, rfl, rfl, w1⟩ := open_int Tryd.underlying3 (hval 1 3 v1 rfl rfl) h1
  obtain ⟨a2, rfl, rfl, rfl, w2⟩ := open_int Tryd.underlying5 (hval 2 5 v2 rfl rfl) h2
  have b0 : s0.size ≤ 140737488351232 := by
    have := sized_string hsz (j := 0) (t := 9) rfl rfl
    simpa [reachBytes] using this
  clear hA0 hval0
  refine (walkCheckOdd s0 a1 a2 W (tab_of_laid hL) b0 w1 w2).mono fun e W' ⟨he, bel⟩ => ?_
  subst he
  exact ⟨_, rfl, _, _, _, [], _, [], hW', trodAll_mk1 (shut_bool Tryd.underlying4 _), (trodAll_cons_mk (shut_string Tryd.underlying9 w0) (trodAll_cons_mk (shut_int Tryd.underlying3 w1) (trodAll_cons_mk (shut_int Tryd.underlying5 w2) trodAll_mk0))), rfl, bel.frame _, fun h => by cases h⟩

theorem overCheckOdd : Rows.checkOddRow.holds Tryd.pinned (OpenSpec.ofChange Rows.checkOddSpec) :=
  OpenClaim.holds_of_wide 8 Tryd.f8 rfl rfl rfl rfl rfl rfl rfl ⟨rfl, rfl, rfl, rfl, rfl⟩ rfl rfl rfl rfl rfl (by kernel_rfl) Tryd.func8 (by kernel_rfl)
    (of_decide_eq_true (by kernel_rfl)) (by unfold Func.isWrapper; first | (rw [if_pos (by decide +kernel)]; kernel_rfl) | (rw [if_neg (by decide +kernel)]; exact ⟨rfl, rfl⟩))
    (fun os started H enc _ => liftedCheckOdd os started H enc)

theorem checkOdd_said : Rows.CheckOddSaid := overCheckOdd

/-- The statement: the card. -/
theorem checkOdd_holds : Rows.CheckOddCardSaid :=
  Claim7.holds_tied_plain_at .later [] [.data] true Rows.checkOddCard.stood.harness false
    checkOdd_said (fun _ h => by cases h) (by kernel_rfl) (fun _ h => by cases h) checkOdd_row_tie rfl ⟨rfl, rfl⟩ (by kernel_rfl) rfl
    (fun f fn hf hfn => by
      obtain rfl : f = 8 := Option.some.inj ((show Tryd.prog.funcNamed "kissgate/kissgatelaw04.CheckOdd" = some 8 by kernel_rfl).symm.trans hf) |>.symm
      obtain rfl : fn = Tryd.f8 := (Option.some.inj (Tryd.func8.symm.trans hfn)).symm
      exact ⟨by kernel_rfl, fun j t ht => by
        rw [Tryd.params8] at ht
        have hm : t ∈ [9, 3, 5] := by simpa using Array.mem_of_getElem? ht
        have hall : ([9, 3, 5].all fun u => !Tryd.prog.wantsStandIn u) = true := by kernel_rfl
        exact (show Tryd.prog.wantsStandIn t = false by simpa using List.all_eq_true.1 hall t hm)⟩)
    (by kernel_rfl)

#print axioms checkOdd_holds
end Go.Proofs.YtjkldopjiabamaaDoor
