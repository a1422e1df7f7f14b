/- CheckBits: with one bit, or two, turned what was sealed, a text of up to 500 bytes, isn't stripped; of a longer one nothing is asked. Condition: the table check.turns reads as the program's text lays it (the card ties that). -/
import Derived.Test.YtjkldopjiabamaaDoorLaid
import Derived.Test.YtjkldopjiabamaaDoorTurn
import Derived.Test.YtjkldopjiabamaaDoorSpoilt
import Derived.Test.YtjkldopjiabamaaDoorTie
import Derived.Test.YtjkldopjiabamaaDoorCards
namespace Go.Proofs.YtjkldopjiabamaaDoor
open Go.ChangeShapes Go.WideShapes Go.ChangeAt Go.RowKit
open Go.ChangeMaps (open_string shut_string)

theorem bit_of : ∀ i, i < 8 → ∃ b : UInt8, b.toNat = 2 ^ i ∧ (2 : Int) ^ i % 256 = (b.toNat : Int) := by
  intro i hi
  have : i = 0 ∨ i = 1 ∨ i = 2 ∨ i = 3 ∨ i = 4 ∨ i = 5 ∨ i = 6 ∨ i = 7 := by omega
  rcases this with rfl | rfl | rfl | rfl | rfl | rfl | rfl | rfl
  · exact ⟨1, rfl, rfl⟩
  · exact ⟨2, rfl, rfl⟩
  · exact ⟨4, rfl, rfl⟩
  · exact ⟨8, rfl, rfl⟩
  · exact ⟨16, rfl, rfl⟩
  · exact ⟨32, rfl, rfl⟩
  · exact ⟨64, rfl, rfl⟩
  · exact ⟨128, rfl, rfl⟩

set_option maxHeartbeats 1000000 in
theorem walkCheckBits (s : ByteArray) (a b : Int) (w : World) (ht : Tab w) (_hm : s.size ≤ 140737488351232) (_ha : (Lit.int .i64 a).wf = true) (_hb : (Lit.int .i64 b).wf = true) :
    Calls Tryd.prog 6 #[.string s, .int .i64 a, .int .i64 b] w fun e w' => e = .returned (.bool true) ∧ Below w.heap.size w w' := by
  have hpos := ht.lt
  by_cases hs : s.size ≤ 500
  · have d1 : decide ((500 : Int) < (s.size : Int)) = false := by simp; omega
    obtain ⟨n1, hn1⟩ : ∃ n1, Hid (n1 = 8 * (s.size + 2)) := ⟨_, Lib.hid rfl⟩
    obtain ⟨X, hX, hXlt⟩ := near_of a n1 (by have := hn1.out; omega) (by have := hn1.out; omega)
    obtain ⟨Y, hY, hYlt⟩ := near_of b n1 (by have := hn1.out; omega) (by have := hn1.out; omega)
    obtain ⟨L, hLd⟩ : ∃ L, Crc.sealed s.data.toList = L := ⟨_, rfl⟩
    have hL0 : Crc.of L = 0 := by rw [← hLd]; exact Crc.sealed_zero _
    have hLl : L.length = s.size + 2 := by rw [← hLd, Crc.sealed_length]; simp
    have hXs : X < 8 * (s.size + 2) := by have := hn1.out; omega
    have hYs : Y < 8 * (s.size + 2) := by have := hn1.out; omega
    obtain ⟨c0, hc0⟩ : ∃ c, L[X / 8]? = some c := ⟨_, List.getElem?_eq_getElem (by omega)⟩
    obtain ⟨x, hx, hxw⟩ := bit_of (X % 8) (by omega)
    obtain ⟨y, hy, hyw⟩ := bit_of (Y % 8) (by omega)
    have e8 := xor8 c0 x
    rw [← hxw] at e8
    have hdx : X = 8 * (X / 8) + X % 8 := by omega
    have hdy : Y = 8 * (Y / 8) + Y % 8 := by omega
    have hone := Crc.one_turned hL0 hc0 (i := X % 8) (by omega) hx
    obtain ⟨d0, hd0⟩ : ∃ d, c0 ^^^ x = d := ⟨_, rfl⟩
    rw [hd0] at e8 hone
    obtain ⟨c1, hc1⟩ : ∃ c, (L.set (X / 8) d0)[Y / 8]? = some c := ⟨_, List.getElem?_eq_getElem (by rw [List.length_set]; omega)⟩
    have e9 := xor8 c1 y
    rw [← hyw] at e9
    have htwo : X ≠ Y → Crc.of ((L.set (X / 8) d0).set (Y / 8) (c1 ^^^ y)) ≠ 0 := by
      intro hne
      rw [← hd0] at hc1 ⊢
      exact Crc.two_turned hL0 (by omega) hc0 (i := X % 8) (j := Y % 8) (by omega) (by omega) hx hy hc1 (by omega)
    generalize c1 ^^^ y = d1 at e9 htwo
    clear hdx hdy hx hy hxw hyw hd0
    go_enter Tryd.func6, Tryd.ntmps6
    go_wp2_with fail
    refine (alive_any _ ht).mono ?_
    rintro e w1 ⟨rfl, rfl⟩
    go_wp2_with fail
    with_reducible refine (seal_any s _ (by omega) ht).mono ?_
    rw [hLd]
    rintro e w2 ⟨rfl, b2⟩
    have ht2 := ht.below b2 hpos
    have hs2 := b2.size
    obtain ⟨C, cap, hconv, hrow⟩ := BRow.of_text w2 (str L)
    have hz : (str L).size = s.size + 2 := by rw [str_size]; exact hLl
    rw [str_list] at hrow
    obtain ⟨T, hTd⟩ : ∃ T, Hid (str L = T) := ⟨_, Lib.hid rfl⟩
    obtain ⟨N, hN⟩ : ∃ N, Hid (N = s.size + 2) := ⟨_, Lib.hid rfl⟩
    rw [hTd.out, ← hN.out] at hz
    rw [hTd.out, hz] at hconv
    rw [hTd.out]
    have hn : 8 * (N : Int) = (n1 : Int) := by have := hN.out; have := hn1.out; omega
    have hNlt : N ≤ 502 := by have := hN.out; omega
    have hN0 : 0 < n1 := by have := hn1.out; omega
    go_wp2_with fail
    go_quiet (fail)
    have hcell : (w2.alloc (.cells C 5 (C.size, C.size + 1))).cell? ⟨w2.heap.size, X / 8, none⟩ = some (.int .u8 (c0.toNat : Int)) := hrow.cell hc0
    have hfz : (w2.alloc (.cells C 5 (C.size, C.size + 1))).frozen? ⟨w2.heap.size, X / 8, none⟩ = false := hrow.frozen (by have := hN.out; omega)
    have hrow1 : BRow (((w2.alloc (.cells C 5 (C.size, C.size + 1))).drewN (1 + nq)).setCell ⟨w2.heap.size, X / 8, none⟩ (.int .u8 (d0.toNat : Int))) w2.heap.size (L.set (X / 8) d0) := hrow.set_ (X / 8) d0
    have ht3 : Tab (((w2.alloc (.cells C 5 (C.size, C.size + 1))).drewN (1 + nq)).setCell ⟨w2.heap.size, X / 8, none⟩ (.int .u8 (d0.toNat : Int))) :=
      ((ht2.alloc _).drewN _).set_ (by show _ ≠ w2.heap.size; omega) _
    have hb0 : Below w2.heap.size w2 ((w2.alloc (.cells C 5 (C.size, C.size + 1))).drewN (1 + nq)) := by
      have h := (Below.refl w2.heap.size w2).alloc (Nat.le_refl _) (.cells C 5 (C.size, C.size + 1))
      exact ⟨h.os, h.tape, h.output, h.size, h.block⟩
    have hb3 := hb0.setCell (p := ⟨w2.heap.size, X / 8, none⟩) (Nat.le_refl _) (.int .u8 (d0.toNat : Int))
    by_cases hXY : X = Y
    · obtain rfl := hXY
      obtain ⟨M, hM⟩ : ∃ M, L.set (X / 8) d0 = M := ⟨_, rfl⟩
      have hMl : M.length = N := by rw [← hM, List.length_set, hLl]; exact hN.out.symm
      rw [hM] at hrow1 hone
      have hback := hrow1.text cap
      rw [hMl] at hback
      have hMz : (str M).size = N := by rw [str_size]; exact hMl
      have hun' : Crc.of (str M).data.toList ≠ 0 := by rw [str_list]; exact hone
      clear hrow hrow1 hone hM htwo hc1 e9
      generalize str M = U at *
      have hun2 := Lib.hid hun'
      clear hun'
      go_wp2_with fail
      with_reducible refine (strip_long U _ (by have := hN.out; omega) (by omega) ht3 hun2.out).mono ?_
      rintro e w4 ⟨rfl, b4⟩
      go_wp2
      go_ret
      exact ⟨rfl, b2.trans ((hb3.mono hs2).trans (b4.mono (by have := hb3.size; omega)))⟩
    · have dne : ((X : Int) != (Y : Int)) = true := by rw [bne_iff_ne]; omega
      have htwo' := htwo hXY
      have hcell1 : (((w2.alloc (.cells C 5 (C.size, C.size + 1))).drewN (1 + nq)).setCell ⟨w2.heap.size, X / 8, none⟩ (.int .u8 (d0.toNat : Int))).cell? ⟨w2.heap.size, Y / 8, none⟩ = some (.int .u8 (c1.toNat : Int)) := hrow1.cell hc1
      have hfz1 : (((w2.alloc (.cells C 5 (C.size, C.size + 1))).drewN (1 + nq)).setCell ⟨w2.heap.size, X / 8, none⟩ (.int .u8 (d0.toNat : Int))).frozen? ⟨w2.heap.size, Y / 8, none⟩ = false := hrow1.frozen (by rw [List.length_set]; omega)
      have hrow2 := hrow1.set_ (Y / 8) d1
      have ht4 := ht3.set_ (a := ⟨w2.heap.size, Y / 8, none⟩) (by show _ ≠ w2.heap.size; omega) (.int .u8 (d1.toNat : Int))
      have hb4 := hb3.setCell (p := ⟨w2.heap.size, Y / 8, none⟩) (Nat.le_refl _) (.int .u8 (d1.toNat : Int))
      obtain ⟨M, hM⟩ : ∃ M, (L.set (X / 8) d0).set (Y / 8) d1 = M := ⟨_, rfl⟩
      have hMl : M.length = N := by rw [← hM, List.length_set, List.length_set, hLl]; exact hN.out.symm
      rw [hM] at hrow2 htwo'
      have hback := hrow2.text cap
      rw [hMl] at hback
      have hMz : (str M).size = N := by rw [str_size]; exact hMl
      have hun' : Crc.of (str M).data.toList ≠ 0 := by rw [str_list]; exact htwo'
      clear hrow hrow1 hrow2 hone hM htwo htwo' hc1 hXY
      generalize str M = U at *
      have hun2 := Lib.hid hun'
      clear hun'
      go_wp2_with fail
      with_reducible refine (strip_long U _ (by have := hN.out; omega) (by omega) ht4 hun2.out).mono ?_
      rintro e w4 ⟨rfl, b4⟩
      go_wp2
      go_ret
      exact ⟨rfl, b2.trans ((hb4.mono hs2).trans (b4.mono (by have := hb4.size; omega)))⟩
  · have d1 : decide ((500 : Int) < (s.size : Int)) = true := by simp; omega
    go_enter Tryd.func6, Tryd.ntmps6
    go_wp2_with fail
    refine (alive_any _ ht).mono ?_
    rintro e w1 ⟨rfl, rfl⟩
    go_wp2
    go_ret
    exact ⟨rfl, Below.refl _ _⟩

set_option maxRecDepth 100000 in
theorem liftedCheckBits (os : Os) (started : os.Started) (H : Type) (enc : TypeId × Value → H) :
    ReturnsInHanded {} Tryd.checked os 6 .any (fun w args => (Rows.checkBitsSpec.pre enc Tryd.prog Tryd.f6 [] false w args ∧ laidMetH Tryd.prog laidL w) ∧ sizedMet enc Tryd.prog Tryd.f6 (OpenSpec.ofChange Rows.checkBitsSpec) false w args) (Rows.checkBitsSpec.post enc Tryd.prog Tryd.f6 false true false false) := by
  refine returnsInHanded_of_change_and (C := Tryd.checked) (X := fun w _ => laidMetH Tryd.prog laidL w) (fun _ _ _ hh h => h.of_heap hh) own started (by kernel_rfl) Tryd.func6
    (ChangeSpec.witness_shaped (enc := enc) (C := Tryd.checked) (os := os) (X := fun w _ => laidMetH Tryd.prog laidL w) false (World.doorLaid Tryd.prog 400 os) #[.string ⟨#[]⟩, .int .i64 0, .int .i64 0] 8 rfl (World.shaped_of_RefB (by kernel_rfl) (by kernel_rfl)) (by kernel_rfl) (by kernel_rfl) (by kernel_rfl) (door_met os _)) ?_
  intro W base args ds gs before hval0 hW _ hsz0 hL _
  have hval : ∀ (j : Nat) t v, Tryd.f6.params[j]? = some t → args[j]? = some v → Value.okWide Tryd.prog W .any base t v := hval0
  have hsz : (DataW.weightsEach Tryd.prog (Tryd.f6.params.toList ++ Rows.checkBitsSpec.plain.varTypes Tryd.prog) (ds ++ gs)).all (· ≤ reachBytes) = true := hsz0
  clear hsz0
  have hW' := hW
  obtain ⟨p, q, hA0, hV, rfl, hfz, hnd⟩ := hW
  have hA : DataW.TrodAll enc Tryd.prog W 0 (fun _ => true) true Tryd.f6.params.toList args.toList ds p := hA0
  rw [Tryd.params6] at hA hval hsz
  obtain ⟨v0, vs0, d0, ds0, p0, q0, hargs, rfl, rfl, h0, r0⟩ := trodAll_cons hA
  obtain ⟨v1, vs1, d1, ds1, p1, q1, rfl, rfl, rfl, h1, r1⟩ := trodAll_cons r0
  obtain ⟨v2, vs2, d2, ds2, p2, q2, rfl, rfl, rfl, h2, r2⟩ := trodAll_cons r1
  obtain ⟨rfl, rfl, rfl⟩ := trodAll_nil r2
  obtain rfl : args = #[v0, v1, v2] := by cases args; simp_all
  obtain ⟨rfl, rfl⟩ := trodVars_none hV
  obtain ⟨s0, rfl, rfl, rfl, w0⟩ := open_string Tryd.underlying9 (hval 0 9 v0 rfl rfl) h0
  obtain ⟨a1, rfl, rfl, rfl, w1⟩ := open_int Tryd.underlying3 (hval 1 3 v1 rfl rfl) h1
  obtain ⟨a2, rfl, rfl, rfl, w2⟩ := open_int Tryd.underlying3 (hval 2 3 v2 rfl rfl) h2
  have b0 : s0.size ≤ 140737488351232 := by
    have := sized_string hsz (j := 0) (t := 9) rfl rfl
    simpa [reachBytes] using this
  clear hA0 hval0
  refine (walkCheckBits s0 a1 a2 W (tab_of_laid hL) b0 w1 w2).mono fun e W' ⟨he, bel⟩ => ?_
  subst he
  exact ⟨_, rfl, _, _, _, [], _, [], hW', trodAll_mk1 (shut_bool Tryd.underlying4 _), (trodAll_cons_mk (shut_string Tryd.underlying9 w0) (trodAll_cons_mk (shut_int Tryd.underlying3 w1) (trodAll_cons_mk (shut_int Tryd.underlying3 w2) trodAll_mk0))), rfl, bel.frame _, fun h => by cases h⟩

theorem overCheckBits : Rows.checkBitsRow.holds Tryd.pinned (OpenSpec.ofChange Rows.checkBitsSpec) :=
  OpenClaim.holds_of_wide 6 Tryd.f6 rfl rfl rfl rfl rfl rfl rfl ⟨rfl, rfl, rfl, rfl, rfl⟩ rfl rfl rfl rfl rfl (by kernel_rfl) Tryd.func6 (by kernel_rfl)
    (of_decide_eq_true (by kernel_rfl)) (by unfold Func.isWrapper; first | (rw [if_pos (by decide +kernel)]; kernel_rfl) | (rw [if_neg (by decide +kernel)]; exact ⟨rfl, rfl⟩))
    (fun os started H enc _ => liftedCheckBits os started H enc)

theorem checkBits_said : Rows.CheckBitsSaid := overCheckBits

/-- The statement: the card. -/
theorem checkBits_holds : Rows.CheckBitsCardSaid :=
  Claim7.holds_tied_plain_at .later [] [.data] true Rows.checkBitsCard.stood.harness false
    checkBits_said (fun _ h => by cases h) (by kernel_rfl) (fun _ h => by cases h) checkBits_row_tie rfl ⟨rfl, rfl⟩ (by kernel_rfl) rfl
    (fun f fn hf hfn => by
      obtain rfl : f = 6 := Option.some.inj ((show Tryd.prog.funcNamed "kissgate/kissgatelaw04.CheckBits" = some 6 by kernel_rfl).symm.trans hf) |>.symm
      obtain rfl : fn = Tryd.f6 := (Option.some.inj (Tryd.func6.symm.trans hfn)).symm
      exact ⟨by kernel_rfl, fun j t ht => by
        rw [Tryd.params6] at ht
        have hm : t ∈ [9, 3, 3] := by simpa using Array.mem_of_getElem? ht
        have hall : ([9, 3, 3].all fun u => !Tryd.prog.wantsStandIn u) = true := by kernel_rfl
        exact (show Tryd.prog.wantsStandIn t = false by simpa using List.all_eq_true.1 hall t hm)⟩)
    (by kernel_rfl)

#print axioms checkBits_holds
end Go.Proofs.YtjkldopjiabamaaDoor
