/- CheckRow: with up to two bytes in a row turned what was sealed, a text of up to 500 bytes, isn't stripped; of a longer one, and of a turn that turns nothing nothing is asked. Condition: the table check.turns reads as the program's text lays it (the card ties that). -/
import Derived.Test.YtjkldopjiabamaaDoorLaid
import Derived.Test.YtjkldopjiabamaaDoorTurn
import Derived.Test.YtjkldopjiabamaaDoorSpoilt
import Derived.Test.YtjkldopjiabamaaDoorTie
import Derived.Test.YtjkldopjiabamaaDoorCards
namespace Go.Proofs.YtjkldopjiabamaaDoor
open Go.ChangeShapes Go.WideShapes Go.ChangeAt Go.RowKit
open Go.ChangeMaps (open_string shut_string)

theorem wrap_u16 (n : Int) : IntKind.u16.wrap n = n % 65536 := by simp [IntKind.wrap, IntKind.bits, IntKind.signed]
theorem byte_wrap (n : Int) : ∃ b : UInt8, IntKind.u8.wrap n = (b.toNat : Int) := by
  rw [IntKind.wrap_u8]
  refine ⟨UInt8.ofNat (n % 256).toNat, ?_⟩
  simp
  omega

set_option maxHeartbeats 1000000 in
theorem walkCheckRow (s : ByteArray) (a x : Int) (w : World) (ht : Tab w) (_hm : s.size ≤ 140737488351232) (_ha : (Lit.int .i64 a).wf = true) (_hx : (Lit.int .i64 x).wf = true) :
    Calls Tryd.prog 5 #[.string s, .int .i64 a, .int .i64 x] w fun e w' => e = .returned (.bool true) ∧ Below w.heap.size w w' := by
  have hpos := ht.lt
  by_cases hs : s.size ≤ 500 ∧ IntKind.u16.wrap x ≠ 0
  · obtain ⟨hs, hx0⟩ := hs
    have d1 : decide ((500 : Int) < (s.size : Int)) = false := by simp; omega
    have d2 : (IntKind.u16.wrap x == 0) = false := by rw [beq_eq_false_iff_ne]; exact hx0
    obtain ⟨bh, hbh⟩ := byte_wrap (x / 256)
    obtain ⟨bl, hbl⟩ := byte_wrap x
    have hbb : bh.toNat ≠ 0 ∨ bl.toNat ≠ 0 := by
      rw [IntKind.wrap_u8] at hbh hbl
      rw [wrap_u16] at hx0
      omega
    obtain ⟨n1, hn1⟩ : ∃ n1, Hid (n1 = s.size + 1) := ⟨_, Lib.hid rfl⟩
    obtain ⟨K, hK, hKlt⟩ := near_of a n1 (by have := hn1.out; omega) (by have := hn1.out; omega)
    have hKs : K < s.size + 1 := by have := hn1.out; omega
    obtain ⟨L, hLd⟩ : ∃ L, Crc.sealed s.data.toList = L := ⟨_, rfl⟩
    have hL0 : Crc.of L = 0 := by rw [← hLd]; exact Crc.sealed_zero _
    have hLl : L.length = s.size + 2 := by rw [← hLd, Crc.sealed_length]; simp
    obtain ⟨c0, hc0⟩ : ∃ c, L[K]? = some c := ⟨_, List.getElem?_eq_getElem (by omega)⟩
    obtain ⟨c1, hc1⟩ : ∃ c, L[K + 1]? = some c := ⟨_, List.getElem?_eq_getElem (by omega)⟩
    have hun := Crc.row_turned hL0 hc0 hc1 hbb
    have e8 := xor8 c0 bh
    have e9 := xor8 c1 bl
    generalize c0 ^^^ bh = d0 at e8 hun
    generalize c1 ^^^ bl = d1 at e9 hun
    go_enter Tryd.func5, Tryd.ntmps5
    go_wp2_with fail
    refine (alive_any _ ht).mono ?_
    rintro e w1 ⟨rfl, rfl⟩
    go_wp2_with fail
    with_reducible refine (seal_any s _ (by omega) ht).mono ?_
    rw [hLd]
    rintro e w2 ⟨rfl, b2⟩
    have ht2 := ht.below b2 hpos
    have hs2 := b2.size
    obtain ⟨C, cap, hconv, hrow⟩ := BRow.of_text w2 (str L)
    have hz : (str L).size = s.size + 2 := by rw [str_size]; exact hLl
    rw [str_list] at hrow
    obtain ⟨T, hTd⟩ : ∃ T, Hid (str L = T) := ⟨_, Lib.hid rfl⟩
    obtain ⟨N, hN⟩ : ∃ N, Hid (N = s.size + 2) := ⟨_, Lib.hid rfl⟩
    rw [hTd.out, ← hN.out] at hz
    rw [hTd.out, hz] at hconv
    rw [hTd.out]
    have hn : (N : Int) - 1 = (n1 : Int) := by have := hN.out; have := hn1.out; omega
    have hNlt : N ≤ 502 := by have := hN.out; omega
    have hKN : K + 1 < N := by have := hN.out; omega
    have hcell : (w2.alloc (.cells C 5 (C.size, C.size + 1))).cell? ⟨w2.heap.size, K, none⟩ = some (.int .u8 (c0.toNat : Int)) := hrow.cell hc0
    have hfz : (w2.alloc (.cells C 5 (C.size, C.size + 1))).frozen? ⟨w2.heap.size, K, none⟩ = false := hrow.frozen (by omega)
    have hrow1 := hrow.set_ K d0
    have hc1' : (L.set K d0)[K + 1]? = some c1 := by rw [List.getElem?_set_ne (by omega)]; exact hc1
    have hcell1 : ((w2.alloc (.cells C 5 (C.size, C.size + 1))).setCell ⟨w2.heap.size, K, none⟩ (.int .u8 (d0.toNat : Int))).cell? ⟨w2.heap.size, K + 1, none⟩ = some (.int .u8 (c1.toNat : Int)) := hrow1.cell hc1'
    have hfz1 : ((w2.alloc (.cells C 5 (C.size, C.size + 1))).setCell ⟨w2.heap.size, K, none⟩ (.int .u8 (d0.toNat : Int))).frozen? ⟨w2.heap.size, K + 1, none⟩ = false := hrow1.frozen (by rw [List.length_set]; omega)
    have hrow2 : BRow (((w2.alloc (.cells C 5 (C.size, C.size + 1))).setCell ⟨w2.heap.size, K, none⟩ (.int .u8 (d0.toNat : Int))).setCell ⟨w2.heap.size, K + 1, none⟩ (.int .u8 (d1.toNat : Int))).drew w2.heap.size ((L.set K d0).set (K + 1) d1) := hrow1.set_ (K + 1) d1
    have ht3 : Tab (((w2.alloc (.cells C 5 (C.size, C.size + 1))).setCell ⟨w2.heap.size, K, none⟩ (.int .u8 (d0.toNat : Int))).setCell ⟨w2.heap.size, K + 1, none⟩ (.int .u8 (d1.toNat : Int))).drew :=
      (((ht2.alloc _).set_ (by show _ ≠ w2.heap.size; omega) _).set_ (by show _ ≠ w2.heap.size; omega) _).drew
    have hb3 : Below w2.heap.size w2 (((w2.alloc (.cells C 5 (C.size, C.size + 1))).setCell ⟨w2.heap.size, K, none⟩ (.int .u8 (d0.toNat : Int))).setCell ⟨w2.heap.size, K + 1, none⟩ (.int .u8 (d1.toNat : Int))).drew :=
      ((((Below.refl _ _).alloc (Nat.le_refl _) _).setCell (Nat.le_refl _) _).setCell (Nat.le_refl _) _).drew
    obtain ⟨M, hM⟩ : ∃ M, (L.set K d0).set (K + 1) d1 = M := ⟨_, rfl⟩
    have hMl : M.length = N := by rw [← hM, List.length_set, List.length_set, hLl]; exact hN.out.symm
    rw [hM] at hrow2 hun
    have hback := hrow2.text cap
    rw [hMl] at hback
    have hMz : (str M).size = N := by rw [str_size]; exact hMl
    have hun' : Crc.of (str M).data.toList ≠ 0 := by rw [str_list]; exact hun
    clear hrow hrow1 hrow2 hun hM
    generalize str M = U at *
    have hun2 := Lib.hid hun'
    clear hun'
    go_wp2_with fail
    with_reducible refine (strip_long U _ (by omega) (by omega) ht3 hun2.out).mono ?_
    rintro e w4 ⟨rfl, b4⟩
    go_wp2
    go_ret
    exact ⟨rfl, b2.trans ((hb3.mono hs2).trans (b4.mono (by have := hb3.size; omega)))⟩
  · have hcase : 500 < s.size ∨ (s.size ≤ 500 ∧ IntKind.u16.wrap x = 0) := by
      by_cases h1 : s.size ≤ 500
      · by_cases h2 : IntKind.u16.wrap x = 0
        · exact .inr ⟨h1, h2⟩
        · exact absurd ⟨h1, h2⟩ hs
      · exact .inl (by omega)
    clear hs
    rcases hcase with h | ⟨h1, h2⟩
    · have d1 : decide ((500 : Int) < (s.size : Int)) = true := by simp; omega
      go_enter Tryd.func5, Tryd.ntmps5
      go_wp2_with fail
      refine (alive_any _ ht).mono ?_
      rintro e w1 ⟨rfl, rfl⟩
      go_wp2
      go_ret
      exact ⟨rfl, Below.refl _ _⟩
    · have d1 : decide ((500 : Int) < (s.size : Int)) = false := by simp; omega
      go_enter Tryd.func5, Tryd.ntmps5
      go_wp2_with fail
      refine (alive_any _ ht).mono ?_
      rintro e w1 ⟨rfl, rfl⟩
      go_wp2
      go_ret
      exact ⟨rfl, Below.refl _ _⟩

set_option maxRecDepth 100000 in
theorem liftedCheckRow (os : Os) (started : os.Started) (H : Type) (enc : TypeId × Value → H) :
    ReturnsInHanded {} Tryd.checked os 5 .any (fun w args => (Rows.checkRowSpec.pre enc Tryd.prog Tryd.f5 [] false w args ∧ laidMetH Tryd.prog laidL w) ∧ sizedMet enc Tryd.prog Tryd.f5 (OpenSpec.ofChange Rows.checkRowSpec) false w args) (Rows.checkRowSpec.post enc Tryd.prog Tryd.f5 false true false false) := by
  refine returnsInHanded_of_change_and (C := Tryd.checked) (X := fun w _ => laidMetH Tryd.prog laidL w) (fun _ _ _ hh h => h.of_heap hh) own started (by kernel_rfl) Tryd.func5
    (ChangeSpec.witness_shaped (enc := enc) (C := Tryd.checked) (os := os) (X := fun w _ => laidMetH Tryd.prog laidL w) false (World.doorLaid Tryd.prog 400 os) #[.string ⟨#[]⟩, .int .i64 0, .int .i64 0] 8 rfl (World.shaped_of_RefB (by kernel_rfl) (by kernel_rfl)) (by kernel_rfl) (by kernel_rfl) (by kernel_rfl) (door_met os _)) ?_
  intro W base args ds gs before hval0 hW _ hsz0 hL _
  have hval : ∀ (j : Nat) t v, Tryd.f5.params[j]? = some t → args[j]? = some v → Value.okWide Tryd.prog W .any base t v := hval0
  have hsz : (DataW.weightsEach Tryd.prog (Tryd.f5.params.toList ++ Rows.checkRowSpec.plain.varTypes Tryd.prog) (ds ++ gs)).all (· ≤ reachBytes) = true := hsz0
  clear hsz0
  have hW' := hW
  obtain ⟨p, q, hA0, hV, rfl, hfz, hnd⟩ := hW
  have hA : DataW.TrodAll enc Tryd.prog W 0 (fun _ => true) true Tryd.f5.params.toList args.toList ds p := hA0
  rw [Tryd.params5] at hA hval hsz
  obtain ⟨v0, vs0, d0, ds0, p0, q0, hargs, rfl, rfl, h0, r0⟩ := trodAll_cons hA
  obtain ⟨v1, vs1, d1, ds1, p1, q1, rfl, rfl, rfl, h1, r1⟩ := trodAll_cons r0
  obtain ⟨v2, vs2, d2, ds2, p2, q2, rfl, rfl, rfl, h2, r2⟩ := trodAll_cons r1
  obtain ⟨rfl, rfl, rfl⟩ := trodAll_nil r2
  obtain rfl : args = #[v0, v1, v2] := by cases args; simp_all
  obtain ⟨rfl, rfl⟩ := trodVars_none hV
  obtain ⟨s0, rfl, rfl, rfl, w0⟩ := open_string Tryd.underlying9 (hval 0 9 v0 rfl rfl) h0
  obtain ⟨a1, rfl, rfl, rfl, w1⟩ := open_int Tryd.underlying3 (hval 1 3 v1 rfl rfl) h1
  obtain ⟨a2, rfl, rfl, rfl, w2⟩ := open_int Tryd.underlying3 (hval 2 3 v2 rfl rfl) h2
  have b0 : s0.size ≤ 140737488351232 := by
    have := sized_string hsz (j := 0) (t := 9) rfl rfl
    simpa [reachBytes] using this
  clear hA0 hval0
  refine (walkCheckRow s0 a1 a2 W (tab_of_laid hL) b0 w1 w2).mono fun e W' ⟨he, bel⟩ => ?_
  subst he
  exact ⟨_, rfl, _, _, _, [], _, [], hW', trodAll_mk1 (shut_bool Tryd.underlying4 _), (trodAll_cons_mk (shut_string Tryd.underlying9 w0) (trodAll_cons_mk (shut_int Tryd.underlying3 w1) (trodAll_cons_mk (shut_int Tryd.underlying3 w2) trodAll_mk0))), rfl, bel.frame _, fun h => by cases h⟩

theorem overCheckRow : Rows.checkRowRow.holds Tryd.pinned (OpenSpec.ofChange Rows.checkRowSpec) :=
  OpenClaim.holds_of_wide 5 Tryd.f5 rfl rfl rfl rfl rfl rfl rfl ⟨rfl, rfl, rfl, rfl, rfl⟩ rfl rfl rfl rfl rfl (by kernel_rfl) Tryd.func5 (by kernel_rfl)
    (of_decide_eq_true (by kernel_rfl)) (by unfold Func.isWrapper; first | (rw [if_pos (by decide +kernel)]; kernel_rfl) | (rw [if_neg (by decide +kernel)]; exact ⟨rfl, rfl⟩))
    (fun os started H enc _ => liftedCheckRow os started H enc)

theorem checkRow_said : Rows.CheckRowSaid := overCheckRow

/-- The statement: the card. -/
theorem checkRow_holds : Rows.CheckRowCardSaid :=
  Claim7.holds_tied_plain_at .later [] [.data] true Rows.checkRowCard.stood.harness false
    checkRow_said (fun _ h => by cases h) (by kernel_rfl) (fun _ h => by cases h) checkRow_row_tie rfl ⟨rfl, rfl⟩ (by kernel_rfl) rfl
    (fun f fn hf hfn => by
      obtain rfl : f = 5 := Option.some.inj ((show Tryd.prog.funcNamed "kissgate/kissgatelaw04.CheckRow" = some 5 by kernel_rfl).symm.trans hf) |>.symm
      obtain rfl : fn = Tryd.f5 := (Option.some.inj (Tryd.func5.symm.trans hfn)).symm
      exact ⟨by kernel_rfl, fun j t ht => by
        rw [Tryd.params5] at ht
        have hm : t ∈ [9, 3, 3] := by simpa using Array.mem_of_getElem? ht
        have hall : ([9, 3, 3].all fun u => !Tryd.prog.wantsStandIn u) = true := by kernel_rfl
        exact (show Tryd.prog.wantsStandIn t = false by simpa using List.all_eq_true.1 hall t hm)⟩)
    (by kernel_rfl)

#print axioms checkRow_holds
end Go.Proofs.YtjkldopjiabamaaDoor
