/- PackFours: Fours and Size4 answer what the document says, of all lists; what is packed is unpacked. No condition. -/
import Derived.Test.YtbppipanonmcmaaPkAlive
namespace Go.Proofs.Ytbppipanonmcmaa
open Go.ChangeShapes Go.WideShapes Go.ChangeAt Go.RowKit
open Go.ChangeMaps (open_string shut_string)

set_option maxHeartbeats 2000000 in
theorem walkPackFours (a0 : Option Addr) (len0 cap0 : Nat) (z0 : List Int) (w : World) (h0 : IsRow .i64 w a0 len0 cap0 z0) :
    Calls Try.prog 4 #[.slice a0 len0 cap0] w fun e w' => e = .returned (.bool true) ∧ Below w.heap.size w w' := by
  by_cases g1 : len0 ≤ 1000
  · have d1 : decide ((1000 : Int) < (len0 : Int)) = false := by simp; omega
    obtain ⟨f, hA⟩ : ∃ f, Nums w w.heap.size a0 len0 f := ⟨_, Nums.of_row h0⟩
    obtain ⟨p, hp, hgood, hbad⟩ := first_bad 4 f len0
    obtain ⟨hx, hK⟩ := nat_kinds hgood
    clear hgood
    have hA1 : ∀ w1, Below w.heap.size w w1 → Nums w1 w1.heap.size a0 len0 f := fun w1 hb => (hA.below hb).more hb.size
    go_enter Try.func4, Try.ntmps4
    go_wp2_with fail
    refine (alive_any _).mono ?_
    rintro e w1 ⟨rfl, b1⟩
    go_wp2_with fail
    refine (fours_any a0 len0 cap0 f (nat f) p _ (by omega) (hA1 _ b1) hp hx hK hbad).mono ?_
    rintro e w2 ⟨hE, b2⟩
    have b2' := b1.trans (b2.mono b1.size)
    rcases hE with ⟨hpn, rfl⟩ | ⟨hpn, rfl⟩
    · subst hpn
      obtain ⟨S, hS⟩ : ∃ S, S = str (rows 4 4 (nat f) p (sz p 4)) := ⟨_, rfl⟩
      have hSs : S.size = sz p 4 := by rw [hS, str_size, rows_length]
      have hHA := Lib.hid hA1
      have hHS := Lib.hid hS
      have HX := Lib.hid hx
      have HK := Lib.hid hK
      have HB := Lib.hid hbad
      have HSS := Lib.hid hSs
      rw [← hS]
      clear b1 b2 hA1 hS hx hK hbad hSs hA h0
      go_wp2_with fail
      refine (refpack4 a0 p cap0 f (nat f) p _ (by omega) (hHA.out _ b2') hp HX.out HK.out HB.out).mono ?_
      rintro e w3 ⟨hE, b3⟩
      have b3' := b2'.trans (b3.mono b2'.size)
      rcases hE with ⟨_, rfl⟩ | ⟨hh, _⟩
      · rw [← hHS.out]
        clear b3 b2'
        go_wp2_with fail
        refine (fromfours_any S p (nat f) _ (by omega) HK.out hHS.out).mono ?_
        rintro e w4 ⟨⟨g, rfl, hN⟩, b4⟩
        have b4' := b3'.trans (b4.mono b3'.size)
        clear b4 b3'
        go_wp2_with fail
        refine (same_any _ _ p p _ _ _ f _ _ (by omega) hN (hHA.out _ b4')).mono ?_
        rintro e w5 ⟨rfl, q, rfl⟩
        rw [sameB_yes rfl (fun k hk => (HX.out k hk).symm)]
        go_wp2_with fail
        refine (size4_any p _ (by omega)).mono ?_
        rintro e w6 ⟨rfl, rfl⟩
        rw [← HSS.out]
        go_wp2_with fail
        go_ret
        exact ⟨rfl, bel_drewN b4' q⟩
      · exact absurd hh (Nat.lt_irrefl _)
    · have hHA := Lib.hid hA1
      have HX := Lib.hid hx
      have HK := Lib.hid hK
      have HB := Lib.hid hbad
      clear b1 b2 hA1 hx hK hbad hA h0
      go_wp2_with fail
      refine (refpack4 a0 len0 cap0 f (nat f) p _ (by omega) (hHA.out _ b2') hp HX.out HK.out HB.out).mono ?_
      rintro e w3 ⟨hE, b3⟩
      have b3' := b2'.trans (b3.mono b2'.size)
      rcases hE with ⟨hh, _⟩ | ⟨_, rfl⟩
      · exact absurd hh (by omega)
      · clear b3 b2'
        go_wp2_with fail
        go_ret
        exact ⟨rfl, b3'⟩
  · have d1 : decide ((1000 : Int) < (len0 : Int)) = true := by simp; omega
    go_enter Try.func4, Try.ntmps4
    go_wp2_with fail
    refine (alive_any _).mono ?_
    rintro e w1 ⟨rfl, b1⟩
    go_wp2_with fail
    go_ret
    exact ⟨rfl, b1⟩
set_option maxRecDepth 100000 in
theorem liftedPackFours (os : Os) (started : os.Started) (H : Type) (enc : TypeId × Value → H) :
    ReturnsInHanded {} Try.checked os 4 .any (Rows.packFoursSpec.pre6 enc Try.prog Try.f4 Rows.packFoursRow.domain false) (Rows.packFoursSpec.post enc Try.prog Try.f4 false true false false) := by
  refine returnsInHanded_of_change (C := Try.checked) own started (by kernel_rfl) Try.func4
    (ChangeSpec.witness6 (enc := enc) (C := Try.checked) false ⟨#[], #[.slice none 0 0], []⟩ 8 (by kernel_rfl) (by kernel_rfl) (by kernel_rfl) (by kernel_rfl)) ?_
  intro W base args ds gs before hval0 hW hcnd _
  have hval : ∀ (j : Nat) t v, Try.f4.params[j]? = some t → args[j]? = some v → Value.okWide Try.prog W .any base t v := hval0
  have hW' := hW
  obtain ⟨p, q, hA0, hV, rfl, hfz, hnd⟩ := hW
  have hA : DataW.TrodAll enc Try.prog W 0 (fun _ => true) true Try.f4.params.toList args.toList ds p := hA0
  rw [Try.params4] at hA hval
  obtain ⟨v0, vs0, d0, ds0, p0, q0, hargs, rfl, rfl, h0, r0⟩ := trodAll_cons hA
  obtain ⟨rfl, rfl, rfl⟩ := trodAll_nil r0
  obtain rfl : args = #[v0] := by cases args; simp_all
  obtain ⟨rfl, rfl⟩ := trodVars_none hV
  obtain ⟨a0, len0, cap0, rfl⟩ := okWide_slice Try.underlying22 (hval 0 22 v0 rfl rfl)
  have k0 := h0
  have lt0 : ∀ x ∈ p0, x.block < W.heap.size := by obtain ⟨m, hm⟩ := k0; exact DataW.trod_lt m _ _ _ hm
  obtain ⟨z0, w0⟩ : ∃ zs, IsRow .i64 W a0 len0 cap0 zs := by
    obtain ⟨fuel, hf⟩ := h0
    rcases open_ints Try.underlying22 Try.underlying3 (by kernel_rfl) hf with ⟨hcs, _⟩ | ⟨x, l, c, zs, hcs, _, hl, hm, hz, _, hcell, hwz⟩
    · simp [Value.cells] at hcs
      obtain ⟨rfl, rfl, rfl⟩ := hcs
      exact ⟨[], .inl ⟨rfl, rfl, rfl, rfl⟩⟩
    · simp [Value.cells] at hcs
      obtain ⟨rfl, rfl, rfl⟩ := hcs
      exact ⟨zs, .inr ⟨_, rfl, hl, hm, by simpa using hz, cell_lt hcell (by simpa using hz), hcell, hwz⟩⟩
  clear hA0 hval0
  refine (walkPackFours a0 len0 cap0 z0 W w0).mono fun e W' ⟨he, bel⟩ => ?_
  subst he
  exact ⟨_, rfl, _, _, _, [], _, [], hW', trodAll_mk1 (shut_bool Try.underlying4 _), (trodAll_cons_mk (Below.trod laidOut (by kernel_rfl) (of_decide_eq_true (by kernel_rfl)) k0 bel lt0) trodAll_mk0), rfl, bel.frame _, fun h => by cases h⟩

theorem overPackFours : Rows.packFoursRow.holds Try.pinned (OpenSpec.ofChange Rows.packFoursSpec) :=
  OpenClaim.holds_of_wide 4 Try.f4 rfl rfl rfl rfl rfl rfl rfl ⟨rfl, rfl, rfl, rfl, rfl⟩ rfl rfl rfl rfl rfl (by kernel_rfl) Try.func4 (by kernel_rfl)
    (of_decide_eq_true (by kernel_rfl)) (by unfold Func.isWrapper; first | (rw [if_pos (by decide +kernel)]; kernel_rfl) | (rw [if_neg (by decide +kernel)]; exact ⟨rfl, rfl⟩))
    (fun os started H enc _ => liftedPackFours os started H enc)

/-- The statement. -/
theorem packFours_holds : Rows.PackFoursSaid := overPackFours

#print axioms packFours_holds
end Go.Proofs.Ytbppipanonmcmaa
