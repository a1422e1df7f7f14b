/- PackFew: four to a byte: unlike lists of one length have unlike bytes; a list's bytes are as many as Size4 says, never more than three to a byte have. No condition. -/
import Derived.Test.YtbppipanonmcmaaPkAlive
namespace Go.Proofs.Ytbppipanonmcmaa
open Go.ChangeShapes Go.WideShapes Go.ChangeAt Go.RowKit
open Go.ChangeMaps (open_string shut_string)

set_option maxHeartbeats 8000000 in
set_option maxRecDepth 100000 in
theorem walkPackFew (a0 : Option Addr) (len0 cap0 : Nat) (z0 : List Int) (a1 : Option Addr) (len1 cap1 : Nat) (z1 : List Int) (w : World) (h0 : IsRow .i64 w a0 len0 cap0 z0) (h1 : IsRow .i64 w a1 len1 cap1 z1) :
    Calls Try.prog 7 #[.slice a0 len0 cap0, .slice a1 len1 cap1] w fun e w' => e = .returned (.bool true) ∧ Below w.heap.size w w' := by
  by_cases g0 : len0 ≤ 300
  · have d0 : decide ((300 : Int) < (len0 : Int)) = false := by simp; omega
    by_cases g1 : len1 ≤ 300
    · have d1 : decide ((300 : Int) < (len1 : Int)) = false := by simp; omega
      obtain ⟨f, hA⟩ : ∃ f, Nums w w.heap.size a0 len0 f := ⟨_, Nums.of_row h0⟩
      obtain ⟨g, hB⟩ : ∃ g, Nums w w.heap.size a1 len1 g := ⟨_, Nums.of_row h1⟩
      obtain ⟨p, hp, hgood, hbad⟩ := first_bad 4 f len0
      obtain ⟨q, hq, hgood', hbad'⟩ := first_bad 4 g len1
      obtain ⟨hx, hK⟩ := nat_kinds hgood
      obtain ⟨hx', hK'⟩ := nat_kinds hgood'
      have hA1 : ∀ w1, Below w.heap.size w w1 → Nums w1 w1.heap.size a0 len0 f := fun w1 hb => (hA.below hb).more hb.size
      have hB1 : ∀ w1, Below w.heap.size w w1 → Nums w1 w1.heap.size a1 len1 g := fun w1 hb => (hB.below hb).more hb.size
      have HA := Lib.hid hA1
      have HB := Lib.hid hB1
      have c1 := fun w1 hb => fours_any a0 len0 cap0 f (nat f) p w1 (by omega) (hA1 w1 hb) hp hx hK hbad
      have c2 := fun w1 hb => fours_any a1 len1 cap1 g (nat g) q w1 (by omega) (hB1 w1 hb) hq hx' hK' hbad'
      have C1 := Lib.hid c1
      have C2 := Lib.hid c2
      have HX := Lib.hid hx
      have HX' := Lib.hid hx'
      have HK := Lib.hid hK
      have HK' := Lib.hid hK'
      have HG := Lib.hid hgood
      have HG' := Lib.hid hgood'
      clear c1 c2 hA1 hB1 hA hB hgood hgood' hbad hbad' hx hx' hK hK' h0 h1
      go_enter Try.func7, Try.ntmps7
      go_wp2_with fail
      refine (alive_any _).mono ?_
      rintro e w1 ⟨rfl, b1⟩
      go_wp2_with fail
      refine (C1.out _ b1).mono ?_
      rintro e w2 ⟨hE, b2⟩
      have b2' := b1.trans (b2.mono b1.size)
      rcases hE with ⟨hpn, rfl⟩ | ⟨hpn, rfl⟩
      · subst hpn
        generalize hS : str (rows 4 4 (nat f) p (sz p 4)) = S
        have hSs : S.size ≤ 300 := by rw [← hS, str_size, rows_length]; have := sz_le p 4 4 (by unfold LK; decide); omega
        have HS := Lib.hid hS
        clear b1 b2 hS
        go_wp2_with fail
        refine (C2.out _ b2').mono ?_
        rintro e w3 ⟨hE, b3⟩
        have b3' := b2'.trans (b3.mono b2'.size)
        rcases hE with ⟨hqn, rfl⟩ | ⟨hqn, rfl⟩
        · subst hqn
          generalize hT : str (rows 4 4 (nat g) q (sz q 4)) = T
          have hTs : T.size ≤ 300 := by rw [← hT, str_size, rows_length]; have := sz_le q 4 4 (by unfold LK; decide); omega
          have HT := Lib.hid hT
          have hK6 : Kinds 6 (nat f) p := fun k hk => by have := HK.out k hk; omega
          have c3 := threes_any a0 p cap0 f (nat f) p w3 (by omega) (HA.out _ b3') (Nat.le_refl _) HX.out hK6 (fun h => absurd h (Nat.lt_irrefl _))
          have HC3 := Lib.hid c3
          clear b2' b3 hT c3 hK6
          have hSq : S.size = sz p 4 := by rw [← HS.out, str_size, rows_length]
          have HSQ := Lib.hid hSq
          clear hSq
          go_wp2_with fail
          refine HC3.out.mono ?_
          rintro e w4 ⟨hE, b4⟩
          rcases hE with ⟨_, rfl⟩ | ⟨hh, _⟩
          rotate_left
          · exact absurd hh (Nat.lt_irrefl _)
          have b4' := b3'.trans (b4.mono b3'.size)
          generalize hZ : str (rows 3 6 (nat f) p (sz p 3)) = Z
          have hle : S.size ≤ Z.size := by
            rw [← hZ, HSQ.out, str_size, rows_length]
            unfold sz
            omega
          clear b3' b4 hZ HC3
          by_cases hpq : p = q
          · subst hpq
            have e0 : ((p : Int) != (p : Int)) = false := by simp
            have hsb := same_bytes 4 4 (by unfold LK; decide) p f g HX.out HX'.out HK.out HK'.out
            rw [HS.out, HT.out] at hsb
            have hcs := fun B w1 hn hA hC => same_any a0 a1 p p cap0 cap1 f g B w1 hn hA hC
            cases hsm : sameB p p f g
            all_goals
              rw [hsm] at hsb hcs
              have HCS := Lib.hid hcs
              clear hcs hsm
              go_wp2_with fail
              refine (HCS.out _ _ (by omega) (HA.out _ b4') (HB.out _ b4')).mono ?_
              rintro e w5 ⟨rfl, r5, rfl⟩
              have bW := bel_drewN b4' r5
              clear b4' hsb HCS
              go_wp2_with fail
              refine (size4_any p _ (by omega)).mono ?_
              rintro e w6 ⟨rfl, rfl⟩
              rw [← HSQ.out]
              go_wp2_with fail
              go_ret
              exact ⟨rfl, bW⟩
          · have e0 : ((p : Int) != (q : Int)) = true := by simp; omega
            have bW := b4'
            go_wp2_with fail
            refine (size4_any p _ (by omega)).mono ?_
            rintro e w6 ⟨rfl, rfl⟩
            rw [← HSQ.out]
            go_wp2_with fail
            go_ret
            exact ⟨rfl, bW⟩
        · clear b2' b3
          go_wp2_with fail
          go_ret
          exact ⟨rfl, b3'⟩
      · clear b1 b2
        go_wp2_with fail
        refine (C2.out _ b2').mono ?_
        rintro e w3 ⟨hE, b3⟩
        have b3' := b2'.trans (b3.mono b2'.size)
        clear b2' b3
        rcases hE with ⟨hqn, rfl⟩ | ⟨hqn, rfl⟩
        · have HQ := Lib.hid hqn
          clear hqn
          go_wp2_with fail
          go_ret
          exact ⟨rfl, b3'⟩
        · go_wp2_with fail
          go_ret
          exact ⟨rfl, b3'⟩
    · have d1 : decide ((300 : Int) < (len1 : Int)) = true := by simp; omega
      go_enter Try.func7, Try.ntmps7
      go_wp2_with fail
      refine (alive_any _).mono ?_
      rintro e w1 ⟨rfl, b1⟩
      go_wp2_with fail
      go_ret
      exact ⟨rfl, b1⟩
  · have d0 : decide ((300 : Int) < (len0 : Int)) = true := by simp; omega
    go_enter Try.func7, Try.ntmps7
    go_wp2_with fail
    refine (alive_any _).mono ?_
    rintro e w1 ⟨rfl, b1⟩
    go_wp2_with fail
    go_ret
    exact ⟨rfl, b1⟩
set_option maxRecDepth 100000 in
theorem liftedPackFew (os : Os) (started : os.Started) (H : Type) (enc : TypeId × Value → H) :
    ReturnsInHanded {} Try.checked os 7 .any (Rows.packFewSpec.pre6 enc Try.prog Try.f7 Rows.packFewRow.domain false) (Rows.packFewSpec.post enc Try.prog Try.f7 false true false false) := by
  refine returnsInHanded_of_change (C := Try.checked) own started (by kernel_rfl) Try.func7
    (ChangeSpec.witness6 (enc := enc) (C := Try.checked) false ⟨#[], #[.slice none 0 0, .slice none 0 0], []⟩ 8 (by kernel_rfl) (by kernel_rfl) (by kernel_rfl) (by kernel_rfl)) ?_
  intro W base args ds gs before hval0 hW hcnd _
  have hval : ∀ (j : Nat) t v, Try.f7.params[j]? = some t → args[j]? = some v → Value.okWide Try.prog W .any base t v := hval0
  have hW' := hW
  obtain ⟨p, q, hA0, hV, rfl, hfz, hnd⟩ := hW
  have hA : DataW.TrodAll enc Try.prog W 0 (fun _ => true) true Try.f7.params.toList args.toList ds p := hA0
  rw [Try.params7] at hA hval
  obtain ⟨v0, vs0, d0, ds0, p0, q0, hargs, rfl, rfl, h0, r0⟩ := trodAll_cons hA
  obtain ⟨v1, vs1, d1, ds1, p1, q1, rfl, rfl, rfl, h1, r1⟩ := trodAll_cons r0
  obtain ⟨rfl, rfl, rfl⟩ := trodAll_nil r1
  obtain rfl : args = #[v0, v1] := by cases args; simp_all
  obtain ⟨rfl, rfl⟩ := trodVars_none hV
  obtain ⟨a0, len0, cap0, rfl⟩ := okWide_slice Try.underlying22 (hval 0 22 v0 rfl rfl)
  have k0 := h0
  have lt0 : ∀ x ∈ p0, x.block < W.heap.size := by obtain ⟨m, hm⟩ := k0; exact DataW.trod_lt m _ _ _ hm
  obtain ⟨z0, w0⟩ : ∃ zs, IsRow .i64 W a0 len0 cap0 zs := by
    obtain ⟨fuel, hf⟩ := h0
    rcases open_ints Try.underlying22 Try.underlying3 (by kernel_rfl) hf with ⟨hcs, _⟩ | ⟨x, l, c, zs, hcs, _, hl, hm, hz, _, hcell, hwz⟩
    · simp [Value.cells] at hcs
      obtain ⟨rfl, rfl, rfl⟩ := hcs
      exact ⟨[], .inl ⟨rfl, rfl, rfl, rfl⟩⟩
    · simp [Value.cells] at hcs
      obtain ⟨rfl, rfl, rfl⟩ := hcs
      exact ⟨zs, .inr ⟨_, rfl, hl, hm, by simpa using hz, cell_lt hcell (by simpa using hz), hcell, hwz⟩⟩
  obtain ⟨a1, len1, cap1, rfl⟩ := okWide_slice Try.underlying22 (hval 1 22 v1 rfl rfl)
  have k1 := h1
  have lt1 : ∀ x ∈ p1, x.block < W.heap.size := by obtain ⟨m, hm⟩ := k1; exact DataW.trod_lt m _ _ _ hm
  obtain ⟨z1, w1⟩ : ∃ zs, IsRow .i64 W a1 len1 cap1 zs := by
    obtain ⟨fuel, hf⟩ := h1
    rcases open_ints Try.underlying22 Try.underlying3 (by kernel_rfl) hf with ⟨hcs, _⟩ | ⟨x, l, c, zs, hcs, _, hl, hm, hz, _, hcell, hwz⟩
    · simp [Value.cells] at hcs
      obtain ⟨rfl, rfl, rfl⟩ := hcs
      exact ⟨[], .inl ⟨rfl, rfl, rfl, rfl⟩⟩
    · simp [Value.cells] at hcs
      obtain ⟨rfl, rfl, rfl⟩ := hcs
      exact ⟨zs, .inr ⟨_, rfl, hl, hm, by simpa using hz, cell_lt hcell (by simpa using hz), hcell, hwz⟩⟩
  clear hA0 hval0
  refine (walkPackFew a0 len0 cap0 z0 a1 len1 cap1 z1 W w0 w1).mono fun e W' ⟨he, bel⟩ => ?_
  subst he
  exact ⟨_, rfl, _, _, _, [], _, [], hW', trodAll_mk1 (shut_bool Try.underlying4 _), (trodAll_cons_mk (Below.trod laidOut (by kernel_rfl) (of_decide_eq_true (by kernel_rfl)) k0 bel lt0) (trodAll_cons_mk (Below.trod laidOut (by kernel_rfl) (of_decide_eq_true (by kernel_rfl)) k1 bel lt1) trodAll_mk0)), rfl, bel.frame _, fun h => by cases h⟩

theorem overPackFew : Rows.packFewRow.holds Try.pinned (OpenSpec.ofChange Rows.packFewSpec) :=
  OpenClaim.holds_of_wide 7 Try.f7 rfl rfl rfl rfl rfl rfl rfl ⟨rfl, rfl, rfl, rfl, rfl⟩ rfl rfl rfl rfl rfl (by kernel_rfl) Try.func7 (by kernel_rfl)
    (of_decide_eq_true (by kernel_rfl)) (by unfold Func.isWrapper; first | (rw [if_pos (by decide +kernel)]; kernel_rfl) | (rw [if_neg (by decide +kernel)]; exact ⟨rfl, rfl⟩))
    (fun os started H enc _ => liftedPackFew os started H enc)

/-- The statement. -/
theorem packFew_holds : Rows.PackFewSaid := overPackFew

#print axioms packFew_holds
end Go.Proofs.Ytbppipanonmcmaa
