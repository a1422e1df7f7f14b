/- AppliQuiet: who wants it over and over says it twice, and then nothing more. No condition. -/
import Derived.Test.YtnifdbhihbjeaaaApAlive
import Derived.Test.YtnifdbhihbjeaaaFrame
import Derived.IntWalk
namespace Go.Proofs.Ytnifdbhihbjeaaa
open Go.ChangeShapes Go.WideShapes Go.ChangeAt Go.RowKit
set_option maxRecDepth 100000

theorem want_0 {b : Int} (h : 0 ≤ b) (c : Int) : wantA ⟨0, c⟩ b false = ⟨1, b⟩ := by unfold wantA; rw [if_neg (Int.not_lt.2 h)]; rfl
theorem want_2 {b : Int} (h : 0 ≤ b) (c : Int) : wantA ⟨2, c⟩ b false = ⟨2, b⟩ := by unfold wantA; rw [if_neg (Int.not_lt.2 h)]; rfl
theorem want_3 {b : Int} (h : 0 ≤ b) (c : Int) : wantA ⟨3, c⟩ b false = ⟨3, b⟩ := by unfold wantA; rw [if_neg (Int.not_lt.2 h)]; rfl
/-- What was said so far. -/
def Quiet (j : Nat) (s k : Int) : Prop := (j = 0 ∧ s = 0 ∧ k = 0) ∨ (j = 1 ∧ s = 2 ∧ k = 1) ∨ (2 ≤ j ∧ s = 3 ∧ k = 2)
set_option maxHeartbeats 4000000 in
theorem walkAppliQuiet (A : Option Addr) (n cap : Nat) (zs : List Int) (w : World) (h0 : IsRow .i64 w A n cap zs) :
    Calls Try.prog 5 #[.slice A n cap] w fun e w' => e = .returned (.bool true) ∧ Below w.heap.size w w' := by
  have HAL := Lib.hid (aalive_any w)
  have H0 := Lib.hid h0
  have n0 : (0 : Int) ≤ n := by omega
  clear h0
  go_enter Try.func5, Try.ntmps5
  go_wp2_with fail
  refine HAL.out.mono ?_
  rintro e w1 ⟨rfl, b1⟩
  by_cases q0 : 100 < (n : Int)
  · go_wp2_with fail
    go_ret
    exact ⟨rfl, b1⟩
  have e0 : decide (100 < (n : Int)) = false := decide_eq_false q0
  have HN := Lib.hid (show n ≤ 100 by omega)
  have HS0 := Lib.hid (OwnA.new b1)
  clear q0 b1
  go_wp2_with fail
  obtain ⟨g, hg⟩ : ∃ g, w1.heap.size = g := ⟨_, rfl⟩
  rw [hg] at HS0 ⊢
  clear hg
  go_loopw [4, 19] (fun nv iv wr => ∃ (j : Nat) (s k c : Int), j ≤ n ∧ iv = .int .i64 j ∧ nv = .int .i64 k ∧ Hid (OwnA w wr g ⟨s, c⟩ ∧ Quiet j s k)) (fun _ iv _ => n - (intOf iv).toNat)
  case atStart => exact ⟨0, 0, 0, 0, Nat.zero_le _, rfl, rfl, Lib.hid ⟨HS0.out, .inl ⟨rfl, rfl, rfl⟩⟩⟩
  case round =>
    obtain ⟨j, s, k, c, hj, rfl, rfl, hS⟩ := hrel
    by_cases hlt : j < n
    rotate_left
    · obtain rfl : j = n := by omega
      have hq := hS.out.2
      by_cases h2 : (j : Int) < 2
      · have h3 : (j : Int) = k := by unfold Quiet at hq; omega
        clear hq
        subst h3
        go_wp2_with fail
        go_ret
        exact ⟨rfl, hS.out.1.bel⟩
      · obtain rfl : k = 2 := by unfold Quiet at hq; omega
        clear hq
        by_cases h3 : 2 < (j : Int)
        · clear h2
          go_wp2_with fail
          go_ret
          exact ⟨rfl, hS.out.1.bel⟩
        · obtain rfl : j = 2 := by omega
          clear h2 h3
          go_wp2_with fail
          go_ret
          exact ⟨rfl, hS.out.1.bel⟩
    have j1 : (j : Int) < n := by omega
    have j0 : (0 : Int) ≤ j := by omega
    have HJ := Lib.hid (show wrap64 ((j : Int) + 1) = (j : Int) + 1 from IntWalk.wrap64_in _ (by have := HN.out; omega))
    obtain ⟨b, off, rfl, hbl, hc⟩ := H0.out.at_ hlt
    have c0 := (hS.out.1.bel.cell (p := ⟨b, off + j, none⟩) hbl).trans hc
    obtain ⟨d, hd⟩ : ∃ d, zs.getD j 0 = d := ⟨_, rfl⟩
    rw [hd] at c0
    clear hc hd hbl
    by_cases q1 : d < 0
    · go_wp2_with fail
      go_ret
      exact ⟨rfl, hS.out.1.bel⟩
    have e1 : decide (d < 0) = false := decide_eq_false q1
    have HQ1 := Lib.hid (Int.not_lt.1 q1)
    have e3 : (d != d) = false := by simp
    clear q1
    go_wp2_with fail
    refine (own_want hS.out.1 d false).mono ?_
    rintro e w2 ⟨rfl, h2, _⟩
    have hq := hS.out.2
    unfold Quiet at hq
    rcases hq with ⟨ej, rfl, rfl⟩ | ⟨ej, rfl, rfl⟩ | ⟨ej, rfl, rfl⟩
    · rw [want_0 HQ1.out] at h2
      have H2 := Lib.hid h2
      have HEJ := Lib.hid ej
      clear h2 ej c0
      go_wp2_with fail
      refine (own_say H2.out).mono ?_
      rintro e w3 ⟨rfl, h3, _⟩
      rw [show stepA ⟨1, d⟩ 4 = ⟨2, d⟩ from rfl] at h3
      rw [show sayE (actA ⟨1, d⟩ 4) = 0 from rfl, show sayB (actA ⟨1, d⟩ 4) (Ap.born ⟨1, d⟩) = d from rfl, show decide (actA ⟨1, d⟩ 4 ≠ 0) = true from rfl]
      have H3 := Lib.hid h3
      clear h3
      go_wp2_with fail
      go_roundw
      case rel =>
        rw [HJ.out]
        exact ⟨j + 1, 2, 1, d, hlt, by rw [Int.natCast_add]; rfl, rfl, Lib.hid ⟨H3.out, .inr (.inl ⟨by have := HEJ.out; omega, rfl, rfl⟩)⟩⟩
      case measure =>
        rw [HJ.out]
        show n - ((j : Int) + 1).toNat < n - ((j : Int)).toNat
        omega
    · rw [want_2 HQ1.out] at h2
      have H2 := Lib.hid h2
      have HEJ := Lib.hid ej
      clear h2 ej c0
      go_wp2_with fail
      refine (own_say H2.out).mono ?_
      rintro e w3 ⟨rfl, h3, _⟩
      rw [show stepA ⟨2, d⟩ 4 = ⟨3, d⟩ from rfl] at h3
      rw [show sayE (actA ⟨2, d⟩ 4) = 1 from rfl, show sayB (actA ⟨2, d⟩ 4) (Ap.born ⟨2, d⟩) = d from rfl, show decide (actA ⟨2, d⟩ 4 ≠ 0) = true from rfl]
      have H3 := Lib.hid h3
      clear h3
      go_wp2_with fail
      go_roundw
      case rel =>
        rw [HJ.out]
        exact ⟨j + 1, 3, 2, d, hlt, by rw [Int.natCast_add]; rfl, rfl, Lib.hid ⟨H3.out, .inr (.inr ⟨by have := HEJ.out; omega, rfl, rfl⟩)⟩⟩
      case measure =>
        rw [HJ.out]
        show n - ((j : Int) + 1).toNat < n - ((j : Int)).toNat
        omega
    · rw [want_3 HQ1.out] at h2
      have H2 := Lib.hid h2
      have HEJ := Lib.hid ej
      clear h2 ej c0
      go_wp2_with fail
      refine (own_say H2.out).mono ?_
      rintro e w3 ⟨rfl, h3, _⟩
      rw [show stepA ⟨3, d⟩ 4 = ⟨3, d⟩ from rfl] at h3
      rw [show sayE (actA ⟨3, d⟩ 4) = 0 from rfl, show sayB (actA ⟨3, d⟩ 4) (Ap.born ⟨3, d⟩) = 0 from rfl, show decide (actA ⟨3, d⟩ 4 ≠ 0) = false from rfl]
      have H3 := Lib.hid h3
      clear h3
      go_wp2_with fail
      go_roundw
      case rel =>
        rw [HJ.out]
        exact ⟨j + 1, 3, 2, d, hlt, by rw [Int.natCast_add]; rfl, rfl, Lib.hid ⟨H3.out, .inr (.inr ⟨by have := HEJ.out; omega, rfl, rfl⟩)⟩⟩
      case measure =>
        rw [HJ.out]
        show n - ((j : Int) + 1).toNat < n - ((j : Int)).toNat
        omega

set_option maxRecDepth 100000 in
theorem liftedAppliQuiet (os : Os) (started : os.Started) (H : Type) (enc : TypeId × Value → H) :
    ReturnsInHanded {} Try.checked os 5 .any (Rows.appliQuietSpec.pre6 enc Try.prog Try.f5 Rows.appliQuietRow.domain false) (Rows.appliQuietSpec.post enc Try.prog Try.f5 false true false false) := by
  refine returnsInHanded_of_change (C := Try.checked) own started (by kernel_rfl) Try.func5
    (ChangeSpec.witness6 (enc := enc) (C := Try.checked) false ⟨#[], #[.slice none 0 0], []⟩ 8 (by kernel_rfl) (by kernel_rfl) (by kernel_rfl) (by kernel_rfl)) ?_
  intro W base args ds gs before hval0 hW hcnd _
  have hval : ∀ (j : Nat) t v, Try.f5.params[j]? = some t → args[j]? = some v → Value.okWide Try.prog W .any base t v := hval0
  have hW' := hW
  obtain ⟨p, q, hA0, hV, rfl, hfz, hnd⟩ := hW
  have hA : DataW.TrodAll enc Try.prog W 0 (fun _ => true) true Try.f5.params.toList args.toList ds p := hA0
  rw [Try.params5] at hA hval
  obtain ⟨v0, vs0, d0, ds0, p0, q0, hargs, rfl, rfl, h0, r0⟩ := trodAll_cons hA
  obtain ⟨rfl, rfl, rfl⟩ := trodAll_nil r0
  obtain rfl : args = #[v0] := by cases args; simp_all
  obtain ⟨rfl, rfl⟩ := trodVars_none hV
  obtain ⟨a0, len0, cap0, rfl⟩ := okWide_slice Try.underlying39 (hval 0 39 v0 rfl rfl)
  have k0 := h0
  have lt0 : ∀ x ∈ p0, x.block < W.heap.size := by obtain ⟨m, hm⟩ := k0; exact DataW.trod_lt m _ _ _ hm
  obtain ⟨z0, w0⟩ : ∃ zs, IsRow .i64 W a0 len0 cap0 zs := by
    obtain ⟨fuel, hf⟩ := h0
    rcases open_ints Try.underlying39 Try.underlying3 (by kernel_rfl) hf with ⟨hcs, _⟩ | ⟨x, l, c, zs, hcs, _, hl, hm, hz, _, hcell, hwz⟩
    · simp [Value.cells] at hcs
      obtain ⟨rfl, rfl, rfl⟩ := hcs
      exact ⟨[], .inl ⟨rfl, rfl, rfl, rfl⟩⟩
    · simp [Value.cells] at hcs
      obtain ⟨rfl, rfl, rfl⟩ := hcs
      exact ⟨zs, .inr ⟨_, rfl, hl, hm, by simpa using hz, cell_lt hcell (by simpa using hz), hcell, hwz⟩⟩
  clear hA0 hval0
  refine (walkAppliQuiet a0 len0 cap0 z0 W w0).mono fun e W' ⟨he, bel⟩ => ?_
  subst he
  exact ⟨_, rfl, _, _, _, [], _, [], hW', trodAll_mk1 (shut_bool Try.underlying4 _), (trodAll_cons_mk (Below.trod laidOut (by kernel_rfl) (of_decide_eq_true (by kernel_rfl)) k0 bel lt0) trodAll_mk0), rfl, bel.frame _, fun h => by cases h⟩

theorem overAppliQuiet : Rows.appliQuietRow.holds Try.pinned (OpenSpec.ofChange Rows.appliQuietSpec) :=
  OpenClaim.holds_of_wide 5 Try.f5 rfl rfl rfl rfl rfl rfl rfl ⟨rfl, rfl, rfl, rfl, rfl⟩ rfl rfl rfl rfl rfl (by kernel_rfl) Try.func5 (by kernel_rfl)
    (of_decide_eq_true (by kernel_rfl)) (by unfold Func.isWrapper; first | (rw [if_pos (by decide +kernel)]; kernel_rfl) | (rw [if_neg (by decide +kernel)]; exact ⟨rfl, rfl⟩))
    (fun os started H enc _ => liftedAppliQuiet os started H enc)

/-- The statement. -/
theorem appliQuiet_holds : Rows.AppliQuietSaid := overAppliQuiet

#print axioms appliQuiet_holds
end Go.Proofs.Ytnifdbhihbjeaaa
