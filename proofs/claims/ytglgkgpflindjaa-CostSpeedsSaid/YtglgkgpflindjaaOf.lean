/- Contracts of cost.Of, of the document's Of and of Better: each answers what the plain function says, and leaves the world alone. Condition: what comes in is a word of 64 bits. -/
import Derived.Test.YtglgkgpflindjaaCof
namespace Go.Proofs.Ytglgkgpflindjaa
open Go.RowKit

theorem max_float (ts : Array TypeId) (t : TypeId) (x y : Nat) (hx : x ≤ Fl.infR) (hy : y ≤ Fl.infR) (w : World) :
    (Builtin.max_ ts t #[.float .f64 x, .float .f64 y]).run Try.prog w = .ok (.float .f64 (if x < y then y else x)) w := by
  have ho : FloatKind.f64.format.order x y = some (compare x y) := Fl.order_pos hx hy
  have hn : (FloatKind.f64.decode x).neg = false := by
    by_cases hi : x = Fl.infR
    · subst hi
      rw [show FloatKind.f64.decode Fl.infR = .infinity false from Fl.read_inf]
      rfl
    · obtain ⟨m, i, hm, _⟩ := Fl.read_fin (show x < Fl.infR by omega)
      rw [show FloatKind.f64.decode x = _ from hm]
      rfl
  show Sem.run _ (Builtin.max2 (.float .f64 x) (.float .f64 y) >>= fun s => pure s) w = _
  rcases Nat.lt_trichotomy x y with h | h | h
  · rw [Nat.compare_eq_lt.2 h] at ho
    simp [Builtin.max2, ho, h]
  · subst h
    rw [Nat.compare_eq_eq.2 rfl] at ho
    simp [Builtin.max2, ho]
  · rw [Nat.compare_eq_gt.2 h] at ho
    simp [Builtin.max2, ho, show ¬ x < y by omega]
theorem min_float (ts : Array TypeId) (t : TypeId) (x y : Nat) (hx : x ≤ Fl.infR) (hy : y ≤ Fl.infR) (w : World) :
    (Builtin.min_ ts t #[.float .f64 x, .float .f64 y]).run Try.prog w = .ok (.float .f64 (if x ≤ y then x else y)) w := by
  have ho : FloatKind.f64.format.order x y = some (compare x y) := Fl.order_pos hx hy
  have hn : (FloatKind.f64.decode x).neg = false := by
    by_cases hi : x = Fl.infR
    · subst hi
      rw [show FloatKind.f64.decode Fl.infR = .infinity false from Fl.read_inf]
      rfl
    · obtain ⟨m, i, hm, _⟩ := Fl.read_fin (show x < Fl.infR by omega)
      rw [show FloatKind.f64.decode x = _ from hm]
      rfl
  show Sem.run _ (Builtin.min2 (.float .f64 x) (.float .f64 y) >>= fun s => pure s) w = _
  rcases Nat.lt_trichotomy x y with h | h | h
  · rw [Nat.compare_eq_lt.2 h] at ho
    simp [Builtin.min2, ho, show x ≤ y by omega]
  · subst h
    rw [Nat.compare_eq_eq.2 rfl] at ho
    simp [Builtin.min2, ho]
  · rw [Nat.compare_eq_gt.2 h] at ho
    simp [Builtin.min2, ho, show ¬ x ≤ y by omega]
theorem int_float (z f : Nat) (hz : z ≤ Fl.topR) (hf : Fl.val z / 2 ^ Fl.U = f) (h24 : f ≤ 16777216) (w : World) :
    (convert 22 3 (.float .f64 z)).run Try.prog w = .ok (.int .i64 (f : Int)) w := by
  have ht : (FloatKind.f64.decode z).toInt .zero = some ((f : Nat) : Int) := by
    rw [← hf]
    exact Fl.int_fin (Nat.lt_of_le_of_lt hz (by decide))
  refine run_convert_float_int w _ _ .f64 .i64 z _ (by rw [Try.underlying22]; rfl) Try.underlying3 ?_
  unfold floatToIntVal
  rw [ht]
  simp only
  rw [if_pos (by simp [IntKind.min, IntKind.max, IntKind.signed, IntKind.bits]; omega)]

set_option linter.unusedSimpArgs false in
theorem of_any (b : Nat) (hb : b < 18446744073709551616) (w : World) :
    Calls Try.prog 11 #[.float .f64 b] w fun e w' => e = .returned (.int .i64 (Fl.costB b : Nat)) ∧ w = w' := by
  by_cases hp : 0 < b ∧ b ≤ Fl.infR
  · obtain ⟨h0, h1⟩ := hp
    have hg : FloatKind.f64.format.order b 0 = some .gt := Fl.order_gt h0 h1
    obtain ⟨hq, hqi⟩ := Fl.quo_some h0 h1
    obtain ⟨ha, hai⟩ := Fl.add_some h0 h1
    have hc : Fl.costB b = Fl.clampC (Fl.val (Fl.addR b) / 2 ^ Fl.U) := by unfold Fl.costB; rw [if_pos ⟨h0, h1⟩]; rfl
    obtain ⟨x, hx, hxi, z, hz, hzt, hzv⟩ := Fl.bounded hai
    have h24 := (Fl.costB_in b).2
    rw [← hc] at hzv
    have HF := Lib.hid hx
    generalize Fl.costB b = c at *
    generalize Fl.addR b = a at *
    generalize Fl.quoR b = q at *
    have l1 : ∀ w, (binOp .quo 22 (.float .f64 Fl.refR) (.float .f64 b)).run Try.prog w = .ok (.float .f64 q) w := fun w => run_float_arith w .quo _ .f64 _ _ _ hq
    have l2 : ∀ w, (binOp .add 22 (.float .f64 q) (.float .f64 Fl.halfR)).run Try.prog w = .ok (.float .f64 a) w := fun w => run_float_arith w .add _ .f64 _ _ _ ha
    have l3 : ∀ ts w, (Builtin.max_ ts 22 #[.float .f64 x, .float .f64 Fl.oneR]).run Try.prog w = .ok (.float .f64 (if x < Fl.oneR then Fl.oneR else x)) w := fun ts w => max_float ts _ x _ hxi (by decide) w
    obtain ⟨y, hy⟩ : ∃ y, y = (if x < Fl.oneR then Fl.oneR else x) := ⟨_, rfl⟩
    rw [← hy] at hz l3
    have hyi : y ≤ Fl.infR := by
      rw [hy]
      split
      · decide
      · exact hxi
    have l4 : ∀ ts w, (Builtin.min_ ts 22 #[.float .f64 y, .float .f64 Fl.topR]).run Try.prog w = .ok (.float .f64 z) w := fun ts w => by rw [min_float ts _ y _ hyi (by decide) w, hz]
    have l5 : ∀ w, (convert 22 3 (.float .f64 z)).run Try.prog w = .ok (.int .i64 (c : Int)) w := fun w => int_float z c hzt hzv h24 w
    clear hy hz hzv hc hx hq ha h24 hyi hxi hqi hzt h0 h1
    go_enter Try.func11, Try.ntmps11
    go_wp2_with (first | simp only [l1] | simp only [l2] | simp only [l3] | simp only [l4] | simp only [l5] | (go_at_call 20; refine (floor_any a x hai HF.out _).mono ?_; rintro e w' ⟨rfl, rfl⟩))
    go_ret
    exact ⟨rfl, rfl⟩
  · rw [show Fl.costB b = 16777216 by unfold Fl.costB; rw [if_neg hp]]
    have hg : FloatKind.f64.format.order b 0 = none ∨ FloatKind.f64.format.order b 0 = some .lt ∨ FloatKind.f64.format.order b 0 = some .eq := by
      rcases Fl.order_not hb hp with h | h
      · exact .inl h.2
      · exact .inr h.2
    clear hp
    rcases hg with hg | hg | hg
    all_goals
      go_enter Try.func11, Try.ntmps11
      go_wp2
      go_ret
      exact ⟨rfl, rfl⟩

set_option linter.unusedSimpArgs false in
theorem ofr_any (b : Nat) (hb : b < 18446744073709551616) (w : World) :
    Calls Try.prog 10 #[.float .f64 b] w fun e w' => e = .returned (.int .i64 (Fl.costB b : Nat)) ∧ w = w' := by
  by_cases hp : 0 < b ∧ b ≤ Fl.infR
  · obtain ⟨h0, h1⟩ := hp
    have hg : FloatKind.f64.format.order b 0 = some .gt := Fl.order_gt h0 h1
    have hs : FloatKind.f64.format.order b b = some .eq := Fl.order_self h1
    obtain ⟨hq, hqi⟩ := Fl.quo_some h0 h1
    obtain ⟨ha, hai⟩ := Fl.add_some h0 h1
    have hc : Fl.costB b = Fl.clampC (Fl.val (Fl.addR b) / 2 ^ Fl.U) := by unfold Fl.costB; rw [if_pos ⟨h0, h1⟩]; rfl
    have h24 := (Fl.costB_in b).2
    generalize Fl.costB b = c at *
    generalize Fl.addR b = a at *
    generalize Fl.quoR b = q at *
    have l1 : ∀ w, (binOp .quo 22 (.float .f64 Fl.refR) (.float .f64 b)).run Try.prog w = .ok (.float .f64 q) w := fun w => run_float_arith w .quo _ .f64 _ _ _ hq
    have l2 : ∀ w, (binOp .add 22 (.float .f64 q) (.float .f64 Fl.halfR)).run Try.prog w = .ok (.float .f64 a) w := fun w => run_float_arith w .add _ .f64 _ _ _ ha
    have o1 : FloatKind.f64.format.order a Fl.topR = some (compare a Fl.topR) := Fl.order_pos hai (by decide)
    have o2 : FloatKind.f64.format.order a Fl.twoR = some (compare a Fl.twoR) := Fl.order_pos hai (by decide)
    by_cases ht : Fl.topR ≤ a
    · have hv : c = 16777216 := hc.trans (Fl.by_top ht)
      subst hv
      have ho : FloatKind.f64.format.order a Fl.topR = some .gt ∨ FloatKind.f64.format.order a Fl.topR = some .eq := by
        rcases Nat.lt_or_eq_of_le ht with h | h
        · exact .inl (by rw [o1, Nat.compare_eq_gt.2 h])
        · exact .inr (by rw [o1, Nat.compare_eq_eq.2 h.symm])
      clear o1 o2 hc hq ha hqi h0 h1 ht
      rcases ho with ho | ho
      all_goals
        go_enter Try.func10, Try.ntmps10
        go_wp2_with (first | simp only [l1] | simp only [l2] | (go_at_call 19; refine (isnan_any b _ hs _).mono ?_; rintro e w' ⟨rfl, rfl⟩))
        go_ret
        exact ⟨rfl, rfl⟩
    · obtain ⟨p1, p2⟩ := Fl.by_cases_ ht
      rw [Nat.compare_eq_lt.2 (show a < Fl.topR by omega)] at o1
      by_cases h2 : a < Fl.twoR
      · have hv : c = 1 := hc.trans (p1 h2)
        subst hv
        rw [Nat.compare_eq_lt.2 h2] at o2
        clear p1 p2 hc hq ha hqi h0 h1 ht h2
        go_enter Try.func10, Try.ntmps10
        go_wp2_with (first | simp only [l1] | simp only [l2] | (go_at_call 19; refine (isnan_any b _ hs _).mono ?_; rintro e w' ⟨rfl, rfl⟩))
        go_ret
        exact ⟨rfl, rfl⟩
      · have hv : Fl.val a / 2 ^ Fl.U = c := ((p2 h2).symm.trans hc.symm)
        have l5 : ∀ w, (convert 22 3 (.float .f64 a)).run Try.prog w = .ok (.int .i64 (c : Int)) w := fun w => int_float a c (by omega) hv h24 w
        have ho : FloatKind.f64.format.order a Fl.twoR = some .gt ∨ FloatKind.f64.format.order a Fl.twoR = some .eq := by
          rcases Nat.lt_or_eq_of_le (show Fl.twoR ≤ a by omega) with h | h
          · exact .inl (by rw [o2, Nat.compare_eq_gt.2 h])
          · exact .inr (by rw [o2, Nat.compare_eq_eq.2 h.symm])
        clear p1 p2 hc hq ha hqi h0 h1 ht h2 hv o2
        rcases ho with ho | ho
        all_goals
          go_enter Try.func10, Try.ntmps10
          go_wp2_with (first | simp only [l1] | simp only [l2] | simp only [l5] | (go_at_call 19; refine (isnan_any b _ hs _).mono ?_; rintro e w' ⟨rfl, rfl⟩))
          go_ret
          exact ⟨rfl, rfl⟩
  · rw [show Fl.costB b = 16777216 by unfold Fl.costB; rw [if_neg hp]]
    have hg : (FloatKind.f64.format.order b b = none ∧ FloatKind.f64.format.order b 0 = none) ∨ (FloatKind.f64.format.order b b = some .eq ∧ FloatKind.f64.format.order b 0 = some .lt) ∨ (FloatKind.f64.format.order b b = some .eq ∧ FloatKind.f64.format.order b 0 = some .eq) := by
      rcases Fl.order_not hb hp with h | ⟨h, h' | h'⟩
      · exact .inl h
      · exact .inr (.inl ⟨h, h'⟩)
      · exact .inr (.inr ⟨h, h'⟩)
    clear hp
    rcases hg with ⟨hs, hg⟩ | ⟨hs, hg⟩ | ⟨hs, hg⟩
    all_goals
      go_enter Try.func10, Try.ntmps10
      go_wp2_with (go_at_call 19; refine (isnan_any b _ hs _).mono ?_; rintro e w' ⟨rfl, rfl⟩)
      go_ret
      exact ⟨rfl, rfl⟩

theorem better_any (a b : Nat) (ha : a < 18446744073709551616) (hb : b < 18446744073709551616) (w : World) :
    Calls Try.prog 12 #[.float .f64 a, .float .f64 b] w fun e w' => e = .returned (.bool (decide (Fl.costB a < Fl.costB b))) ∧ w = w' := by
  go_enter Try.func12, Try.ntmps12
  go_wp2_with (go_at_call 11; (first | (with_reducible (refine (of_any a ha _).mono ?_)) | (with_reducible (refine (of_any b hb _).mono ?_))); rintro e w' ⟨rfl, rfl⟩)
  go_ret
  exact ⟨rfl, rfl⟩

/-- What the statements ask first. -/
theorem alive_any (w : World) :
    Calls Try.prog 9 #[] w fun e w' => e = .returned (.bool true) ∧ Below w.heap.size w w' := by
  have k1 := Lib.hid Fl.cost_ten
  have k2 := Lib.hid Fl.cost_nan
  go_enter Try.func9, Try.ntmps9
  go_wp2_with (first
    | (go_at_call 18; refine (nan_any _).mono ?_; rintro e w' ⟨rfl, rfl⟩)
    | (go_at_call 11; (with_reducible (refine (of_any 4621819117588971520 (by decide) _).mono ?_)); rw [k1.out]; rintro e w' ⟨rfl, rfl⟩)
    | (go_at_call 11; (with_reducible (refine (of_any 9221120237041090561 (by decide) _).mono ?_)); rw [k2.out]; rintro e w' ⟨rfl, rfl⟩))
  go_ret
  exact ⟨rfl, Below.refl _ _⟩
end Go.Proofs.Ytglgkgpflindjaa
