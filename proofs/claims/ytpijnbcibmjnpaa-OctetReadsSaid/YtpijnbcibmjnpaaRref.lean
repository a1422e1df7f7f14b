/- Contracts of the document's own reader. No condition but that the reader stands in its place. -/
import Derived.Test.YtpijnbcibmjnpaaStops
namespace Go.Proofs.Ytpijnbcibmjnpaa
open Go.RowKit

/-- The document's reader r stands at block g: the place of its fault is where it stands. -/
def RdS.badAt (r : RdS) : Int := if r.bad then (r.at_ : Int) else -1
def IsM (w : World) (g : Nat) (r : RdS) : Prop := Blk w g 38 #[.string r.s, .int .i64 r.at_, .int .i64 r.badAt]
section
variable {w : World} {g : Nat} {r : RdS}
theorem IsM.c0 (h : IsM w g r) : w.cell? ⟨g, 0, none⟩ = some (.string r.s) := h.cell 0
theorem IsM.c1 (h : IsM w g r) : w.cell? ⟨g, 1, none⟩ = some (.int .i64 r.at_) := h.cell 1
theorem IsM.c2 (h : IsM w g r) : w.cell? ⟨g, 2, none⟩ = some (.int .i64 r.badAt) := h.cell 2
end

set_option maxHeartbeats 400000 in
theorem mleft_any (g : Nat) (r : RdS) (w : World) (h : IsM w g r) (hr : r.ok) :
    Calls Try.prog 20 #[.pointer (some ⟨g, 0, none⟩)] w fun e w' => e = .returned (.int .i64 r.left) ∧ ∃ n, w' = w.drewN n := by
  obtain ⟨s, at_, bad⟩ := r
  obtain ⟨h1, h2⟩ := hr
  simp only at h1 h2
  have c0 := h.c0
  have c1 := h.c1
  have c2 := h.c2
  simp only [RdS.badAt] at c0 c1 c2
  clear h
  cases bad
  · simp only [Bool.false_eq_true, ite_false] at c2
    go_enter Try.func20, Try.ntmps20
    go_wp2
    go_quiet (fail)
    go_wp2
    go_ret
    refine ⟨?_, nq, rfl⟩
    simp [RdS.left]
    omega
  · simp only [ite_true] at c2
    go_enter Try.func20, Try.ntmps20
    go_wp2
    go_ret
    exact ⟨rfl, 0, rfl⟩

set_option maxHeartbeats 1000000 in
theorem mraw_any (g : Nat) (r : RdS) (n : Int) (w : World) (h : IsM w g r) (hr : r.ok) (hn : n ≤ 9223372036854775807) :
    Calls Try.prog 17 #[.pointer (some ⟨g, 0, none⟩), .int .i64 n] w fun e w' => e = .returned (.string (r.text n)) ∧ IsM w' g (r.take n) ∧ Touch (· = g) w w' := by
  obtain ⟨s, at_, bad⟩ := r
  obtain ⟨hr1, hr2⟩ := hr
  simp only at hr1 hr2
  have c0 := h.c0
  have c1 := h.c1
  have c2 := h.c2
  simp only [RdS.badAt] at c0 c1 c2
  cases bad
  · simp only [Bool.false_eq_true, ite_false] at c2
    by_cases hc : (RdS.mk s at_ false).can n = true
    · have hc' := hc
      simp only [RdS.can, Bool.not_false, Bool.true_and, Bool.and_eq_true, decide_eq_true_eq] at hc'
      obtain ⟨hc1, hc2⟩ := hc'
      obtain ⟨k, rfl⟩ := Int.eq_ofNat_of_zero_le hc1
      have ht : (RdS.mk s at_ false).take k = ⟨s, at_ + k, false⟩ := by rw [RdS.take, if_pos hc, Int.toNat_natCast]
      have hx : (RdS.mk s at_ false).text k = s.extract at_ (at_ + k) := by rw [RdS.text, if_pos hc, Int.toNat_natCast]
      rw [ht, hx]
      have f1 := h.frozen 1
      have hk : at_ + k ≤ s.size := by omega
      have hw : ∀ w2 : World, IsM w2 g ⟨s, at_, false⟩ → IsM (w2.setCell ⟨g, 1, none⟩ (.int .i64 ((at_ : Int) + k))) g ⟨s, at_ + k, false⟩ := fun w2 h2 => Blk.set_ h2 1 (.int .i64 ((at_ : Int) + k))
      have d1 : decide ((k : Int) < 0) = false := by simp
      have d2 : decide ((s.size : Int) - (at_ : Int) < (k : Int)) = false := by simp; omega
      have e1 : IntKind.i64.wrap ((s.size : Int) - (at_ : Int)) = (s.size : Int) - (at_ : Int) := IntWalk.i64_in _ (by omega)
      have e2 : IntKind.i64.wrap ((at_ : Int) + (k : Int) - (k : Int)) = (at_ : Int) := by rw [IntWalk.i64_in _ (by omega)]; omega
      clear ht hx hc hc1
      go_enter Try.func17, Try.ntmps17
      go_wp2
      go_quiet (fail)
      go_wp2
      go_quiet (fail)
      go_wp2
      go_ret
      refine ⟨?_, (hw _ (h.drewN _)).drewN _, (Touch.set_ (p := (· = g)) ((Touch.refl _ _).drewN _) (fun _ => rfl) _).drewN _⟩
      rfl
    · have hcf : (RdS.mk s at_ false).can n = false := by simpa using hc
      have ht : (RdS.mk s at_ false).take n = ⟨s, at_, true⟩ := by simp [RdS.take, hcf, RdS.fail]
      have hx : (RdS.mk s at_ false).text n = ⟨#[]⟩ := by simp [RdS.text, hcf]
      simp only [RdS.can, Bool.not_false, Bool.true_and, Bool.and_eq_true, decide_eq_true_eq] at hc
      rw [ht, hx]
      have f2 := h.frozen 2
      have hw : ∀ w2 : World, IsM w2 g ⟨s, at_, false⟩ → IsM (w2.setCell ⟨g, 2, none⟩ (.int .i64 (at_ : Int))) g ⟨s, at_, true⟩ := fun w2 h2 => Blk.set_ h2 2 (.int .i64 (at_ : Int))
      have e1 : IntKind.i64.wrap ((s.size : Int) - (at_ : Int)) = (s.size : Int) - (at_ : Int) := IntWalk.i64_in _ (by omega)
      clear ht hx hcf
      by_cases hn0 : n < 0
      · have d1 : decide (n < 0) = true := by simpa using hn0
        clear hc
        go_enter Try.func17, Try.ntmps17
        go_wp2
        go_quiet (fail)
        go_wp2
        go_ret
        exact ⟨rfl, hw _ (h.drewN _), Touch.set_ (p := (· = g)) ((Touch.refl _ _).drewN _) (fun _ => rfl) _⟩
      · have d1 : decide (n < 0) = false := by simpa using hn0
        have d2 : decide ((s.size : Int) - (at_ : Int) < n) = true := by simp; omega
        clear hc
        go_enter Try.func17, Try.ntmps17
        go_wp2
        go_quiet (fail)
        go_wp2
        go_ret
        exact ⟨rfl, hw _ (h.drewN _), Touch.set_ (p := (· = g)) ((Touch.refl _ _).drewN _) (fun _ => rfl) _⟩
  · simp only [ite_true] at c2
    rw [bad_text, bad_take]
    go_enter Try.func17, Try.ntmps17
    go_wp2
    go_ret
    exact ⟨rfl, h, Touch.refl _ _⟩

theorem sum_byte (a : Nat) (c : UInt8) (h : a < 281474976710656) : wrap64 (wrap64 ((a : Int) * 256) + wrap64 (c.toNat : Int)) = ((a * 256 + c.toNat : Nat) : Int) := by
  have hc := c.toNat_lt
  rw [IntWalk.wrap64_in ((a : Int) * 256) (by omega), IntWalk.wrap64_in (c.toNat : Int) (by omega), IntWalk.wrap64_in _ (by omega)]
  omega

set_option maxHeartbeats 1000000 in
theorem mget_any (g : Nat) (r : RdS) (n : Int) (w : World) (h : IsM w g r) (hr : r.ok) :
    Calls Try.prog 15 #[.pointer (some ⟨g, 0, none⟩), .int .i64 n] w fun e w' => e = .returned (.int .i64 (num (r.text (near n 7)).data.toList)) ∧ IsM w' g (r.take (near n 7)) ∧ Touch (· = g) w w' := by
  have hcase : (n < 1 ∧ near n 7 = 1) ∨ (7 < n ∧ near n 7 = 7) ∨ (¬ n < 1 ∧ ¬ 7 < n ∧ near n 7 = n) := by have := near_is n 7; omega
  have hx7 := text_le r (near n 7)
  rcases hcase with ⟨hs, hn⟩ | ⟨hs, hn⟩ | ⟨hs1, hs2, hn⟩
  · rw [hn] at hx7 ⊢
    have d1 : decide (n < 1) = true := by simpa using hs
    go_enter Try.func15, Try.ntmps15
    go_wp2_with fail
    refine (mraw_any g r _ _ h hr (by omega)).mono ?_
    rintro e w' ⟨rfl, hi, hto⟩
    generalize hx0 : r.text 1 = x at *
    have HX := Lib.hid hx0
    have hx : x.size ≤ 7 := by omega
    clear hx7 h hr hx0 hn
    go_wp2_with fail
    go_loop [5, 7] (fun t i => ∃ k : Nat, k ≤ x.size ∧ i = .int .i64 k ∧ t = .int .i64 (num (x.data.toList.take k))) (fun _ i => x.size - (intOf i).toNat)
    case atStart => exact ⟨0, Nat.zero_le _, rfl, rfl⟩
    case round =>
      obtain ⟨k, hk, rfl, rfl⟩ := hrel
      by_cases hlt : k < x.size
      · have hsn : num (x.data.toList.take (k + 1)) = num (x.data.toList.take k) * 256 + x[k].toNat := by rw [take_snoc x k hlt, num_snoc]
        have HS := Lib.hid hsn
        have hk6 : num (x.data.toList.take k) < 281474976710656 := by
          have h1 := num_lt (x.data.toList.take k)
          have h2 : (x.data.toList.take k).length ≤ 6 := by simp; omega
          exact Nat.lt_of_lt_of_le h1 (Nat.le_trans (Nat.pow_le_pow_right (by omega) h2) (by decide))
        have HJ := Lib.hid (sum_byte (num (x.data.toList.take k)) x[k] hk6)
        clear hsn hk6
        go_wp2_with fail
        go_round
        case rel => exact ⟨k + 1, by omega, by go_num, by rw [HS.out, ← HJ.out]⟩
        case measure => simp [intOf]; omega
      · have hk' : k = x.size := by omega
        have hf : x.data.toList.take k = x.data.toList := List.take_of_length_le (by simp; omega)
        have HF := Lib.hid hf
        clear hf hk'
        go_wp2_with fail
        go_ret
        exact ⟨by rw [HX.out]; exact congrArg (fun l => Ending.returned (.int .i64 (num l : Nat))) HF.out, hi, hto⟩
  · rw [hn] at hx7 ⊢
    have d1 : decide (n < 1) = false := by simp; omega
    have d2 : decide (7 < n) = true := by simpa using hs
    go_enter Try.func15, Try.ntmps15
    go_wp2_with fail
    refine (mraw_any g r _ _ h hr (by omega)).mono ?_
    rintro e w' ⟨rfl, hi, hto⟩
    generalize hx0 : r.text 7 = x at *
    have HX := Lib.hid hx0
    have hx : x.size ≤ 7 := by omega
    clear hx7 h hr hx0 hn
    go_wp2_with fail
    go_loop [5, 7] (fun t i => ∃ k : Nat, k ≤ x.size ∧ i = .int .i64 k ∧ t = .int .i64 (num (x.data.toList.take k))) (fun _ i => x.size - (intOf i).toNat)
    case atStart => exact ⟨0, Nat.zero_le _, rfl, rfl⟩
    case round =>
      obtain ⟨k, hk, rfl, rfl⟩ := hrel
      by_cases hlt : k < x.size
      · have hsn : num (x.data.toList.take (k + 1)) = num (x.data.toList.take k) * 256 + x[k].toNat := by rw [take_snoc x k hlt, num_snoc]
        have HS := Lib.hid hsn
        have hk6 : num (x.data.toList.take k) < 281474976710656 := by
          have h1 := num_lt (x.data.toList.take k)
          have h2 : (x.data.toList.take k).length ≤ 6 := by simp; omega
          exact Nat.lt_of_lt_of_le h1 (Nat.le_trans (Nat.pow_le_pow_right (by omega) h2) (by decide))
        have HJ := Lib.hid (sum_byte (num (x.data.toList.take k)) x[k] hk6)
        clear hsn hk6
        go_wp2_with fail
        go_round
        case rel => exact ⟨k + 1, by omega, by go_num, by rw [HS.out, ← HJ.out]⟩
        case measure => simp [intOf]; omega
      · have hk' : k = x.size := by omega
        have hf : x.data.toList.take k = x.data.toList := List.take_of_length_le (by simp; omega)
        have HF := Lib.hid hf
        clear hf hk'
        go_wp2_with fail
        go_ret
        exact ⟨by rw [HX.out]; exact congrArg (fun l => Ending.returned (.int .i64 (num l : Nat))) HF.out, hi, hto⟩
  · rw [hn] at hx7 ⊢
    have d1 : decide (n < 1) = false := by simpa using hs1
    have d2 : decide (7 < n) = false := by simpa using hs2
    go_enter Try.func15, Try.ntmps15
    go_wp2_with fail
    refine (mraw_any g r _ _ h hr (by omega)).mono ?_
    rintro e w' ⟨rfl, hi, hto⟩
    generalize hx0 : r.text n = x at *
    have HX := Lib.hid hx0
    have hx : x.size ≤ 7 := by omega
    clear hx7 h hr hx0 hn
    go_wp2_with fail
    go_loop [5, 7] (fun t i => ∃ k : Nat, k ≤ x.size ∧ i = .int .i64 k ∧ t = .int .i64 (num (x.data.toList.take k))) (fun _ i => x.size - (intOf i).toNat)
    case atStart => exact ⟨0, Nat.zero_le _, rfl, rfl⟩
    case round =>
      obtain ⟨k, hk, rfl, rfl⟩ := hrel
      by_cases hlt : k < x.size
      · have hsn : num (x.data.toList.take (k + 1)) = num (x.data.toList.take k) * 256 + x[k].toNat := by rw [take_snoc x k hlt, num_snoc]
        have HS := Lib.hid hsn
        have hk6 : num (x.data.toList.take k) < 281474976710656 := by
          have h1 := num_lt (x.data.toList.take k)
          have h2 : (x.data.toList.take k).length ≤ 6 := by simp; omega
          exact Nat.lt_of_lt_of_le h1 (Nat.le_trans (Nat.pow_le_pow_right (by omega) h2) (by decide))
        have HJ := Lib.hid (sum_byte (num (x.data.toList.take k)) x[k] hk6)
        clear hsn hk6
        go_wp2_with fail
        go_round
        case rel => exact ⟨k + 1, by omega, by go_num, by rw [HS.out, ← HJ.out]⟩
        case measure => simp [intOf]; omega
      · have hk' : k = x.size := by omega
        have hf : x.data.toList.take k = x.data.toList := List.take_of_length_le (by simp; omega)
        have HF := Lib.hid hf
        clear hf hk'
        go_wp2_with fail
        go_ret
        exact ⟨by rw [HX.out]; exact congrArg (fun l => Ending.returned (.int .i64 (num l : Nat))) HF.out, hi, hto⟩
end Go.Proofs.Ytpijnbcibmjnpaa
