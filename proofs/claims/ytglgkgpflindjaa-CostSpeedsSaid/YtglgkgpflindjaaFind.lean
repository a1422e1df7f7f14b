/- The library's search by halves, of numbers up to 2^63 - 1, with a question that may draw; cost.Speed over it. Condition: the cost is an int. -/
import Derived.Test.YtglgkgpflindjaaOf
import Derived.RegionTactic
import Derived.Deep.RegionLaw
import Derived.Shelf.Abstract
import Derived.Deep.LoopGhost
import Derived.Deep.Draws
namespace Go.Proofs.Ytglgkgpflindjaa
open Go.RowKit

theorem ask_any (bx : Addr) (c : Int) (i : Nat) (W : World) (hi : i ≤ Fl.infR) (hc : W.cell? bx = some (.int .i64 c)) :
    Calls Try.prog 22 (#[.int .i64 i] ++ #[.pointer (some bx)]) W fun e w' => e = .returned (.bool (decide ((Fl.costB i : Int) < c))) ∧ ∃ q, w' = W.drewN q := by
  have hx := call_from (i : Int)
  have hb : i < 18446744073709551616 := Nat.lt_of_le_of_lt hi (by decide)
  have hb' : (i : Int) < 18446744073709551616 := by omega
  have hn : ((i : Int)).toNat = i := rfl
  rw [hn] at hx
  have hw : IntKind.u64.wrap (i : Int) = i := IntWalk.u64_in _ (by omega)
  go_enter Try.func22, Try.ntmps22
  go_wp2_with fail
  go_region_law ((go_simp; go_at_call 11; refine (of_any i hb _).mono ?_; rintro e w' ⟨rfl, rfl⟩))
  all_goals
    go_wp2
    go_ret
    exact ⟨rfl, 1, rfl⟩

set_option maxHeartbeats 1000000 in
/-- The library's search: where the question turns. Condition: fewer than 2^63 numbers; the question may draw. -/
theorem search_any (g : Nat) (cb : Array Value) (n : Nat) (p : Nat → Bool) (w : World) (eg : ∀ args w, (callFunc g args).run Try.prog w = .ok (.enter g args) w) (hsz : n ≤ 9223372036854775807)
    (hf : ∀ (m i : Nat), i < n → Calls Try.prog g (#[.int .i64 i] ++ cb) (w.drewN m) fun e w' => e = .returned (.bool (p i)) ∧ ∃ q, w' = (w.drewN m).drewN q) :
    Calls Try.prog 21 #[.int .i64 n, .func (.func g) #[] cb] w fun e w' => ∃ k q : Nat, e = .returned (.int .i64 (k : Int)) ∧ w' = w.drewN q ∧ k ≤ n ∧ (k = 0 ∨ p (k - 1) = false) ∧ (k = n ∨ p k = true) := by
  have HF : Aside _ := hf
  clear hf
  go_enter Try.func21, Try.ntmps21
  go_wp2
  go_loopg [5, 6] n (fun kx s5 s6 wr => ∃ (lo hi q : Nat), s5 = .int .i64 lo ∧ s6 = .int .i64 hi ∧ lo ≤ hi ∧ hi ≤ n ∧ hi - lo ≤ kx ∧ wr = w.drewN q ∧
    Aside ((lo = 0 ∨ p (lo - 1) = false) ∧ (hi = n ∨ p hi = true)))
  case atStart => exact ⟨0, n, 0, rfl, rfl, Nat.zero_le _, Nat.le_refl _, by omega, rfl, .inl rfl, .inl rfl⟩
  case round =>
    obtain ⟨lo, hi, q, rfl, rfl, hlh, hin, hg, rfl, I⟩ := hrel
    by_cases hlt : lo < hi
    · have hc := HF.out q ((lo + hi) / 2) (by omega)
      have hu : IntKind.u64.wrap (wrap64 ((lo : Int) + (hi : Int))) = (lo : Int) + (hi : Int) := by
        rw [IntKind.wrap_u64]
        unfold wrap64
        omega
      have hw : IntKind.i64.wrap (IntKind.u64.wrap (wrap64 ((lo : Int) + (hi : Int))) / 2) = ((lo : Int) + (hi : Int)) / 2 := by
        rw [hu]
        exact IntWalk.i64_in _ (by omega)
      clear hu
      rw [show (((lo + hi) / 2 : Nat) : Int) = ((lo : Int) + (hi : Int)) / 2 by omega] at hc
      cases hp : p ((lo + hi) / 2) <;> rw [hp] at hc
      · have HP : Aside (p ((lo + hi) / 2) = false) := hp
        clear hp
        go_wp2_with (go_at_fn g; refine hc.mono ?_; rintro e w' ⟨rfl, nq, rfl⟩)
        go_roundg (hi - ((lo + hi) / 2 + 1))
        case measure => omega
        case rel =>
          exact ⟨(lo + hi) / 2 + 1, hi, q + nq, by rw [show ((lo : Int) + (hi : Int)) / 2 + 1 = (((lo + hi) / 2 + 1 : Nat) : Int) by omega], rfl, by omega, hin, Nat.le_refl _, rfl, .inr HP.out, I.out.2⟩
      · have HP : Aside (p ((lo + hi) / 2) = true) := hp
        clear hp
        go_wp2_with (go_at_fn g; refine hc.mono ?_; rintro e w' ⟨rfl, nq, rfl⟩)
        go_roundg ((lo + hi) / 2 - lo)
        case measure => omega
        case rel =>
          exact ⟨lo, (lo + hi) / 2, q + nq, rfl, by rw [show ((lo : Int) + (hi : Int)) / 2 = (((lo + hi) / 2 : Nat) : Int) by omega], by omega, by omega, Nat.le_refl _, rfl, I.out.1, .inr HP.out⟩
    · obtain rfl : hi = lo := by omega
      go_wp2
      go_ret
      exact ⟨hi, q, rfl, rfl, hin, I.out.1, I.out.2⟩

theorem eg_ask : ∀ args w, (callFunc 22 args).run Try.prog w = .ok (.enter 22 args) w := enters_of Try.func22 (by kernel_rfl) rfl

set_option maxHeartbeats 1000000 in
theorem speed_any (c : Int) (w : World) :
    Calls Try.prog 13 #[.int .i64 c] w fun e w' => ∃ k : Nat, e = .returned (.float .f64 k) ∧ Below w.heap.size w w' ∧ ((c < 1 ∨ 16777216 < c) ∧ k = 0 ∨ 1 ≤ c ∧ c ≤ 16777216 ∧ Fl.Spd c k) := by
  by_cases h1 : c < 1
  · go_enter Try.func13, Try.ntmps13
    go_wp2
    go_ret
    exact ⟨0, rfl, (Below.refl _ w).alloc (Nat.le_refl _) _, .inl ⟨.inl h1, rfl⟩⟩
  · by_cases h2 : 16777216 < c
    · go_enter Try.func13, Try.ntmps13
      go_wp2
      go_ret
      exact ⟨0, rfl, (Below.refl _ w).alloc (Nat.le_refl _) _, .inl (by first | exact ⟨.inr h2, rfl⟩ | rfl)⟩
    · have hS := search_any 22 #[.pointer (some ⟨w.heap.size, 0, none⟩)] 9218868437227405313 (fun i => decide ((Fl.costB i : Int) < c)) (w.alloc (.cells #[.int .i64 c] 3)) eg_ask (by decide)
        (fun m i hi => ask_any ⟨w.heap.size, 0, none⟩ c i _ (show i ≤ 9218868437227405312 by omega) (by
          show (w.alloc (.cells #[.int .i64 c] 3)).cell? _ = _
          rw [World.cell?_alloc_at _ _ _ _ (by simp)]; rfl))
      have HS := Lib.hid (show Calls _ _ _ _ _ = True from eq_true hS)
      clear hS
      go_enter Try.func13, Try.ntmps13
      go_wp2_with fail
      refine (of_eq_true HS.out).mono ?_
      rintro e w' ⟨K, q, rfl, rfl, hK, hlo, hhi⟩
      have hK0 : K ≠ 0 := by
        rintro rfl
        rcases hhi with h | h
        · cases h
        · have : (Fl.costB 0 : Int) = 16777216 := rfl
          have := of_decide_eq_true h
          omega
      obtain ⟨k, rfl⟩ : ∃ k, K = k + 1 := ⟨K - 1, by omega⟩
      have hs : Fl.Spd c k := by
        refine ⟨show k ≤ 9218868437227405312 by omega, ?_, ?_⟩
        · rcases hlo with h | h
          · omega
          · have h' := of_decide_eq_false h
            simp only [Nat.add_sub_cancel] at h'
            omega
        · rcases hhi with h | h
          · exact .inl (show k = 9218868437227405312 by omega)
          · exact .inr (of_decide_eq_true h)
      have hx := call_from (k : Int)
      rw [show ((k : Int)).toNat = k from rfl] at hx
      have hw : IntKind.u64.wrap (k : Int) = k := IntWalk.u64_in _ (by omega)
      have hw' : wrap64 (k : Int) = k := IntWalk.wrap64_in _ (by omega)
      have HC := Lib.hid (show (1 ≤ c ∧ c ≤ 16777216 ∧ Fl.Spd c k) = True from eq_true ⟨by omega, by omega, hs⟩)
      clear hlo hhi hK hK0 hs h1 h2
      go_wp2
      go_ret
      refine ⟨k, rfl, ?_, .inr (of_eq_true HC.out)⟩
      have hb : Below w.heap.size w (w.alloc (.cells #[.int .i64 c] 3)) := (Below.refl _ w).alloc (Nat.le_refl _) _
      exact ⟨hb.os, hb.tape, hb.output, hb.size, hb.block⟩
end Go.Proofs.Ytglgkgpflindjaa
