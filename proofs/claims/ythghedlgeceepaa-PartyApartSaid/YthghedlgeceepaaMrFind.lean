/- Is a number in a list: slices.Contains, the document's has; great. Its condition: at most 2^20 numbers. -/
import Derived.Test.YthghedlgeceepaaMrAsk
namespace Go.Proofs.Ythghedlgeceepaa
open Go.RowKit

theorem mem_at (l : List Int) (k : Nat) (h : k < l.length) : l.getD k 0 ∈ l := by
  rw [List.getD_eq_getElem?_getD, List.getElem?_eq_getElem h]
  exact List.getElem_mem h
theorem mem_none {l : List Int} {k : Int} (h : ∀ j, j < l.length → l.getD j 0 ≠ k) : decide (k ∈ l) = false := decide_eq_false fun hm => by
  obtain ⟨j, hj, e⟩ := List.getElem_of_mem hm
  refine h j hj ?_
  rw [List.getD_eq_getElem?_getD, List.getElem?_eq_getElem hj]
  exact e

set_option maxHeartbeats 1000000 in
theorem index_any (A : Option Addr) (c : Nat) (l : List Int) (k : Int) (B : Nat) (w : World) (hl : l.length ≤ 1048576) (hA : IntsAt w B A l) :
    Calls Try.prog 71 #[.slice A l.length c, .int .i64 k] w fun e w' => (∃ q : Int, e = .returned (.int .i64 q) ∧ decide (0 ≤ q) = decide (k ∈ l)) ∧ w = w' := by
  generalize hn : l.length = n at *
  have HN := Lib.hid hn
  clear hn
  go_enter Try.func71, Try.ntmps71
  go_wp2_with fail
  go_loop [8] (fun i => ∃ j : Nat, j ≤ n ∧ i = .int .i64 j ∧ ∀ r, r < j → l.getD r 0 ≠ k) (fun i => n - (intOf i).toNat)
  case atStart => exact ⟨0, Nat.zero_le _, rfl, fun r hr => absurd hr (Nat.not_lt_zero _)⟩
  case round =>
    obtain ⟨j, hj, rfl, hf⟩ := hrel
    by_cases hlt : j < n
    · obtain ⟨b, off, rfl, hb, c0⟩ := hA j (by rw [HN.out]; exact hlt)
      have HF := Lib.hid hf
      have HM := Lib.hid (mem_at l j (by rw [HN.out]; exact hlt))
      clear hf hA
      generalize hx : l.getD j 0 = x at *
      have HX := Lib.hid hx
      clear hx
      by_cases e : k = x
      · subst e
        have HD : Hid (decide ((0 : Int) ≤ (j : Int)) = decide (k ∈ l)) := Lib.hid (by rw [decide_eq_true HM.out]; exact decide_eq_true (by omega))
        go_wp2
        go_ret
        exact ⟨⟨_, rfl, by first | exact HD.out | simpa using HD.out⟩, rfl⟩
      · have d : (k == x) = false := by simpa using e
        have HE := Lib.hid e
        clear e
        go_wp2
        go_round
        case rel => exact ⟨j + 1, by omega, by go_num, fun r hr => by
          by_cases e : r = j
          · subst e; rw [HX.out]; exact fun h => HE.out h.symm
          · exact HF.out r (by omega)⟩
        case measure => simp [intOf]; omega
    · obtain rfl : j = n := by omega
      have HD : Hid (decide ((0 : Int) ≤ -1) = decide (k ∈ l)) := Lib.hid (by rw [mem_none (fun r hr => hf r (by rw [HN.out] at hr; exact hr))]; rfl)
      clear hf hA
      go_wp2
      go_ret
      exact ⟨⟨_, rfl, by first | exact HD.out | simpa using HD.out⟩, rfl⟩
set_option maxHeartbeats 1000000 in
theorem contains_any (A : Option Addr) (c : Nat) (l : List Int) (k : Int) (B : Nat) (w : World) (hl : l.length ≤ 1048576) (hA : IntsAt w B A l) :
    Calls Try.prog 41 #[.slice A l.length c, .int .i64 k] w fun e w' => e = .returned (.bool (decide (k ∈ l))) ∧ w' = w := by
  have HI := Lib.hid (index_any A c l k B w hl hA)
  go_enter Try.func41, Try.ntmps41
  go_wp2_with fail
  refine HI.out.mono ?_
  rintro e w' ⟨⟨q, rfl, hq⟩, rfl⟩
  have HQ := Lib.hid hq
  clear hq
  go_wp2_with fail
  go_ret
  exact ⟨ret_bool HQ.out, rfl⟩
/-- More than is played? -/
def greatB (a b : Nat) : Bool := decide (20 < a ∨ 500 < b)
end Go.Proofs.Ythghedlgeceepaa
