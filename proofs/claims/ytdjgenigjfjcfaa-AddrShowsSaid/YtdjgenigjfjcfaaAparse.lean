/- addr.Parse: the address of a text, letter by letter. No condition but a string's size. -/
import Derived.Test.YtdjgenigjfjcfaaAshow
import Derived.Lib.OthersKept
namespace Go.Proofs.Ytdjgenigjfjcfaa
open Go.RowKit

theorem digit_some (r d : Nat) (w : World) (h : dgv r = some d) :
    Calls Try.prog 23 #[.int .i32 r] w fun e w' => e = .returned (.int .i64 d) ∧ w = w' := by
  unfold dgv at h
  split at h
  · rename_i hr
    obtain ⟨h1, h2⟩ := hr
    injection h with h
    obtain rfl : r = d + 48 := by omega
    have hd : d ≤ 9 := by omega
    clear h h1 h2
    go_enter Try.func23, Try.ntmps23
    go_wp2
    all_goals (first | (go_ret; exact ⟨rfl, rfl⟩) | (exfalso; omega))
  · split at h
    · rename_i hr
      obtain ⟨h1, h2⟩ := hr
      injection h with h
      obtain ⟨x, rfl⟩ : ∃ x : Nat, r = x + 97 := ⟨r - 97, by omega⟩
      obtain rfl : d = x + 10 := by omega
      have hx : x ≤ 5 := by omega
      clear h h1 h2
      go_enter Try.func23, Try.ntmps23
      go_wp2
      all_goals (first | (go_ret; exact ⟨rfl, rfl⟩) | (exfalso; omega))
    · cases h
theorem digit_none (r : Nat) (w : World) (h : dgv r = none) (hr : r ≤ 2147483647) :
    Calls Try.prog 23 #[.int .i32 r] w fun e w' => e = .returned (.int .i64 (-1)) ∧ w = w' := by
  have hc : r < 48 ∨ (58 ≤ r ∧ r < 97) ∨ 103 ≤ r := by
    unfold dgv at h
    split at h
    · cases h
    · split at h
      · cases h
      · omega
  clear h
  rcases hc with h | ⟨h, h'⟩ | h
  all_goals
    go_enter Try.func23, Try.ntmps23
    go_wp2
    go_ret
    exact ⟨rfl, rfl⟩
theorem ret2 {a b : Int} {c : Int} (h : a = b) : Ending.returned (.tuple #[.int .i64 a, .int .i64 c]) = .returned (.tuple #[.int .i64 b, .int .i64 c]) := by rw [h]
theorem parse_size (s : ByteArray) (w : World) (h : s.size ≠ 17) (_ : s.size ≤ maxLen) :
    Calls Try.prog 19 #[.string s] w fun e w' => e = .returned (.tuple #[.int .i64 0, .int .i64 4]) ∧ w = w' := by
  have d : ((s.size : Int) != 17) = true := by simp; omega
  clear h
  go_enter Try.func19, Try.ntmps19
  go_wp2
  go_ret2
  exact ⟨rfl, rfl⟩
theorem decode_cases (s : ByteArray) (k : Nat) (h : k < s.size) : ∃ r wd : Nat, Utf8.decode s k = (r, wd) ∧ r ≤ 2147483647 ∧ ((wd = 1 ∧ r = (s.data.toList.getD k 0).toNat) ∨ (128 ≤ r ∧ 128 ≤ (s.data.toList.getD k 0).toNat)) := by
  have e : s.data.toList.getD k 0 = s[k]'h := by
    rw [List.getD_eq_getElem?_getD, List.getElem?_eq_getElem (by simpa using h)]
    rfl
  rw [e]
  refine ⟨(Utf8.decode s k).1, (Utf8.decode s k).2, rfl, decode_le s k, ?_⟩
  by_cases ha : (s[k]'h).toNat < 128
  · rw [decode_ascii s k h ha]
    exact .inl ⟨rfl, rfl⟩
  · exact .inr ⟨(decode_high s k h (by omega)).1, by omega⟩
theorem pv_colon (l : List UInt8) (k v : Nat) (hp : pv l k = some v) (hm : k % 3 = 2) : pv l (k + 1) = if (l.getD k 0).toNat = 58 then some v else none := by simp only [pv, hp, if_pos hm]
theorem pv_digit (l : List UInt8) (k v : Nat) (hp : pv l k = some v) (hm : ¬ k % 3 = 2) : pv l (k + 1) = (dgv (l.getD k 0).toNat).map fun d => v * 16 + d := by simp only [pv, hp, if_neg hm]
theorem dgv_high {r : Nat} (h : 128 ≤ r) : dgv r = none := by
  unfold dgv
  rw [if_neg (by omega), if_neg (by omega)]
/-- What Parse answers of a text of 17 letters. -/
def parsed (s : ByteArray) : Int × Int := match pv s.data.toList 17 with
  | some v => (v, 0)
  | none => (0, 4)

set_option maxHeartbeats 1000000 in
theorem parse_17 (s : ByteArray) (w : World) (h : s.size = 17) :
    Calls Try.prog 19 #[.string s] w fun e w' => e = .returned (.tuple #[.int .i64 (parsed s).1, .int .i64 (parsed s).2]) ∧ Below w.heap.size w w' := by
  have hz : (s.size : Int) = 17 := by omega
  have hnone : ∀ k, k ≤ 16 → pv s.data.toList (k + 1) = none → parsed s = (0, 4) := fun k hk hp => by unfold parsed; rw [pv_none _ hp (show k + 1 ≤ 17 by omega)]
  have HNO := Lib.hid hnone
  clear hnone
  have HZ := Lib.hid h
  clear h
  go_enter Try.func19, Try.ntmps19
  go_wp2
  go_loopw [4] (fun a wr => ∃ k v : Nat, k ≤ 17 ∧ a = .int .i64 v ∧ pv s.data.toList k = some v ∧ wr.heap[w.heap.size]? = some (.stringIter s k) ∧ Below w.heap.size w wr) (fun _ wr => 17 - wr.iterPos w.heap.size)
  case atStart => exact ⟨0, 0, by omega, rfl, rfl, World.iter_heap w s 0, (Below.refl _ w).alloc (Nat.le_refl _) _⟩
  case round =>
    obtain ⟨k, v, hk, rfl, hp, hit, hbel⟩ := hrel
    by_cases hlt : k < 17
    · obtain ⟨r, wd, hd, hr, hcase⟩ := decode_cases s k (by have := HZ.out; omega)
      have hnx : ∀ ty, (Instr.next (.pointer (some ⟨w.heap.size, 0, none⟩)) true ty).run Try.prog wr = .ok (.tuple #[.bool true, .int .i64 k, .int .i32 r]) (wr.iterAt w.heap.size s (k + wd)) := fun ty => by
        rw [Lib.run_next_any_at wr w.heap.size s k ty hit (by have := HZ.out; omega), hd]
      have hit2 := Lib.iterAt_heap wr w.heap.size s k (k + wd) hit
      have hb2 := Lib.below_iterAt hbel (k := w.heap.size) (Nat.le_refl _) s (k + wd)
      have hitp : wr.iterPos w.heap.size = k := by simp [World.iterPos, hit]
      have hitq : (wr.iterAt w.heap.size s (k + wd)).iterPos w.heap.size = k + wd := by simp [World.iterPos, hit2]
      have HI := Lib.hid hitp
      have HJ := Lib.hid hitq
      clear hd hitp hitq
      by_cases hm : k % 3 = 2
      · have hP := pv_colon _ k v hp hm
        have d1 : ((k : Int) % 3 == 2) = true := by simp; omega
        by_cases hr58 : r = 58
        · obtain ⟨rfl, hc⟩ : wd = 1 ∧ (s.data.toList.getD k 0).toNat = 58 := by omega
          rw [if_pos hc] at hP
          subst hr58
          clear hc hcase hm hr
          go_wp2
          go_roundw
          case rel => exact ⟨k + 1, v, by omega, rfl, hP, hit2, hb2⟩
          case measure => rw [HI.out, HJ.out]; omega
        · rw [if_neg (by omega)] at hP
          have HN := Lib.hid (HNO.out k (by omega) hP)
          have d2 : ((r : Int) != 58) = true := by simp; omega
          clear hcase hm hr hr58 hP
          go_wp2
          go_ret2
          exact ⟨by rw [HN.out]; rfl, hb2⟩
      · have hP := pv_digit _ k v hp hm
        have d1 : ((k : Int) % 3 == 2) = false := by simp; omega
        have hv : v < 17592186044416 := Nat.lt_of_lt_of_le (pv_lt _ k v hp) (Nat.pow_le_pow_right (by decide) (show dgs k ≤ 11 by unfold dgs; omega))
        cases hdg : dgv r with
        | some d =>
          obtain ⟨rfl, hc⟩ : wd = 1 ∧ r = (s.data.toList.getD k 0).toNat := by
            rcases hcase with hcase | hcase
            · exact hcase
            · rw [dgv_high hcase.1] at hdg
              cases hdg
          rw [← hc, hdg] at hP
          have hd16 := dgv_lt hdg
          have HD := Lib.hid hdg
          clear hc hcase hm hr hdg
          go_wp2_with (go_at_call 23; refine (digit_some _ _ _ HD.out).mono ?_; rintro e w' ⟨rfl, rfl⟩)
          go_roundw
          case rel =>
            refine ⟨k + 1, v * 16 + d, by omega, ?_, hP, hit2, hb2⟩
            rw [bits_join .i64 63 (by decide) (fun n a b => IntWalk.i64_in _ (by omega)) 4 _ _ (by omega) (by omega) (by omega) (by omega) (by omega) (by omega)]
            go_num
          case measure => rw [HI.out, HJ.out]; omega
        | none =>
          rw [show dgv (s.data.toList.getD k 0).toNat = none by
            rcases hcase with hcase | hcase
            · rw [← hcase.2]; exact hdg
            · exact dgv_high hcase.2] at hP
          have HN := Lib.hid (HNO.out k (by omega) hP)
          have HD := Lib.hid hdg
          clear hcase hm hdg hP
          go_wp2_with (go_at_call 23; refine (digit_none _ _ HD.out hr).mono ?_; rintro e w' ⟨rfl, rfl⟩)
          go_ret2
          exact ⟨by rw [HN.out]; rfl, hb2⟩
    · obtain rfl : k = 17 := by omega
      have hnx : ∀ ty, (Instr.next (.pointer (some ⟨w.heap.size, 0, none⟩)) true ty).run Try.prog wr = _ := fun ty => Lib.run_next_end_at wr w.heap.size s 17 ty hit (by have := HZ.out; omega)
      have HP := Lib.hid (show parsed s = ((v : Int), 0) by unfold parsed; rw [hp])
      go_wp2
      go_ret2
      exact ⟨by rw [HP.out]; rfl, hbel⟩
end Go.Proofs.Ytdjgenigjfjcfaa
