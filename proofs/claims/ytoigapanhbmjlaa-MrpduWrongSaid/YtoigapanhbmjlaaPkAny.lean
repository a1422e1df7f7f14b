/- pack.unpacked at three of six, whatever the bytes are: the events that they tell, or that they tell none. Its condition: at most 2^20 numbers. -/
import Derived.Test.YtoigapanhbmjlaaPkCalls
namespace Go.Proofs.Ytoigapanhbmjlaa
open Go.RowKit

/-- Byte j of a text, 0 beyond its end. -/
def byt (s : List UInt8) (j : Nat) : Nat := (s.getD j 0).toNat
/-- The k-th event that bytes tell. -/
def evt (s : List UInt8) (k : Nat) : Nat := byt s (k / 3) / 6 ^ (2 - k % 3) % 6
/-- Are these the bytes of n events? -/
def evsOk (s : List UInt8) (n : Nat) : Prop := s.length = sz n 3 ∧ (∀ j, j < sz n 3 → byt s j < 216) ∧ (n % 3 ≠ 0 → byt s (n / 3) % 6 ^ (3 - n % 3) = 0)
/-- How unpacking ends: with the events in a new row, or in an error. -/
def EvsEnd (s : List UInt8) (n : Nat) (e : Ending) (w' : World) : Prop :=
  (evsOk s n ∧ UnpackEnd (evt s) n e w') ∨ (¬ evsOk s n ∧ e = .returned (.tuple #[.slice none 0 0, .int .i64 4]))

theorem evt_lt (s : List UInt8) (k : Nat) : evt s k < 6 := Nat.mod_lt _ (by decide)
theorem evt_quo (s : List UInt8) (k : Nat) : byt s (k / 3) % 6 ^ (3 - k % 3) / 6 ^ (2 - k % 3) = evt s k := by
  unfold evt
  generalize byt s (k / 3) = q
  rcases (show k % 3 = 0 ∨ k % 3 = 1 ∨ k % 3 = 2 from by omega) with h | h | h <;> rw [h]
  · show q % 216 / 36 = q / 36 % 6; omega
  · show q % 36 / 6 = q / 6 % 6; omega
  · show q % 6 / 1 = q / 1 % 6; omega
theorem rem_rem (q r : Nat) (hr : r < 3) : q % 6 ^ (3 - r) % 6 ^ (2 - r) = q % 6 ^ (3 - (r + 1)) := by
  rcases (show r = 0 ∨ r = 1 ∨ r = 2 from by omega) with h | h | h <;> subst h
  · show q % 216 % 36 = q % 36; omega
  · show q % 36 % 6 = q % 6; omega
  · show q % 6 % 1 = q % 1; omega
theorem rem_lt (q r : Nat) : q % 6 ^ (3 - r) < 257 := by
  refine Nat.lt_of_lt_of_le (Nat.mod_lt _ (Nat.pow_pos (by decide))) (Nat.le_trans (Nat.pow_le_pow_right (by decide) (Nat.sub_le 3 r)) (by decide))

set_option maxHeartbeats 4000000 in
set_option maxRecDepth 100000 in
theorem unpacked3_all (S : ByteArray) (n : Nat) (w : World) (hn : n ≤ 1048576) :
    Calls Try.prog 67 #[.string S, .int .i64 n, .int .i64 3, .int .i64 6] w fun e w' => EvsEnd S.data.toList n e w' ∧ Below w.heap.size w w' := by
  have hsz := sz_le n 3 6 (by unfold LK; decide)
  have hlen : S.data.toList.length = S.size := by simp
  have d0 : decide ((n : Int) < 0) = false := by simp
  by_cases hSz : S.size = sz n 3
  · have hSj : ∀ (j : Nat) (h : j < S.size), S[j].toNat = byt S.data.toList j := by
      intro j h
      unfold byt
      rw [List.getD_eq_getElem?_getD, List.getElem?_eq_getElem (by simpa using h)]
      rfl
    have hL : S.data.toList.length = sz n 3 := by rw [hlen, hSz]
    generalize S.data.toList = s at *
    have HL := Lib.hid hL
    clear hL hlen
    obtain ⟨i0, hi0, hz0, hz1, hz2⟩ := info_parts int_info
    have hzc : (Value.int .i64 0).cells = #[.int .i64 0] := rfl
    have hmk := run_make (P := Try.prog) w 22 3 i0 (.int .i64 0) Try.underlying22 hi0 hz0 .i64 .i64 0 n (Int.le_refl _) (by omega) (by rw [hz2]; omega) (by omega)
    simp only [Int.toNat_zero, Int.toNat_natCast, hz1, Nat.mul_one, hzc] at hmk
    have hown : (w.alloc (.cells (madeCells #[.int .i64 0] n) 3)).ownsRow w.heap.size 3 1 (.slice (some ⟨w.heap.size, 0, none⟩) 0 n) 0 (numsV (evt s) 0) := World.ownsRow_made w _ n (Nat.le_refl _) (by unfold maxLen; omega) (by simp [size_madeCells])
    have hgot : Got (evt s) w.heap.size n 0 w (w.alloc (.cells (madeCells #[.int .i64 0] n) 3)) := ⟨hown, (Below.refl _ _).alloc (Nat.le_refl _) _⟩
    clear hown hzc
    have e1 : (S.size == sz n 3) = true := by simp [hSz]
    go_enter Try.func67, Try.ntmps67
    go_wp2_with fail
    go_step3
    go_wp2_with fail
    with_reducible refine (size3 n _ (by omega)).mono ?_
    rintro e w' ⟨rfl, rfl⟩
    go_wp2_with fail
    go_step3
    go_wp2_with fail
    clear e1 hmk d0
    go_loopw [10, 28] (fun v i wr => ∃ (j k : Nat), j ≤ sz n 3 ∧ k ≤ n ∧ (j < sz n 3 → k = j * 3) ∧ (j = sz n 3 → k = n ∧ n % 3 = 0) ∧ Hid (∀ i, i < j → byt s i < 216) ∧ i = .int .i64 j ∧ v = .slice (some ⟨w.heap.size, 0, none⟩) k n ∧ Got (evt s) w.heap.size n k w wr) (fun _ i _ => sz n 3 - (intOf i).toNat)
    case atStart =>
      refine ⟨0, 0, Nat.zero_le _, Nat.zero_le _, fun _ => by simp, fun h => ?_, Lib.hid fun i hi => absurd hi (Nat.not_lt_zero _), rfl, rfl, hgot⟩
      unfold sz at h
      omega
    case round =>
      obtain ⟨j, k, hj, hk, hj1, hj2, HB, rfl, rfl, hg⟩ := hrel
      by_cases hlt : j < sz n 3
      · obtain rfl := hj1 hlt
        clear hj1 hj2
        have hlt' : j < S.size := by omega
        have hq := hSj j hlt'
        have hq256 := S[j].toNat_lt
        rw [hq] at hq256
        generalize hrb : byt s j = q at *
        have HR := Lib.hid hrb
        clear hrb hSj hgot
        have HJ := Lib.hid hlt
        by_cases hq216 : q < 216
        · have h0 : q % 6 ^ (3 - 0) = q := Nat.mod_eq_of_lt hq216
          have H0 := Lib.hid h0
          clear h0
          go_wp2_with fail
          have HW : IntKind.i64.wrap (q : Int) = (q : Int) := IntWalk.i64_in _ (by omega)
          go_quiet ((go_at_call 71; exact Calls.quiet_of_same (unlike3q _)))
          have hgq : Got (evt s) w.heap.size n (j * 3) w (wr.drewN nq) := ⟨hg.1, bel_drewN hg.2 nq⟩
          have HQ := Lib.hid hq216
          clear hg
          go_wp2_with fail
          clear hq hlt' HW hq256
          go_loopw [10, 12, 13, 42] (fun v t u c wx => ∃ (r k : Nat), r ≤ 3 ∧ k = j * 3 + r ∧ k ≤ n ∧ c = .int .i64 r ∧ v = .slice (some ⟨w.heap.size, 0, none⟩) k n ∧ t = .int .i64 (q % 6 ^ (3 - r) : Nat) ∧ u = .int .i64 ((6 ^ (3 - r) : Nat) : Int) ∧ Got (evt s) w.heap.size n k w wx) (fun _ _ _ c _ => 3 - (intOf c).toNat)
          case atStart => exact ⟨0, _, by omega, rfl, hk, rfl, rfl, by rw [H0.out], rfl, hgq⟩
          case round =>
            clear hgq
            obtain ⟨r, k, hr, hkr, hkn, rfl, rfl, rfl, rfl, hg⟩ := hrel
            by_cases hrL : r < 3
            · by_cases hkn' : k < n
              · have hdv : k / 3 = j := by omega
                have hmd : k % 3 = r := by omega
                have hqu := evt_quo s k
                rw [hdv, hmd, HR.out] at hqu
                have hre := rem_rem q r hrL
                have htl := rem_lt q r
                have hown := hg.1
                have hbel := hg.2
                clear hdv hmd hg
                generalize htt : q % 6 ^ (3 - r) = t at *
                have HKR := Lib.hid hkr
                clear htt
                have e1 : (k == n) = false := by simp; omega
                rcases (show r = 0 ∨ r = 1 ∨ r = 2 from by omega) with rfl | rfl | rfl
                · have e2 : ((6 ^ (3 - 0) : Nat) : Int) = 216 := rfl
                  rw [e2]
                  have hqu' : t / 36 = evt s k := by simpa using hqu
                  have hre' : t % 36 = q % 6 ^ (3 - (0 + 1)) := by simpa using hre
                  have HQU := Lib.hid hqu'
                  have HRE := Lib.hid hre'
                  clear e2 hqu hre hqu' hre' H0 HR hkr
                  go_wp2_with (at_builtin; refine wpList_append_fits _ rfl _ _ 22 rfl w.heap.size 3 i0 1 Try.underlying22 hi0 hz1 w.heap.size k n _ rfl (hown.alloc _) ⟨wr.heap.size, 0, none⟩ 1 1 [.int .i64 ((t : Int) / 36)] rfl rfl (cell_one_new _ _ _) (ints_oneCell .i64 [(t : Int) / 36]) (by omega) ?_; intro w4 hown4 hgrow4)
                  have hg4 := got_step hown4 hgrow4 hbel (by have := HQU.out; omega) (Nat.le_refl _)
                  clear hown4 hgrow4 hbel hown
                  go_roundw
                  case rel => exact ⟨0 + 1, k + 1, by omega, by have := HKR.out; omega, by omega, by go_num, rfl, by rw [← HRE.out]; go_num, rfl, hg4⟩
                  case measure => simp [intOf]
                · have e2 : ((6 ^ (3 - 1) : Nat) : Int) = 36 := rfl
                  rw [e2]
                  have hqu' : t / 6 = evt s k := by simpa using hqu
                  have hre' : t % 6 = q % 6 ^ (3 - (1 + 1)) := by simpa using hre
                  have HQU := Lib.hid hqu'
                  have HRE := Lib.hid hre'
                  clear e2 hqu hre hqu' hre' H0 HR hkr
                  go_wp2_with (at_builtin; refine wpList_append_fits _ rfl _ _ 22 rfl w.heap.size 3 i0 1 Try.underlying22 hi0 hz1 w.heap.size k n _ rfl (hown.alloc _) ⟨wr.heap.size, 0, none⟩ 1 1 [.int .i64 ((t : Int) / 6)] rfl rfl (cell_one_new _ _ _) (ints_oneCell .i64 [(t : Int) / 6]) (by omega) ?_; intro w4 hown4 hgrow4)
                  have hg4 := got_step hown4 hgrow4 hbel (by have := HQU.out; omega) (Nat.le_refl _)
                  clear hown4 hgrow4 hbel hown
                  go_roundw
                  case rel => exact ⟨1 + 1, k + 1, by omega, by have := HKR.out; omega, by omega, by go_num, rfl, by rw [← HRE.out]; go_num, rfl, hg4⟩
                  case measure => simp [intOf]
                · have e2 : ((6 ^ (3 - 2) : Nat) : Int) = 6 := rfl
                  rw [e2]
                  have hqu' : t / 1 = evt s k := by simpa using hqu
                  have hre' : t % 1 = q % 6 ^ (3 - (2 + 1)) := by simpa using hre
                  have HQU := Lib.hid hqu'
                  have HRE := Lib.hid hre'
                  clear e2 hqu hre hqu' hre' H0 HR hkr
                  go_wp2_with (at_builtin; refine wpList_append_fits _ rfl _ _ 22 rfl w.heap.size 3 i0 1 Try.underlying22 hi0 hz1 w.heap.size k n _ rfl (hown.alloc _) ⟨wr.heap.size, 0, none⟩ 1 1 [.int .i64 ((t : Int))] rfl rfl (cell_one_new _ _ _) (ints_oneCell .i64 [(t : Int)]) (by omega) ?_; intro w4 hown4 hgrow4)
                  have hg4 := got_step hown4 hgrow4 hbel (by have := HQU.out; omega) (Nat.le_refl _)
                  clear hown4 hgrow4 hbel hown
                  go_roundw
                  case rel => exact ⟨2 + 1, k + 1, by omega, by have := HKR.out; omega, by omega, by go_num, rfl, by rw [← HRE.out, Nat.mod_one]; rfl, rfl, hg4⟩
                  case measure => simp [intOf]
              · obtain rfl : k = n := by omega
                have e1 : (k == k) = true := by simp
                have hd : decide ((r : Int) < 3) = true := by simp; omega
                have hdv : k / 3 = j := by have := HJ.out; unfold sz at this; omega
                have hmd : k % 3 = r := by have := HJ.out; unfold sz at this; omega
                by_cases ht0 : q % 6 ^ (3 - r) = 0
                · have hok : evsOk s k := ⟨HL.out, fun i hi => by
                    by_cases e : i < j
                    · exact HB.out i e
                    · have : i = j := by have := HJ.out; unfold sz at hi this; omega
                      rw [this, HR.out]; exact HQ.out, fun _ => by rw [hdv, hmd, HR.out]; exact ht0⟩
                  have HO := Lib.hid hok
                  rw [ht0]
                  clear ht0 H0 HR hok hdv hmd
                  generalize hw0 : ((6 ^ (3 - r) : Nat) : Int) = w0
                  clear hw0 hkr
                  go_wp2_with fail
                  rw [Exit.noGoto_ret]
                  go_ret2
                  exact ⟨.inl ⟨HO.out, w.heap.size, rfl, Nums.of_own hg.1⟩, hg.2⟩
                · have hok : ¬ evsOk s k := fun h => ht0 (by
                    have hr0 : r ≠ 0 := by
                      intro e
                      subst e
                      have := HJ.out
                      unfold sz at this
                      omega
                    have := h.2.2 (by omega)
                    rw [hdv, hmd, HR.out] at this
                    exact this)
                  have HO := Lib.hid hok
                  generalize hte : q % 6 ^ (3 - r) = t at *
                  have htp : decide (0 < t) = true := by simp; omega
                  clear hte ht0 H0 HR hok hdv hmd
                  generalize hw0 : ((6 ^ (3 - r) : Nat) : Int) = w0
                  clear hw0 hkr
                  go_wp2_with fail
                  rw [Exit.noGoto_ret]
                  go_ret2
                  exact ⟨.inr ⟨HO.out, rfl⟩, hg.2⟩
            · obtain rfl : r = 3 := by omega
              have hnx : (j + 1 < sz n 3 → k = (j + 1) * 3) ∧ (j + 1 = sz n 3 → k = n ∧ n % 3 = 0) := by
                unfold sz
                omega
              have HN := Lib.hid hnx
              have HB2 : Hid (∀ i, i < j + 1 → byt s i < 216) := Lib.hid fun i hi => by
                by_cases e : i < j
                · exact HB.out i e
                · have : i = j := by omega
                  rw [this, HR.out]; exact HQ.out
              clear hnx hkr H0 HR
              go_wp2_with fail
              go_roundw
              case rel => exact ⟨j + 1, k, by have := HJ.out; omega, hkn, HN.out.1, HN.out.2, HB2, by go_num, rfl, hg⟩
              case measure =>
                have := HJ.out
                simp [intOf]
                omega
        · have hok : ¬ evsOk s n := fun h => hq216 (by have := h.2.1 j HJ.out; rwa [HR.out] at this)
          have HO := Lib.hid hok
          have hge : decide ((216 : Int) ≤ (q : Int)) = true := by simp; omega
          clear hok hq216
          go_wp2_with fail
          have HW : IntKind.i64.wrap (q : Int) = (q : Int) := IntWalk.i64_in _ (by omega)
          go_quiet ((go_at_call 71; exact Calls.quiet_of_same (unlike3q _)))
          have hgq : Below w.heap.size w (wr.drewN nq) := bel_drewN hg.2 nq
          clear hg
          go_wp2_with fail
          try rw [Exit.noGoto_ret]
          go_ret2
          exact ⟨.inr ⟨HO.out, rfl⟩, hgq⟩
      · obtain rfl : j = sz n 3 := by omega
        obtain ⟨rfl, h3⟩ := hj2 rfl
        have hok : evsOk s k := ⟨HL.out, HB.out, fun h => absurd h3 h⟩
        have HO := Lib.hid hok
        clear hSj hj1 hok h3
        go_wp2_with fail
        go_ret2
        exact ⟨.inl ⟨HO.out, w.heap.size, rfl, Nums.of_own hg.1⟩, hg.2⟩
  · have HO : Hid (¬ evsOk S.data.toList n) := Lib.hid fun h => hSz (by rw [← hlen]; exact h.1)
    have e1 : (S.size == sz n 3) = false := by simpa using hSz
    clear hlen
    go_enter Try.func67, Try.ntmps67
    go_wp2_with fail
    go_step3
    go_wp2_with fail
    with_reducible refine (size3 n _ (by omega)).mono ?_
    rintro e w' ⟨rfl, rfl⟩
    go_wp2_with fail
    try rw [Exit.noGoto_ret]
    go_ret2
    exact ⟨.inr ⟨HO.out, rfl⟩, Below.refl _ _⟩

set_option maxHeartbeats 1000000 in
theorem fromthrees_all (S : ByteArray) (n : Nat) (w : World) (hn : n ≤ 1048576) :
    Calls Try.prog 59 #[.string S, .int .i64 n] w fun e w' => EvsEnd S.data.toList n e w' ∧ Below w.heap.size w w' := by
  have HC := Lib.hid (unpacked3_all S n w hn)
  go_enter Try.func59, Try.ntmps59
  go_wp2_with fail
  refine HC.out.mono ?_
  rintro e w' ⟨⟨ho, g, rfl, hg⟩ | ⟨ho, rfl⟩, hb⟩
  · have HO := Lib.hid ho
    clear ho
    go_wp2_with fail
    go_ret2
    exact ⟨.inl ⟨HO.out, g, rfl, hg⟩, hb⟩
  · have HO := Lib.hid ho
    clear ho
    go_wp2_with fail
    go_ret2
    exact ⟨.inr ⟨HO.out, rfl⟩, hb⟩
end Go.Proofs.Ytoigapanhbmjlaa
