/- pack.unpacked: what was packed is unpacked. Its condition: at most 2^20 numbers, and bytes that are those of numbers. -/
import Derived.Test.YtoigapanhbmjlaaPkPacked
import Derived.Deep.AppendLies
namespace Go.Proofs.Ytoigapanhbmjlaa
open Go.RowKit

/-- What is left of row j behind r numbers. -/
def tl (L K : Nat) (x : Nat → Nat) (n j r : Nat) : Nat := rb L K x n j % K ^ (L - r)
theorem tl_zero (L K : Nat) (x : Nat → Nat) (n j : Nat) (hLK : LK L K) (h : Kinds K x n) : tl L K x n j 0 = rb L K x n j := by
  have := rb_lt L K x n j h
  unfold tl
  rw [Nat.sub_zero]
  rcases hLK with ⟨rfl, rfl⟩ | ⟨rfl, rfl⟩ <;> exact Nat.mod_eq_of_lt (by simpa using this)
theorem tl_quo (L K : Nat) (x : Nat → Nat) (n k : Nat) (hLK : LK L K) (h : Kinds K x n) (hk : k < n) : tl L K x n (k / L) (k % L) / K ^ (L - 1 - k % L) = x k := by
  have hr : L - k % L = (L - 1 - k % L) + 1 := by rcases hLK with ⟨rfl, rfl⟩ | ⟨rfl, rfl⟩ <;> omega
  unfold tl
  rw [hr, Nat.pow_succ, Nat.mod_mul_right_div_self]
  exact rb_digit L K x n k hLK h hk
theorem tl_rem (L K : Nat) (x : Nat → Nat) (n j r : Nat) (hr : r < L) : tl L K x n j r % K ^ (L - 1 - r) = tl L K x n j (r + 1) := by
  have e : L - r = (L - 1 - r) + 1 := by omega
  have e2 : L - (r + 1) = L - 1 - r := by omega
  unfold tl
  rw [e, Nat.pow_succ, e2, Nat.mod_mul_right_mod]
theorem tl_end (L K : Nat) (x : Nat → Nat) (n j r : Nat) (hr : r ≤ L) (hn : j * L + r = n) : tl L K x n j r = 0 := by
  have hc : cl L n j = r := by unfold cl; omega
  unfold tl rb
  rw [hc, Nat.mul_mod_left]
theorem tl_lt (L K : Nat) (x : Nat → Nat) (n j r : Nat) (hLK : LK L K) : tl L K x n j r < 257 := by
  unfold tl
  have hK : 0 < K := by rcases hLK with ⟨rfl, rfl⟩ | ⟨rfl, rfl⟩ <;> omega
  refine Nat.lt_of_lt_of_le (Nat.mod_lt _ (Nat.pow_pos hK)) (Nat.le_trans (Nat.pow_le_pow_right hK (Nat.sub_le L r)) ?_)
  rcases hLK with ⟨rfl, rfl⟩ | ⟨rfl, rfl⟩ <;> decide

/-- The first k numbers as values. -/
def numsV (x : Nat → Nat) (k : Nat) : List Value := (List.range k).map fun i => Value.int .i64 (x i : Nat)
theorem numsV_length (x : Nat → Nat) (k : Nat) : (numsV x k).length = k := by simp [numsV]
theorem numsV_succ (x : Nat → Nat) (k : Nat) : numsV x (k + 1) = numsV x k ++ [.int .i64 (x k : Nat)] := by simp [numsV, List.range_succ]
theorem numsV_at (x : Nat → Nat) (n k : Nat) (h : k < n) : (numsV x n)[k]? = some (.int .i64 (x k : Nat)) := by simp [numsV, h]
theorem Nums.of_own {w : World} {base g n cap : Nat} {x : Nat → Nat} (h : w.ownsRow base 3 1 (.slice (some ⟨g, 0, none⟩) n cap) n (numsV x n)) : Nums w w.heap.size (some ⟨g, 0, none⟩) n (fun k => (x k : Int)) := fun k hk => by
  have hl : g < w.heap.size := (h.lt g rfl).2
  refine ⟨g, 0, rfl, hl, ?_⟩
  have := h.cells (g := g) rfl k _ (numsV_at x n k hk)
  rwa [Addr.add_lit] at this

/-- How unpacking ends: with the numbers in a new row. -/
def UnpackEnd (x : Nat → Nat) (n : Nat) (e : Ending) (w' : World) : Prop :=
  ∃ g, e = .returned (.tuple #[.slice (some ⟨g, 0, none⟩) n n, .int .i64 0]) ∧ Nums w' w'.heap.size (some ⟨g, 0, none⟩) n (fun k => (x k : Int))

/-- What the rounds over a row know of the numbers got so far. -/
def Got (x : Nat → Nat) (B n k : Nat) (w0 w : World) : Prop :=
  w.ownsRow B 3 1 (.slice (some ⟨B, 0, none⟩) k n) k (numsV x k) ∧ Below B w0 w

theorem got_step {x : Nat → Nat} {B n k : Nat} {w0 w w' : World} {o : Obj} {v : Int} (hown : w'.ownsRow B 3 1 (.slice (some ⟨B, 0, none⟩) (k + 1) n) (k + 1) (numsV x k ++ [.int .i64 v])) (hgrow : (w.alloc o).grownBy w' (some B)) (hbel : Below B w0 w) (hv : v = (x k : Int)) (hB : B ≤ w0.heap.size) : Got x B n (k + 1) w0 w' := by
  subst hv
  refine ⟨by rw [numsV_succ]; exact hown, (hbel.alloc (Nat.le_trans hB hbel.size) o).grown hgrow (by have := hbel.size; simp; omega) ?_⟩
  intro g hg
  injection hg with hg
  omega

set_option maxHeartbeats 4000000 in
set_option maxRecDepth 100000 in
theorem unpacked_any (L K : Nat) (S : ByteArray) (n : Nat) (x : Nat → Nat) (w : World) (hLK : LK L K) (hn : n ≤ 1048576) (hK : Kinds K x n) (hS : S = str (rows L K x n (sz n L))) :
    Calls Try.prog 67 #[.string S, .int .i64 n, .int .i64 L, .int .i64 K] w fun e w' => UnpackEnd x n e w' ∧ Below w.heap.size w w' := by
  have hsz := sz_le n L K hLK
  have hSz : S.size = sz n L := by rw [hS, str_size, rows_length]
  have hSj : ∀ (j : Nat) (h : j < S.size), S[j].toNat = rb L K x n j := by
    intro j h
    have h1 : S.data.toList[j]? = some S[j] := by
      have h' : j < S.data.toList.length := by simpa using h
      rw [List.getElem?_eq_getElem h']
      rfl
    have h2 : S.data.toList = rows L K x n (sz n L) := by rw [hS, str_list]
    rw [h2, rows_at L K x n (sz n L) j (by omega)] at h1
    injection h1 with h1
    rw [← h1, UInt8.toNat_ofNat', Nat.mod_eq_of_lt (rb_lt' L K x n j hLK hK).1]
  clear hS
  obtain ⟨i0, hi0, hz0, hz1, hz2⟩ := info_parts int_info
  have hzc : (Value.int .i64 0).cells = #[.int .i64 0] := rfl
  have hmk := run_make (P := Try.prog) w 22 3 i0 (.int .i64 0) Try.underlying22 hi0 hz0 .i64 .i64 0 n (Int.le_refl _) (by omega) (by rw [hz2]; omega) (by omega)
  simp only [Int.toNat_zero, Int.toNat_natCast, hz1, Nat.mul_one, hzc] at hmk
  have hown : (w.alloc (.cells (madeCells #[.int .i64 0] n) 3)).ownsRow w.heap.size 3 1 (.slice (some ⟨w.heap.size, 0, none⟩) 0 n) 0 (numsV x 0) := World.ownsRow_made w _ n (Nat.le_refl _) (by unfold maxLen; omega) (by simp [size_madeCells])
  have hgot : Got x w.heap.size n 0 w (w.alloc (.cells (madeCells #[.int .i64 0] n) 3)) := ⟨hown, (Below.refl _ _).alloc (Nat.le_refl _) _⟩
  clear hown hzc
  have d0 : decide ((n : Int) < 0) = false := by simp
  have e1 : (S.size == sz n L) = true := by simp [hSz]
  go_enter Try.func67, Try.ntmps67
  go_wp2_with fail
  go_step3
  go_wp2_with fail
  with_reducible refine (size_any n L K _ hLK (by omega)).mono ?_
  rintro e w' ⟨rfl, rfl⟩
  go_wp2_with fail
  go_step3
  go_wp2_with fail
  clear e1 hmk d0
  go_loopw [10, 28] (fun v i wr => ∃ (j k : Nat), j ≤ sz n L ∧ k ≤ n ∧ (j < sz n L → k = j * L) ∧ (j = sz n L → k = n) ∧ i = .int .i64 j ∧ v = .slice (some ⟨w.heap.size, 0, none⟩) k n ∧ Got x w.heap.size n k w wr) (fun _ i _ => sz n L - (intOf i).toNat)
  case atStart =>
    refine ⟨0, 0, Nat.zero_le _, Nat.zero_le _, fun _ => by simp, fun h => ?_, rfl, rfl, hgot⟩
    by_cases h0 : n = 0
    · exact h0.symm
    · have := row_lt n L K 0 hLK (by omega)
      rw [Nat.zero_div] at this
      omega
  case round =>
    obtain ⟨j, k, hj, hk, hj1, hj2, rfl, rfl, hg⟩ := hrel
    by_cases hlt : j < sz n L
    · obtain rfl := hj1 hlt
      clear hj1 hj2
      have hlt' : j < S.size := by omega
      have hq := hSj j hlt'
      have hqb := rb_lt' L K x n j hLK hK

      have hLK' := hLK
      rcases hLK with ⟨rfl, rfl⟩ | ⟨rfl, rfl⟩
      · simp only [Int.cast_ofNat_Int] at *
        generalize hrb : rb 3 6 x n j = q at *
        have HR := Lib.hid hrb
        have hqb3 := hqb.2 trivial
        clear hrb hSj hqb hgot
        have h0 := tl_zero 3 6 x n j hLK' hK
        rw [HR.out] at h0
        have H0 := Lib.hid h0
        have HKd := Lib.hid hK
        clear h0 hK
        go_wp2_with fail
        have HW : IntKind.i64.wrap (q : Int) = (q : Int) := IntWalk.i64_in _ (by omega)
        go_quiet ((go_at_call 71; exact Calls.quiet_of_same (unlike3q _)))
        have hgq : Got x w.heap.size n (j * 3) w (wr.drewN nq) := ⟨hg.1, bel_drewN hg.2 nq⟩
        clear hg
        have HJ := Lib.hid hlt
        clear hq hlt' HW
        go_wp2_with fail
        go_loopw [10, 12, 13, 42] (fun v t u c wx => ∃ (r k : Nat), r ≤ 3 ∧ k = j * 3 + r ∧ k ≤ n ∧ c = .int .i64 r ∧ v = .slice (some ⟨w.heap.size, 0, none⟩) k n ∧ t = .int .i64 (tl 3 6 x n j r : Nat) ∧ u = .int .i64 ((6 ^ (3 - r) : Nat) : Int) ∧ Got x w.heap.size n k w wx) (fun _ _ _ c _ => 3 - (intOf c).toNat)
        case atStart => exact ⟨0, _, by omega, rfl, hk, rfl, rfl, by rw [H0.out], rfl, hgq⟩
        case round =>
          clear hgq
          obtain ⟨r, k, hr, hkr, hkn, rfl, rfl, rfl, rfl, hg⟩ := hrel
          by_cases hrL : r < 3
          · by_cases hkn' : k < n
            · have hdv : k / 3 = j := by omega
              have hmd : k % 3 = r := by omega
              have hqu := tl_quo 3 6 x n k hLK' HKd.out hkn'
              rw [hdv, hmd] at hqu
              have hre := tl_rem 3 6 x n j r hrL
              have htl := tl_lt 3 6 x n j r hLK'
              have hown := hg.1
              have hbel := hg.2
              clear hdv hmd hg
              generalize htt : tl 3 6 x n j r = t at *
              have HKR := Lib.hid hkr
              clear htt
              have e1 : (k == n) = false := by simp; omega
              rcases (show r = 0 ∨ r = 1 ∨ r = 2 from by omega) with rfl | rfl | rfl
              · have e2 : ((6 ^ (3 - 0) : Nat) : Int) = 216 := rfl
                rw [e2]
                have hqu' : t / 36 = x k := by simpa using hqu
                have hre' : t % 36 = tl 3 6 x n j (0 + 1) := by simpa using hre
                have HQU := Lib.hid hqu'
                have HRE := Lib.hid hre'
                clear e2 hqu hre hqu' hre' H0 HR hkr
                go_wp2_with (at_builtin; refine wpList_append_fits _ rfl _ _ 22 rfl w.heap.size 3 i0 1 Try.underlying22 hi0 hz1 w.heap.size k n _ rfl (hown.alloc _) ⟨wr.heap.size, 0, none⟩ 1 1 [.int .i64 ((t : Int) / 36)] rfl rfl (cell_one_new _ _ _) (ints_oneCell .i64 [(t : Int) / 36]) (by omega) ?_; intro w4 hown4 hgrow4)
                have hg4 := got_step hown4 hgrow4 hbel (by have := HQU.out; omega) (Nat.le_refl _)
                clear hown4 hgrow4 hbel hown
                go_roundw
                case rel => exact ⟨0 + 1, k + 1, by omega, by have := HKR.out; omega, by omega, by go_num, rfl, by rw [← HRE.out]; go_num, rfl, hg4⟩
                case measure => simp [intOf]
              · have e2 : ((6 ^ (3 - 1) : Nat) : Int) = 36 := rfl
                rw [e2]
                have hqu' : t / 6 = x k := by simpa using hqu
                have hre' : t % 6 = tl 3 6 x n j (1 + 1) := by simpa using hre
                have HQU := Lib.hid hqu'
                have HRE := Lib.hid hre'
                clear e2 hqu hre hqu' hre' H0 HR hkr
                go_wp2_with (at_builtin; refine wpList_append_fits _ rfl _ _ 22 rfl w.heap.size 3 i0 1 Try.underlying22 hi0 hz1 w.heap.size k n _ rfl (hown.alloc _) ⟨wr.heap.size, 0, none⟩ 1 1 [.int .i64 ((t : Int) / 6)] rfl rfl (cell_one_new _ _ _) (ints_oneCell .i64 [(t : Int) / 6]) (by omega) ?_; intro w4 hown4 hgrow4)
                have hg4 := got_step hown4 hgrow4 hbel (by have := HQU.out; omega) (Nat.le_refl _)
                clear hown4 hgrow4 hbel hown
                go_roundw
                case rel => exact ⟨1 + 1, k + 1, by omega, by have := HKR.out; omega, by omega, by go_num, rfl, by rw [← HRE.out]; go_num, rfl, hg4⟩
                case measure => simp [intOf]
              · have e2 : ((6 ^ (3 - 2) : Nat) : Int) = 6 := rfl
                rw [e2]
                have hqu' : t / 1 = x k := by simpa using hqu
                have hre' : t % 1 = tl 3 6 x n j (2 + 1) := by simpa using hre
                have HQU := Lib.hid hqu'
                have HRE := Lib.hid hre'
                clear e2 hqu hre hqu' hre' H0 HR hkr
                go_wp2_with (at_builtin; refine wpList_append_fits _ rfl _ _ 22 rfl w.heap.size 3 i0 1 Try.underlying22 hi0 hz1 w.heap.size k n _ rfl (hown.alloc _) ⟨wr.heap.size, 0, none⟩ 1 1 [.int .i64 ((t : Int))] rfl rfl (cell_one_new _ _ _) (ints_oneCell .i64 [(t : Int)]) (by omega) ?_; intro w4 hown4 hgrow4)
                have hg4 := got_step hown4 hgrow4 hbel (by have := HQU.out; omega) (Nat.le_refl _)
                clear hown4 hgrow4 hbel hown
                go_roundw
                case rel => exact ⟨2 + 1, k + 1, by omega, by have := HKR.out; omega, by omega, by go_num, rfl, by rw [← HRE.out, Nat.mod_one]; rfl, rfl, hg4⟩
                case measure => simp [intOf]
            · obtain rfl : k = n := by omega
              have ht0 := tl_end 3 6 x k j r (by omega) (by omega)
              rw [ht0]
              clear ht0 H0 HR
              have e1 : (k == k) = true := by simp
              have hd : decide ((r : Int) < 3) = true := by simp; omega
              generalize hw0 : ((6 ^ (3 - r) : Nat) : Int) = w0
              clear hw0 hkr
              go_wp2_with fail
              rw [Exit.noGoto_ret]
              go_ret2
              exact ⟨⟨w.heap.size, rfl, Nums.of_own hg.1⟩, hg.2⟩
          · obtain rfl : r = 3 := by omega
            have hnx : (j + 1 < sz n 3 → k = (j + 1) * 3) ∧ (j + 1 = sz n 3 → k = n) := by
              unfold sz
              omega
            have HN := Lib.hid hnx
            clear hnx hkr H0 HR
            go_wp2_with fail
            go_roundw
            case rel => exact ⟨j + 1, k, by have := HJ.out; omega, hkn, HN.out.1, HN.out.2, by go_num, rfl, hg⟩
            case measure =>
              have := HJ.out
              simp [intOf]
              omega
      · simp only [Int.cast_ofNat_Int] at *
        generalize hrb : rb 4 4 x n j = q at *
        have HR := Lib.hid hrb
        have hqb4 := hqb.1
        clear hrb hSj hqb hgot
        have h0 := tl_zero 4 4 x n j hLK' hK
        rw [HR.out] at h0
        have H0 := Lib.hid h0
        have HKd := Lib.hid hK
        clear h0 hK
        go_wp2_with fail
        have HW : IntKind.i64.wrap (q : Int) = (q : Int) := IntWalk.i64_in _ (by omega)
        go_quiet ((go_at_call 71; exact Calls.quiet_of_same (unlike4q _)))
        have hgq : Got x w.heap.size n (j * 4) w (wr.drewN nq) := ⟨hg.1, bel_drewN hg.2 nq⟩
        clear hg
        have HJ := Lib.hid hlt
        clear hq hlt' HW
        go_wp2_with fail
        go_loopw [10, 12, 13, 42] (fun v t u c wx => ∃ (r k : Nat), r ≤ 4 ∧ k = j * 4 + r ∧ k ≤ n ∧ c = .int .i64 r ∧ v = .slice (some ⟨w.heap.size, 0, none⟩) k n ∧ t = .int .i64 (tl 4 4 x n j r : Nat) ∧ u = .int .i64 ((4 ^ (4 - r) : Nat) : Int) ∧ Got x w.heap.size n k w wx) (fun _ _ _ c _ => 4 - (intOf c).toNat)
        case atStart => exact ⟨0, _, by omega, rfl, hk, rfl, rfl, by rw [H0.out], rfl, hgq⟩
        case round =>
          clear hgq
          obtain ⟨r, k, hr, hkr, hkn, rfl, rfl, rfl, rfl, hg⟩ := hrel
          by_cases hrL : r < 4
          · by_cases hkn' : k < n
            · have hdv : k / 4 = j := by omega
              have hmd : k % 4 = r := by omega
              have hqu := tl_quo 4 4 x n k hLK' HKd.out hkn'
              rw [hdv, hmd] at hqu
              have hre := tl_rem 4 4 x n j r hrL
              have htl := tl_lt 4 4 x n j r hLK'
              have hown := hg.1
              have hbel := hg.2
              clear hdv hmd hg
              generalize htt : tl 4 4 x n j r = t at *
              have HKR := Lib.hid hkr
              clear htt
              have e1 : (k == n) = false := by simp; omega
              rcases (show r = 0 ∨ r = 1 ∨ r = 2 ∨ r = 3 from by omega) with rfl | rfl | rfl | rfl
              · have e2 : ((4 ^ (4 - 0) : Nat) : Int) = 256 := rfl
                rw [e2]
                have hqu' : t / 64 = x k := by simpa using hqu
                have hre' : t % 64 = tl 4 4 x n j (0 + 1) := by simpa using hre
                have HQU := Lib.hid hqu'
                have HRE := Lib.hid hre'
                clear e2 hqu hre hqu' hre' H0 HR hkr
                go_wp2_with (at_builtin; refine wpList_append_fits _ rfl _ _ 22 rfl w.heap.size 3 i0 1 Try.underlying22 hi0 hz1 w.heap.size k n _ rfl (hown.alloc _) ⟨wr.heap.size, 0, none⟩ 1 1 [.int .i64 ((t : Int) / 64)] rfl rfl (cell_one_new _ _ _) (ints_oneCell .i64 [(t : Int) / 64]) (by omega) ?_; intro w4 hown4 hgrow4)
                have hg4 := got_step hown4 hgrow4 hbel (by have := HQU.out; omega) (Nat.le_refl _)
                clear hown4 hgrow4 hbel hown
                go_roundw
                case rel => exact ⟨0 + 1, k + 1, by omega, by have := HKR.out; omega, by omega, by go_num, rfl, by rw [← HRE.out]; go_num, rfl, hg4⟩
                case measure => simp [intOf]
              · have e2 : ((4 ^ (4 - 1) : Nat) : Int) = 64 := rfl
                rw [e2]
                have hqu' : t / 16 = x k := by simpa using hqu
                have hre' : t % 16 = tl 4 4 x n j (1 + 1) := by simpa using hre
                have HQU := Lib.hid hqu'
                have HRE := Lib.hid hre'
                clear e2 hqu hre hqu' hre' H0 HR hkr
                go_wp2_with (at_builtin; refine wpList_append_fits _ rfl _ _ 22 rfl w.heap.size 3 i0 1 Try.underlying22 hi0 hz1 w.heap.size k n _ rfl (hown.alloc _) ⟨wr.heap.size, 0, none⟩ 1 1 [.int .i64 ((t : Int) / 16)] rfl rfl (cell_one_new _ _ _) (ints_oneCell .i64 [(t : Int) / 16]) (by omega) ?_; intro w4 hown4 hgrow4)
                have hg4 := got_step hown4 hgrow4 hbel (by have := HQU.out; omega) (Nat.le_refl _)
                clear hown4 hgrow4 hbel hown
                go_roundw
                case rel => exact ⟨1 + 1, k + 1, by omega, by have := HKR.out; omega, by omega, by go_num, rfl, by rw [← HRE.out]; go_num, rfl, hg4⟩
                case measure => simp [intOf]
              · have e2 : ((4 ^ (4 - 2) : Nat) : Int) = 16 := rfl
                rw [e2]
                have hqu' : t / 4 = x k := by simpa using hqu
                have hre' : t % 4 = tl 4 4 x n j (2 + 1) := by simpa using hre
                have HQU := Lib.hid hqu'
                have HRE := Lib.hid hre'
                clear e2 hqu hre hqu' hre' H0 HR hkr
                go_wp2_with (at_builtin; refine wpList_append_fits _ rfl _ _ 22 rfl w.heap.size 3 i0 1 Try.underlying22 hi0 hz1 w.heap.size k n _ rfl (hown.alloc _) ⟨wr.heap.size, 0, none⟩ 1 1 [.int .i64 ((t : Int) / 4)] rfl rfl (cell_one_new _ _ _) (ints_oneCell .i64 [(t : Int) / 4]) (by omega) ?_; intro w4 hown4 hgrow4)
                have hg4 := got_step hown4 hgrow4 hbel (by have := HQU.out; omega) (Nat.le_refl _)
                clear hown4 hgrow4 hbel hown
                go_roundw
                case rel => exact ⟨2 + 1, k + 1, by omega, by have := HKR.out; omega, by omega, by go_num, rfl, by rw [← HRE.out]; go_num, rfl, hg4⟩
                case measure => simp [intOf]
              · have e2 : ((4 ^ (4 - 3) : Nat) : Int) = 4 := rfl
                rw [e2]
                have hqu' : t / 1 = x k := by simpa using hqu
                have hre' : t % 1 = tl 4 4 x n j (3 + 1) := by simpa using hre
                have HQU := Lib.hid hqu'
                have HRE := Lib.hid hre'
                clear e2 hqu hre hqu' hre' H0 HR hkr
                go_wp2_with (at_builtin; refine wpList_append_fits _ rfl _ _ 22 rfl w.heap.size 3 i0 1 Try.underlying22 hi0 hz1 w.heap.size k n _ rfl (hown.alloc _) ⟨wr.heap.size, 0, none⟩ 1 1 [.int .i64 ((t : Int))] rfl rfl (cell_one_new _ _ _) (ints_oneCell .i64 [(t : Int)]) (by omega) ?_; intro w4 hown4 hgrow4)
                have hg4 := got_step hown4 hgrow4 hbel (by have := HQU.out; omega) (Nat.le_refl _)
                clear hown4 hgrow4 hbel hown
                go_roundw
                case rel => exact ⟨3 + 1, k + 1, by omega, by have := HKR.out; omega, by omega, by go_num, rfl, by rw [← HRE.out, Nat.mod_one]; rfl, rfl, hg4⟩
                case measure => simp [intOf]
            · obtain rfl : k = n := by omega
              have ht0 := tl_end 4 4 x k j r (by omega) (by omega)
              rw [ht0]
              clear ht0 H0 HR
              have e1 : (k == k) = true := by simp
              have hd : decide ((r : Int) < 4) = true := by simp; omega
              generalize hw0 : ((4 ^ (4 - r) : Nat) : Int) = w0
              clear hw0 hkr
              go_wp2_with fail
              rw [Exit.noGoto_ret]
              go_ret2
              exact ⟨⟨w.heap.size, rfl, Nums.of_own hg.1⟩, hg.2⟩
          · obtain rfl : r = 4 := by omega
            have hnx : (j + 1 < sz n 4 → k = (j + 1) * 4) ∧ (j + 1 = sz n 4 → k = n) := by
              unfold sz
              omega
            have HN := Lib.hid hnx
            clear hnx hkr H0 HR
            go_wp2_with fail
            go_roundw
            case rel => exact ⟨j + 1, k, by have := HJ.out; omega, hkn, HN.out.1, HN.out.2, by go_num, rfl, hg⟩
            case measure =>
              have := HJ.out
              simp [intOf]
              omega
    · obtain rfl : j = sz n L := by omega
      obtain rfl := hj2 rfl
      clear hSj hK hj1
      go_wp2_with fail
      go_ret2
      exact ⟨⟨w.heap.size, rfl, Nums.of_own hg.1⟩, hg.2⟩
end Go.Proofs.Ytoigapanhbmjlaa
