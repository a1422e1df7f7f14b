/- The document's own Pack: the bytes of a list, or that one of it is none. Its condition: at most 2^20 numbers. -/
import Derived.Test.YtoigapanhbmjlaaPkPacked
namespace Go.Proofs.Ytoigapanhbmjlaa
open Go.RowKit

/-- How the document's packing ends. -/
def RefEnd (L K : Nat) (x : Nat → Nat) (n p : Nat) (e : Ending) : Prop :=
  (p = n ∧ e = .returned (.tuple #[.string (str (rows L K x n (sz n L))), .bool true])) ∨ (p < n ∧ e = .returned (.tuple #[.string ⟨#[]⟩, .bool false]))

theorem rows_full (L K : Nat) (x : Nat → Nat) (i i' m : Nat) (hLK : LK L K) (h : m ≤ i / L) (h' : m ≤ i' / L) : rows L K x i m = rows L K x i' m := by
  unfold rows
  refine List.map_congr_left fun j hj => ?_
  have hj' : j < m := by simpa using hj
  rw [rb_full L K x i j hLK (by omega), rb_full L K x i' j hLK (by omega)]
theorem rows_succ (L K : Nat) (x : Nat → Nat) (i m : Nat) : rows L K x i (m + 1) = rows L K x i m ++ [UInt8.ofNat (rb L K x i m)] := by
  simp [rows, List.range_succ]
theorem one_byte (w : World) (c : Nat) (hc : c < 256) : (convert 44 9 (.slice (some ⟨w.heap.size, 0, none⟩) 1 1)).run Try.prog (w.alloc (.cells #[.int .u8 (c : Int)] 5)) = .ok (.string (str [UInt8.ofNat c])) (w.alloc (.cells #[.int .u8 (c : Int)] 5)) := by
  refine run_convert_bytes_back _ 44 9 5 ⟨w.heap.size, 0, none⟩ 1 [UInt8.ofNat c] Try.underlying44 Try.underlying5 Try.underlying9 fun j hj => ?_
  have : j = 0 := by simpa using hj
  subst this
  have e : ((UInt8.ofNat c).toNat : Int) = (c : Int) := by rw [UInt8.toNat_ofNat', Nat.mod_eq_of_lt hc]
  show _ = some (Value.int .u8 ((UInt8.ofNat c).toNat : Int))
  rw [e]
  exact (Blk.new w 5 #[.int .u8 (c : Int)]).cell 0

theorem ret_ref {a b : ByteArray} (h : a = b) : Ending.returned (.tuple #[.string a, .bool true]) = .returned (.tuple #[.string b, .bool true]) := by rw [h]

set_option maxHeartbeats 4000000 in
set_option maxRecDepth 100000 in
theorem refpack_any (L K : Nat) (A : Option Addr) (n cap : Nat) (f : Nat → Int) (x : Nat → Nat) (p : Nat) (w : World) (hLK : LK L K) (hn : n ≤ 1048576) (hA : Nums w w.heap.size A n f)
    (hp : p ≤ n) (hx : ∀ k, k < p → f k = (x k : Int)) (hK : Kinds K x p) (hbad : p < n → f p < 0 ∨ (K : Int) ≤ f p) :
    Calls Try.prog 47 #[.slice A n cap, .int .i64 L, .int .i64 K] w fun e w' => RefEnd L K x n p e ∧ Below w.heap.size w w' := by
  go_enter Try.func47, Try.ntmps47
  go_wp2_with fail
  go_loopw [8, 9, 16] (fun s v i wr => ∃ k : Nat, k ≤ p ∧ i = .int .i64 k ∧ v = .int .i64 (hor K x (k / L * L) (k % L) : Nat) ∧ s = .string (str (rows L K x k (k / L))) ∧ Below w.heap.size w wr) (fun _ _ i _ => n - (intOf i).toNat)
  case atStart => exact ⟨0, Nat.zero_le _, rfl, by rw [Nat.zero_mod]; rfl, by rw [Nat.zero_div]; rfl, Below.refl _ _⟩
  case round =>
    obtain ⟨k, hk, rfl, rfl, rfl, hw⟩ := hrel
    have hrl : (str (rows L K x k (k / L))).size ≤ n := by
      rw [str_size, rows_length]
      have := Nat.div_le_self k L
      omega
    by_cases hlt : k < p
    · obtain ⟨b, off, rfl, hbl, hc⟩ := hA k (by omega)
      have c0 : wr.cell? ⟨b, off + k, none⟩ = some (.int .i64 (x k : Int)) := (hw.cell (p := ⟨b, off + k, none⟩) hbl).trans (by rw [← hx k hlt]; exact hc)
      have hxk := hK k hlt
      have hh := hor_lt K x (k / L * L) (k % L) fun r hr => hK _ (by
        have : k / L * L + k % L = k := by rw [Nat.mul_comm]; exact Nat.div_add_mod k L
        omega)
      have hnx : hor K x (k / L * L) (k % L + 1) = hor K x (k / L * L) (k % L) * K + x k := by
        have : k / L * L + k % L = k := by rw [Nat.mul_comm]; exact Nat.div_add_mod k L
        simp only [hor, this]
      generalize x k = xk at *
      clear hc
      have hLK' := hLK
      rcases hLK with ⟨rfl, rfl⟩ | ⟨rfl, rfl⟩
      · simp only [Int.cast_ofNat_Int] at *
        rcases (show k % 3 = 0 ∨ k % 3 = 1 ∨ k % 3 = 2 from by omega) with hm | hm | hm
        · rw [hm] at hh hnx
          rw [hm]
          generalize hor 6 x (k / 3 * 3) 0 = h at *
          have hh' : h < 1 := by simpa using hh
          have d : ((k : Int) % 3 == 2) = false := by simp; omega
          have hdm : (k + 1) / 3 = k / 3 ∧ (k + 1) % 3 = 1 := by omega
          have hr := rows_full 3 6 x k (k + 1) (k / 3) hLK' (Nat.le_refl _) (by omega)
          have HN := Lib.hid hnx
          have HM := Lib.hid hdm
          have HR := Lib.hid hr
          clear hnx hh hm hdm hr
          go_wp2_with fail
          go_roundw
          case rel => exact ⟨k + 1, by omega, by go_num, by rw [HM.out.1, HM.out.2, HN.out]; go_num, by rw [HM.out.1, ← HR.out], hw⟩
          case measure => simp [intOf]; omega
        · rw [hm] at hh hnx
          rw [hm]
          generalize hor 6 x (k / 3 * 3) 1 = h at *
          have hh' : h < 6 := by simpa using hh
          have d : ((k : Int) % 3 == 2) = false := by simp; omega
          have hdm : (k + 1) / 3 = k / 3 ∧ (k + 1) % 3 = 2 := by omega
          have hr := rows_full 3 6 x k (k + 1) (k / 3) hLK' (Nat.le_refl _) (by omega)
          have HN := Lib.hid hnx
          have HM := Lib.hid hdm
          have HR := Lib.hid hr
          clear hnx hh hm hdm hr
          go_wp2_with fail
          go_roundw
          case rel => exact ⟨k + 1, by omega, by go_num, by rw [HM.out.1, HM.out.2, HN.out]; go_num, by rw [HM.out.1, ← HR.out], hw⟩
          case measure => simp [intOf]; omega
        · rw [hm] at hh hnx
          rw [hm]
          generalize hor 6 x (k / 3 * 3) 2 = h at *
          have hh' : h < 36 := by simpa using hh
          have d : ((k : Int) % 3 == 2) = true := by simp; omega
          have hdm : (k + 1) / 3 = k / 3 + 1 ∧ (k + 1) % 3 = 0 := by omega
          have hr := rows_full 3 6 x k (k + 1) (k / 3) hLK' (Nat.le_refl _) (by omega)
          have hf : rb 3 6 x (k + 1) (k / 3) = h * 6 + xk := by rw [rb_full 3 6 x (k + 1) (k / 3) hLK' (by omega)]; exact hnx
          have hst : str (rows 3 6 x (k + 1) (k / 3 + 1)) = str (rows 3 6 x k (k / 3)) ++ str [UInt8.ofNat (h * 6 + xk)] := by rw [rows_succ, hf, ← hr, str_append]
          have hcv := one_byte wr (h * 6 + xk) (by omega)
          simp only [Int.natCast_add, Int.natCast_mul, Int.cast_ofNat_Int] at hcv
          have h1s : (str [UInt8.ofNat (h * 6 + xk)]).size ≤ 1 := by rw [str_size]; exact Nat.le_refl _
          generalize str [UInt8.ofNat (h * 6 + xk)] = c1 at *
          generalize str (rows 3 6 x k (k / 3)) = s at *
          have HS := Lib.hid hst
          have HM := Lib.hid hdm
          clear hnx hh hm hdm hr hf hst
          go_wp2_with fail
          have hwa := hw.alloc hw.size (.cells #[.int .u8 ((h : Int) * 6 + xk)] 5)
          go_roundw
          case rel => exact ⟨k + 1, by omega, by go_num, by rw [HM.out.1, HM.out.2]; rfl, by rw [HM.out.1, HS.out], hwa⟩
          case measure => simp [intOf]; omega
      · simp only [Int.cast_ofNat_Int] at *
        rcases (show k % 4 = 0 ∨ k % 4 = 1 ∨ k % 4 = 2 ∨ k % 4 = 3 from by omega) with hm | hm | hm | hm
        · rw [hm] at hh hnx
          rw [hm]
          generalize hor 4 x (k / 4 * 4) 0 = h at *
          have hh' : h < 1 := by simpa using hh
          have d : ((k : Int) % 4 == 3) = false := by simp; omega
          have hdm : (k + 1) / 4 = k / 4 ∧ (k + 1) % 4 = 1 := by omega
          have hr := rows_full 4 4 x k (k + 1) (k / 4) hLK' (Nat.le_refl _) (by omega)
          have HN := Lib.hid hnx
          have HM := Lib.hid hdm
          have HR := Lib.hid hr
          clear hnx hh hm hdm hr
          go_wp2_with fail
          go_roundw
          case rel => exact ⟨k + 1, by omega, by go_num, by rw [HM.out.1, HM.out.2, HN.out]; go_num, by rw [HM.out.1, ← HR.out], hw⟩
          case measure => simp [intOf]; omega
        · rw [hm] at hh hnx
          rw [hm]
          generalize hor 4 x (k / 4 * 4) 1 = h at *
          have hh' : h < 4 := by simpa using hh
          have d : ((k : Int) % 4 == 3) = false := by simp; omega
          have hdm : (k + 1) / 4 = k / 4 ∧ (k + 1) % 4 = 2 := by omega
          have hr := rows_full 4 4 x k (k + 1) (k / 4) hLK' (Nat.le_refl _) (by omega)
          have HN := Lib.hid hnx
          have HM := Lib.hid hdm
          have HR := Lib.hid hr
          clear hnx hh hm hdm hr
          go_wp2_with fail
          go_roundw
          case rel => exact ⟨k + 1, by omega, by go_num, by rw [HM.out.1, HM.out.2, HN.out]; go_num, by rw [HM.out.1, ← HR.out], hw⟩
          case measure => simp [intOf]; omega
        · rw [hm] at hh hnx
          rw [hm]
          generalize hor 4 x (k / 4 * 4) 2 = h at *
          have hh' : h < 16 := by simpa using hh
          have d : ((k : Int) % 4 == 3) = false := by simp; omega
          have hdm : (k + 1) / 4 = k / 4 ∧ (k + 1) % 4 = 3 := by omega
          have hr := rows_full 4 4 x k (k + 1) (k / 4) hLK' (Nat.le_refl _) (by omega)
          have HN := Lib.hid hnx
          have HM := Lib.hid hdm
          have HR := Lib.hid hr
          clear hnx hh hm hdm hr
          go_wp2_with fail
          go_roundw
          case rel => exact ⟨k + 1, by omega, by go_num, by rw [HM.out.1, HM.out.2, HN.out]; go_num, by rw [HM.out.1, ← HR.out], hw⟩
          case measure => simp [intOf]; omega
        · rw [hm] at hh hnx
          rw [hm]
          generalize hor 4 x (k / 4 * 4) 3 = h at *
          have hh' : h < 64 := by simpa using hh
          have d : ((k : Int) % 4 == 3) = true := by simp; omega
          have hdm : (k + 1) / 4 = k / 4 + 1 ∧ (k + 1) % 4 = 0 := by omega
          have hr := rows_full 4 4 x k (k + 1) (k / 4) hLK' (Nat.le_refl _) (by omega)
          have hf : rb 4 4 x (k + 1) (k / 4) = h * 4 + xk := by rw [rb_full 4 4 x (k + 1) (k / 4) hLK' (by omega)]; exact hnx
          have hst : str (rows 4 4 x (k + 1) (k / 4 + 1)) = str (rows 4 4 x k (k / 4)) ++ str [UInt8.ofNat (h * 4 + xk)] := by rw [rows_succ, hf, ← hr, str_append]
          have hcv := one_byte wr (h * 4 + xk) (by omega)
          simp only [Int.natCast_add, Int.natCast_mul, Int.cast_ofNat_Int] at hcv
          have h1s : (str [UInt8.ofNat (h * 4 + xk)]).size ≤ 1 := by rw [str_size]; exact Nat.le_refl _
          generalize str [UInt8.ofNat (h * 4 + xk)] = c1 at *
          generalize str (rows 4 4 x k (k / 4)) = s at *
          have HS := Lib.hid hst
          have HM := Lib.hid hdm
          clear hnx hh hm hdm hr hf hst
          go_wp2_with fail
          have hwa := hw.alloc hw.size (.cells #[.int .u8 ((h : Int) * 4 + xk)] 5)
          go_roundw
          case rel => exact ⟨k + 1, by omega, by go_num, by rw [HM.out.1, HM.out.2]; rfl, by rw [HM.out.1, HS.out], hwa⟩
          case measure => simp [intOf]; omega
    · obtain rfl : k = p := by omega
      by_cases hpn : k < n
      · obtain ⟨b, off, rfl, hbl, hc⟩ := hA k hpn
        have c0 : wr.cell? ⟨b, off + k, none⟩ = some (.int .i64 (f k)) := (hw.cell (p := ⟨b, off + k, none⟩) hbl).trans hc
        have hbd := hbad hpn
        generalize f k = z at *
        rcases hbd with hz | hz
        · have d1 : decide (z < 0) = true := by simpa using hz
          clear hc hx hA hK hbad
          go_wp2_with fail
          go_ret2
          exact ⟨.inr ⟨hpn, rfl⟩, hw⟩
        · have d1 : decide (z < 0) = false := by simp; omega
          have d2 : decide ((K : Int) ≤ z) = true := by simpa using hz
          clear hc hx hA hK hbad
          go_wp2_with fail
          go_ret2
          exact ⟨.inr ⟨hpn, rfl⟩, hw⟩
      · obtain rfl : k = n := by omega
        have hLK' := hLK
        clear hlt hk hbad hx
        rcases hLK with ⟨rfl, rfl⟩ | ⟨rfl, rfl⟩
        · simp only [Int.cast_ofNat_Int] at *
          rcases (show k % 3 = 0 ∨ k % 3 = 1 ∨ k % 3 = 2 from by omega) with hm | hm | hm
          · have d : decide (0 < (k : Int) % 3) = false := by simp; omega
            have e : sz k 3 = k / 3 := by unfold sz; omega
            have HE := Lib.hid e
            clear e hm
            go_wp2_with fail
            go_ret2
            exact ⟨.inl ⟨rfl, ret_ref (by rw [HE.out])⟩, hw⟩
          · have d : decide (0 < (k : Int) % 3) = true := by simp; omega
            have e : sz k 3 = k / 3 + 1 := by unfold sz; omega
            have hl := rb_last 3 6 x k hLK'
            have hh := hor_lt 6 x (k / 3 * 3) 1 fun r hr => hK _ (by omega)
            rw [hm] at hl ⊢
            generalize hor 6 x (k / 3 * 3) 1 = h at *
            have hh' : h < 6 := by simpa using hh
            have hst : str (rows 3 6 x k (sz k 3)) = str (rows 3 6 x k (k / 3)) ++ str [UInt8.ofNat (h * 36)] := by rw [e, rows_succ, hl, str_append]
            generalize str (rows 3 6 x k (k / 3)) = s at *
            have HS := Lib.hid hst
            have hmi : (k : Int) % 3 = 1 := by omega
            clear e hm hl hh hst
            go_wp2_with fail
            go_loopw [9, 13] (fun v t wx => ∃ V : Nat, v = .int .i64 V ∧ wx = wr ∧ ((t = .int .i64 1 ∧ V = h * 1) ∨ (t = .int .i64 2 ∧ V = h * 6) ∨ (t = .int .i64 3 ∧ V = h * 36))) (fun _ t _ => 3 - (intOf t).toNat)
            case atStart => exact ⟨h, rfl, rfl, .inl ⟨by rw [hmi], by omega⟩⟩
            case round =>
              obtain ⟨V, rfl, rfl, hV⟩ := hrel
              rcases hV with ⟨rfl, hV⟩ | ⟨rfl, hV⟩ | ⟨rfl, hV⟩
              · have HV := Lib.hid hV
                have hVb : V ≤ 216 := by omega
                clear hV
                go_wp2_with fail
                go_roundw
                case rel => exact ⟨V * 6, by go_num, trivial, .inr (.inl ⟨rfl, by rw [HV.out, Nat.mul_assoc]⟩)⟩
                case measure => simp [intOf]
              · have HV := Lib.hid hV
                have hVb : V ≤ 216 := by omega
                clear hV
                go_wp2_with fail
                go_roundw
                case rel => exact ⟨V * 6, by go_num, trivial, .inr (.inr (⟨rfl, by rw [HV.out, Nat.mul_assoc]⟩))⟩
                case measure => simp [intOf]
              · have hcv := one_byte wr V (by omega)
                rw [← hV] at HS
                have h1s : (str [UInt8.ofNat V]).size ≤ 1 := by rw [str_size]; exact Nat.le_refl _
                have hVb : V < 256 := by omega
                generalize str [UInt8.ofNat V] = c1 at *
                clear hV
                go_wp2_with fail
                go_ret2
                exact ⟨.inl ⟨rfl, ret_ref HS.out.symm⟩, hw.alloc hw.size _⟩
          · have d : decide (0 < (k : Int) % 3) = true := by simp; omega
            have e : sz k 3 = k / 3 + 1 := by unfold sz; omega
            have hl := rb_last 3 6 x k hLK'
            have hh := hor_lt 6 x (k / 3 * 3) 2 fun r hr => hK _ (by omega)
            rw [hm] at hl ⊢
            generalize hor 6 x (k / 3 * 3) 2 = h at *
            have hh' : h < 36 := by simpa using hh
            have hst : str (rows 3 6 x k (sz k 3)) = str (rows 3 6 x k (k / 3)) ++ str [UInt8.ofNat (h * 6)] := by rw [e, rows_succ, hl, str_append]
            generalize str (rows 3 6 x k (k / 3)) = s at *
            have HS := Lib.hid hst
            have hmi : (k : Int) % 3 = 2 := by omega
            clear e hm hl hh hst
            go_wp2_with fail
            go_loopw [9, 13] (fun v t wx => ∃ V : Nat, v = .int .i64 V ∧ wx = wr ∧ ((t = .int .i64 2 ∧ V = h * 1) ∨ (t = .int .i64 3 ∧ V = h * 6))) (fun _ t _ => 3 - (intOf t).toNat)
            case atStart => exact ⟨h, rfl, rfl, .inl ⟨by rw [hmi], by omega⟩⟩
            case round =>
              obtain ⟨V, rfl, rfl, hV⟩ := hrel
              rcases hV with ⟨rfl, hV⟩ | ⟨rfl, hV⟩
              · have HV := Lib.hid hV
                have hVb : V ≤ 216 := by omega
                clear hV
                go_wp2_with fail
                go_roundw
                case rel => exact ⟨V * 6, by go_num, trivial, .inr (⟨rfl, by rw [HV.out, Nat.mul_assoc]⟩)⟩
                case measure => simp [intOf]
              · have hcv := one_byte wr V (by omega)
                rw [← hV] at HS
                have h1s : (str [UInt8.ofNat V]).size ≤ 1 := by rw [str_size]; exact Nat.le_refl _
                have hVb : V < 256 := by omega
                generalize str [UInt8.ofNat V] = c1 at *
                clear hV
                go_wp2_with fail
                go_ret2
                exact ⟨.inl ⟨rfl, ret_ref HS.out.symm⟩, hw.alloc hw.size _⟩
        · simp only [Int.cast_ofNat_Int] at *
          rcases (show k % 4 = 0 ∨ k % 4 = 1 ∨ k % 4 = 2 ∨ k % 4 = 3 from by omega) with hm | hm | hm | hm
          · have d : decide (0 < (k : Int) % 4) = false := by simp; omega
            have e : sz k 4 = k / 4 := by unfold sz; omega
            have HE := Lib.hid e
            clear e hm
            go_wp2_with fail
            go_ret2
            exact ⟨.inl ⟨rfl, ret_ref (by rw [HE.out])⟩, hw⟩
          · have d : decide (0 < (k : Int) % 4) = true := by simp; omega
            have e : sz k 4 = k / 4 + 1 := by unfold sz; omega
            have hl := rb_last 4 4 x k hLK'
            have hh := hor_lt 4 x (k / 4 * 4) 1 fun r hr => hK _ (by omega)
            rw [hm] at hl ⊢
            generalize hor 4 x (k / 4 * 4) 1 = h at *
            have hh' : h < 4 := by simpa using hh
            have hst : str (rows 4 4 x k (sz k 4)) = str (rows 4 4 x k (k / 4)) ++ str [UInt8.ofNat (h * 64)] := by rw [e, rows_succ, hl, str_append]
            generalize str (rows 4 4 x k (k / 4)) = s at *
            have HS := Lib.hid hst
            have hmi : (k : Int) % 4 = 1 := by omega
            clear e hm hl hh hst
            go_wp2_with fail
            go_loopw [9, 13] (fun v t wx => ∃ V : Nat, v = .int .i64 V ∧ wx = wr ∧ ((t = .int .i64 1 ∧ V = h * 1) ∨ (t = .int .i64 2 ∧ V = h * 4) ∨ (t = .int .i64 3 ∧ V = h * 16) ∨ (t = .int .i64 4 ∧ V = h * 64))) (fun _ t _ => 4 - (intOf t).toNat)
            case atStart => exact ⟨h, rfl, rfl, .inl ⟨by rw [hmi], by omega⟩⟩
            case round =>
              obtain ⟨V, rfl, rfl, hV⟩ := hrel
              rcases hV with ⟨rfl, hV⟩ | ⟨rfl, hV⟩ | ⟨rfl, hV⟩ | ⟨rfl, hV⟩
              · have HV := Lib.hid hV
                have hVb : V ≤ 256 := by omega
                clear hV
                go_wp2_with fail
                go_roundw
                case rel => exact ⟨V * 4, by go_num, trivial, .inr (.inl ⟨rfl, by rw [HV.out, Nat.mul_assoc]⟩)⟩
                case measure => simp [intOf]
              · have HV := Lib.hid hV
                have hVb : V ≤ 256 := by omega
                clear hV
                go_wp2_with fail
                go_roundw
                case rel => exact ⟨V * 4, by go_num, trivial, .inr (.inr (.inl ⟨rfl, by rw [HV.out, Nat.mul_assoc]⟩))⟩
                case measure => simp [intOf]
              · have HV := Lib.hid hV
                have hVb : V ≤ 256 := by omega
                clear hV
                go_wp2_with fail
                go_roundw
                case rel => exact ⟨V * 4, by go_num, trivial, .inr (.inr (.inr (⟨rfl, by rw [HV.out, Nat.mul_assoc]⟩)))⟩
                case measure => simp [intOf]
              · have hcv := one_byte wr V (by omega)
                rw [← hV] at HS
                have h1s : (str [UInt8.ofNat V]).size ≤ 1 := by rw [str_size]; exact Nat.le_refl _
                have hVb : V < 256 := by omega
                generalize str [UInt8.ofNat V] = c1 at *
                clear hV
                go_wp2_with fail
                go_ret2
                exact ⟨.inl ⟨rfl, ret_ref HS.out.symm⟩, hw.alloc hw.size _⟩
          · have d : decide (0 < (k : Int) % 4) = true := by simp; omega
            have e : sz k 4 = k / 4 + 1 := by unfold sz; omega
            have hl := rb_last 4 4 x k hLK'
            have hh := hor_lt 4 x (k / 4 * 4) 2 fun r hr => hK _ (by omega)
            rw [hm] at hl ⊢
            generalize hor 4 x (k / 4 * 4) 2 = h at *
            have hh' : h < 16 := by simpa using hh
            have hst : str (rows 4 4 x k (sz k 4)) = str (rows 4 4 x k (k / 4)) ++ str [UInt8.ofNat (h * 16)] := by rw [e, rows_succ, hl, str_append]
            generalize str (rows 4 4 x k (k / 4)) = s at *
            have HS := Lib.hid hst
            have hmi : (k : Int) % 4 = 2 := by omega
            clear e hm hl hh hst
            go_wp2_with fail
            go_loopw [9, 13] (fun v t wx => ∃ V : Nat, v = .int .i64 V ∧ wx = wr ∧ ((t = .int .i64 2 ∧ V = h * 1) ∨ (t = .int .i64 3 ∧ V = h * 4) ∨ (t = .int .i64 4 ∧ V = h * 16))) (fun _ t _ => 4 - (intOf t).toNat)
            case atStart => exact ⟨h, rfl, rfl, .inl ⟨by rw [hmi], by omega⟩⟩
            case round =>
              obtain ⟨V, rfl, rfl, hV⟩ := hrel
              rcases hV with ⟨rfl, hV⟩ | ⟨rfl, hV⟩ | ⟨rfl, hV⟩
              · have HV := Lib.hid hV
                have hVb : V ≤ 256 := by omega
                clear hV
                go_wp2_with fail
                go_roundw
                case rel => exact ⟨V * 4, by go_num, trivial, .inr (.inl ⟨rfl, by rw [HV.out, Nat.mul_assoc]⟩)⟩
                case measure => simp [intOf]
              · have HV := Lib.hid hV
                have hVb : V ≤ 256 := by omega
                clear hV
                go_wp2_with fail
                go_roundw
                case rel => exact ⟨V * 4, by go_num, trivial, .inr (.inr (⟨rfl, by rw [HV.out, Nat.mul_assoc]⟩))⟩
                case measure => simp [intOf]
              · have hcv := one_byte wr V (by omega)
                rw [← hV] at HS
                have h1s : (str [UInt8.ofNat V]).size ≤ 1 := by rw [str_size]; exact Nat.le_refl _
                have hVb : V < 256 := by omega
                generalize str [UInt8.ofNat V] = c1 at *
                clear hV
                go_wp2_with fail
                go_ret2
                exact ⟨.inl ⟨rfl, ret_ref HS.out.symm⟩, hw.alloc hw.size _⟩
          · have d : decide (0 < (k : Int) % 4) = true := by simp; omega
            have e : sz k 4 = k / 4 + 1 := by unfold sz; omega
            have hl := rb_last 4 4 x k hLK'
            have hh := hor_lt 4 x (k / 4 * 4) 3 fun r hr => hK _ (by omega)
            rw [hm] at hl ⊢
            generalize hor 4 x (k / 4 * 4) 3 = h at *
            have hh' : h < 64 := by simpa using hh
            have hst : str (rows 4 4 x k (sz k 4)) = str (rows 4 4 x k (k / 4)) ++ str [UInt8.ofNat (h * 4)] := by rw [e, rows_succ, hl, str_append]
            generalize str (rows 4 4 x k (k / 4)) = s at *
            have HS := Lib.hid hst
            have hmi : (k : Int) % 4 = 3 := by omega
            clear e hm hl hh hst
            go_wp2_with fail
            go_loopw [9, 13] (fun v t wx => ∃ V : Nat, v = .int .i64 V ∧ wx = wr ∧ ((t = .int .i64 3 ∧ V = h * 1) ∨ (t = .int .i64 4 ∧ V = h * 4))) (fun _ t _ => 4 - (intOf t).toNat)
            case atStart => exact ⟨h, rfl, rfl, .inl ⟨by rw [hmi], by omega⟩⟩
            case round =>
              obtain ⟨V, rfl, rfl, hV⟩ := hrel
              rcases hV with ⟨rfl, hV⟩ | ⟨rfl, hV⟩
              · have HV := Lib.hid hV
                have hVb : V ≤ 256 := by omega
                clear hV
                go_wp2_with fail
                go_roundw
                case rel => exact ⟨V * 4, by go_num, trivial, .inr (⟨rfl, by rw [HV.out, Nat.mul_assoc]⟩)⟩
                case measure => simp [intOf]
              · have hcv := one_byte wr V (by omega)
                rw [← hV] at HS
                have h1s : (str [UInt8.ofNat V]).size ≤ 1 := by rw [str_size]; exact Nat.le_refl _
                have hVb : V < 256 := by omega
                generalize str [UInt8.ofNat V] = c1 at *
                clear hV
                go_wp2_with fail
                go_ret2
                exact ⟨.inl ⟨rfl, ret_ref HS.out.symm⟩, hw.alloc hw.size _⟩
end Go.Proofs.Ytoigapanhbmjlaa
