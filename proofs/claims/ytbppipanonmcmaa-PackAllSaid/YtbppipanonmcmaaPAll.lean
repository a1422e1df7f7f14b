/- PackAll: each byte up to 215 is that of three events, no other one; each byte that of four numbers. No condition. -/
import Derived.Test.YtbppipanonmcmaaPkAlive
namespace Go.Proofs.Ytbppipanonmcmaa
open Go.ChangeShapes Go.WideShapes Go.ChangeAt Go.RowKit
open Go.ChangeMaps (open_string shut_string)

/-- The numbers of a byte. -/
def digs (L K b k : Nat) : Nat := b / K ^ (L - 1 - k) % K
theorem digs_kinds (L K b n : Nat) (h : 0 < K) : Kinds K (digs L K b) n := fun _ _ => Nat.mod_lt _ h
theorem rows_digs3 (b : UInt8) (h : b.toNat < 216) : str [b] = str (rows 3 6 (digs 3 6 b.toNat) 3 (sz 3 3)) := by
  have e : rows 3 6 (digs 3 6 b.toNat) 3 (sz 3 3) = [UInt8.ofNat (((0 * 6 + b.toNat / 36 % 6) * 6 + b.toNat / 6 % 6) * 6 + b.toNat / 1 % 6)] := by
    show [UInt8.ofNat ((((0 * 6 + b.toNat / 36 % 6) * 6 + b.toNat / 6 % 6) * 6 + b.toNat / 1 % 6) * 1)] = _
    rw [Nat.mul_one]
  rw [e]
  have : ((0 * 6 + b.toNat / 36 % 6) * 6 + b.toNat / 6 % 6) * 6 + b.toNat / 1 % 6 = b.toNat := by omega
  rw [this, UInt8.ofNat_toNat]
theorem rows_digs4 (b : UInt8) : str [b] = str (rows 4 4 (digs 4 4 b.toNat) 4 (sz 4 4)) := by
  have hb := b.toNat_lt
  have e : rows 4 4 (digs 4 4 b.toNat) 4 (sz 4 4) = [UInt8.ofNat ((((0 * 4 + b.toNat / 64 % 4) * 4 + b.toNat / 16 % 4) * 4 + b.toNat / 4 % 4) * 4 + b.toNat / 1 % 4)] := by
    show [UInt8.ofNat (((((0 * 4 + b.toNat / 64 % 4) * 4 + b.toNat / 16 % 4) * 4 + b.toNat / 4 % 4) * 4 + b.toNat / 1 % 4) * 1)] = _
    rw [Nat.mul_one]
  rw [e]
  have : (((0 * 4 + b.toNat / 64 % 4) * 4 + b.toNat / 16 % 4) * 4 + b.toNat / 4 % 4) * 4 + b.toNat / 1 % 4 = b.toNat := by omega
  rw [this, UInt8.ofNat_toNat]

theorem size_three (w : World) : Calls Try.prog 19 #[.int .i64 3, .int .i64 3] w fun e w' => e = .returned (.int .i64 1) ∧ w = w' := size_any 3 3 6 w (by unfold LK; decide) (by omega)

set_option maxHeartbeats 1000000 in
set_option maxRecDepth 100000 in
theorem unpacked_bad (S : ByteArray) (w : World) (hS : S.size = 1) (hb : ∀ h : 0 < S.size, 216 ≤ S[0].toNat) :
    Calls Try.prog 18 #[.string S, .int .i64 3, .int .i64 3, .int .i64 6] w fun e w' => e = .returned (.tuple #[.slice none 0 0, .int .i64 4]) ∧ Below w.heap.size w w' := by
  obtain ⟨i0, hi0, hz0, hz1, hz2⟩ := info_parts int_info
  have hzc : (Value.int .i64 0).cells = #[.int .i64 0] := rfl
  have hmk := run_make (P := Try.prog) w 22 3 i0 (.int .i64 0) Try.underlying22 hi0 hz0 .i64 .i64 0 3 (Int.le_refl _) (by omega) (by rw [hz2]; omega) (by omega)
  have e3 : (3 : Int).toNat = 3 := rfl
  simp only [Int.toNat_zero, e3, hz1, Nat.mul_one, hzc] at hmk
  clear e3
  have hlt : 0 < S.size := by omega
  have hb' := hb hlt
  have e1 : (S.size == 1) = true := by simp [hS]
  have HS := Lib.hid hS
  clear hb hS hzc hi0 hz0 hz1 hz2
  go_enter Try.func18, Try.ntmps18
  go_wp2_with fail
  go_step3
  go_wp2_with fail
  with_reducible refine (size_three _).mono ?_
  rintro e w' ⟨rfl, rfl⟩
  go_wp2_with fail
  go_step3
  go_wp2_with fail
  have hw1 := (Below.refl w.heap.size w).alloc (Nat.le_refl _) (.cells (madeCells #[.int .i64 0] 3) 3)
  clear e1 hmk
  go_loopw [10, 28] (fun v i wr => i = .int .i64 0 ∧ Below w.heap.size w wr) (fun _ _ _ => 0)
  case atStart => exact ⟨rfl, hw1⟩
  case round =>
    obtain ⟨rfl, hg⟩ := hrel
    clear hw1
    generalize hq : S[0].toNat = q at *
    have hq256 : q < 256 := by rw [← hq]; exact S[0].toNat_lt
    have HW : IntKind.i64.wrap (q : Int) = (q : Int) := IntWalk.i64_in _ (by omega)
    go_wp2_with fail
    go_quiet ((go_at_call 20; exact Calls.quiet_of_same (unlike3q _)))
    clear HW hq
    go_wp2_with fail
    rw [Exit.noGoto_ret]
    go_ret2
    exact ⟨rfl, bel_drewN hg nq⟩

set_option maxHeartbeats 1000000 in
theorem fromthrees_bad (S : ByteArray) (w : World) (hS : S.size = 1) (hb : ∀ h : 0 < S.size, 216 ≤ S[0].toNat) :
    Calls Try.prog 11 #[.string S, .int .i64 3] w fun e w' => e = .returned (.tuple #[.slice none 0 0, .int .i64 4]) ∧ Below w.heap.size w w' := by
  have HC := Lib.hid (unpacked_bad S w hS hb)
  clear hS hb
  go_enter Try.func11, Try.ntmps11
  go_wp2_with fail
  refine HC.out.mono ?_
  rintro e w' ⟨rfl, hb⟩
  go_wp2_with fail
  go_ret2
  exact ⟨rfl, hb⟩
theorem from3_3 (S : ByteArray) (x : Nat → Nat) (w : World) (hK : Kinds 6 x 3) (hS : S = str (rows 3 6 x 3 (sz 3 3))) :
    Calls Try.prog 11 #[.string S, .int .i64 3] w fun e w' => UnpackEnd x 3 e w' ∧ Below w.heap.size w w' := fromthrees_any S 3 x w (by omega) hK hS
theorem from4_4 (S : ByteArray) (x : Nat → Nat) (w : World) (hK : Kinds 4 x 4) (hS : S = str (rows 4 4 x 4 (sz 4 4))) :
    Calls Try.prog 15 #[.string S, .int .i64 4] w fun e w' => UnpackEnd x 4 e w' ∧ Below w.heap.size w w' := fromfours_any S 4 x w (by omega) hK hS
theorem byte_of {n : Int} (h : (Lit.int .u8 n).wf = true) : ∃ b : UInt8, n = (b.toNat : Int) := by
  have h1 : 0 ≤ n ∧ n ≤ 255 := by simpa [Lit.wf, IntKind.min, IntKind.max, IntKind.signed, IntKind.bits] using h
  refine ⟨UInt8.ofNat n.toNat, ?_⟩
  simp
  omega
theorem nums_at {w : World} {B g n : Nat} {x : Nat → Nat} (h : Nums w B (some ⟨g, 0, none⟩) n (fun k => (x k : Int))) (k : Nat) (hk : k < n) : w.cell? ⟨g, k, none⟩ = some (.int .i64 (x k : Nat)) := by
  obtain ⟨b, off, e, _, hc⟩ := h k hk
  injection e with e
  injection e with e1 e2 _
  subst e1 e2
  rwa [Nat.zero_add] at hc

set_option maxHeartbeats 4000000 in
set_option maxRecDepth 100000 in
theorem walkPackAll (a0 : Int) (w : World) (h0 : (Lit.int .u8 a0).wf = true) :
    Calls Try.prog 5 #[.int .u8 a0] w fun e w' => e = .returned (.bool true) ∧ Below w.heap.size w w' := by
  obtain ⟨b, rfl⟩ := byte_of h0
  have hb := b.toNat_lt
  have hS4 := rows_digs4 b
  have hs1 : (str [b]).size = 1 := by rw [str_size]; rfl
  have hcv : ∀ wr : World, (convert 34 9 (.slice (some ⟨wr.heap.size, 0, none⟩) 1 1)).run Try.prog (wr.alloc (.cells #[.int .u8 (b.toNat : Int)] 5)) = .ok (.string (str [b])) (wr.alloc (.cells #[.int .u8 (b.toNat : Int)] 5)) := fun wr => by
    have := one_byte wr b.toNat (by omega)
    rwa [UInt8.ofNat_toNat] at this
  have HCV := Lib.hid hcv
  clear hcv h0
  by_cases h216 : b.toNat < 216
  · have hS3 := rows_digs3 b h216
    have hx3 : digs 3 6 b.toNat 0 * 36 + digs 3 6 b.toNat 1 * 6 + digs 3 6 b.toNat 2 = b.toNat := by
      show b.toNat / 36 % 6 * 36 + b.toNat / 6 % 6 * 6 + b.toNat / 1 % 6 = _
      omega
    have hx4 : digs 4 4 b.toNat 0 * 64 + digs 4 4 b.toNat 1 * 16 + digs 4 4 b.toNat 2 * 4 + digs 4 4 b.toNat 3 = b.toNat := by
      show b.toNat / 64 % 4 * 64 + b.toNat / 16 % 4 * 16 + b.toNat / 4 % 4 * 4 + b.toNat / 1 % 4 = _
      omega
    have hk3 := digs_kinds 3 6 b.toNat 3 (by omega)
    have hk4 := digs_kinds 4 4 b.toNat 4 (by omega)
    generalize digs 3 6 b.toNat = x at *
    generalize digs 4 4 b.toNat = y at *
    generalize str [b] = S at *
    generalize b.toNat = B at *
    have HX3 := Lib.hid hx3
    have HX4 := Lib.hid hx4
    have HS3 := Lib.hid hS3
    have HS4 := Lib.hid hS4
    have HK3 := Lib.hid hk3
    have HK4 := Lib.hid hk4
    have HS1 := Lib.hid hs1
    have d1 : decide ((B : Int) < 216) = true := by simp; omega
    have d2 : decide ((216 : Int) ≤ (B : Int)) = false := by simp; omega
    clear hx3 hx4 hS3 hS4 hk3 hk4 hs1
    go_enter Try.func5, Try.ntmps5
    go_wp2_with fail
    refine (alive_any _).mono ?_
    rintro e w1 ⟨rfl, b1⟩
    have hcv := HCV.out w1
    go_wp2_with fail
    have hw2 := b1.alloc b1.size (.cells #[.int .u8 (B : Int)] 5)
    clear b1 hcv
    refine (from3_3 S x _ HK3.out HS3.out).mono ?_
    rintro e w3 ⟨⟨g, rfl, hN⟩, b3⟩
    have hw3 := hw2.trans (b3.mono hw2.size)
    have hNb : ∀ w4, Below w3.heap.size w3 w4 → ∀ k, k < 3 → w4.cell? ⟨g, k, none⟩ = some (.int .i64 (x k : Nat)) := fun w4 hb4 k hk => nums_at (hN.below hb4) k hk
    have HNB := Lib.hid hNb
    clear hw2 b3 hN hNb
    go_wp2_with fail
    refine (from4_4 S y _ HK4.out HS4.out).mono ?_
    rintro e w4 ⟨⟨g', rfl, hN'⟩, b4⟩
    have hw4 := hw3.trans (b4.mono hw3.size)
    have c0 := HNB.out w4 b4 0 (by omega)
    have c1 := HNB.out w4 b4 1 (by omega)
    have c2 := HNB.out w4 b4 2 (by omega)
    have k0 := nums_at hN' 0 (by omega)
    have k1 := nums_at hN' 1 (by omega)
    have k2 := nums_at hN' 2 (by omega)
    have k3 := nums_at hN' 3 (by omega)
    have hx3 := HX3.out
    have hx4 := HX4.out
    clear HX3 HX4 hN' b4 hw3 HNB HK3 HK4 HS3 HS4
    generalize x 0 = x0 at *
    generalize x 1 = x1 at *
    generalize x 2 = x2 at *
    generalize y 0 = y0 at *
    generalize y 1 = y1 at *
    generalize y 2 = y2 at *
    generalize y 3 = y3 at *
    have W1 : IntKind.i64.wrap ((x0 : Int) * 36) = (x0 : Int) * 36 := IntWalk.i64_in _ (by omega)
    have W2 : IntKind.i64.wrap ((x1 : Int) * 6) = (x1 : Int) * 6 := IntWalk.i64_in _ (by omega)
    have W3 : IntKind.i64.wrap ((x0 : Int) * 36 + (x1 : Int) * 6) = (x0 : Int) * 36 + (x1 : Int) * 6 := IntWalk.i64_in _ (by omega)
    have W4 : IntKind.i64.wrap ((x0 : Int) * 36 + (x1 : Int) * 6 + (x2 : Int)) = (B : Int) := by rw [IntWalk.i64_in _ (by omega)]; omega
    have W5 : IntKind.i64.wrap (B : Int) = (B : Int) := IntWalk.i64_in _ (by omega)
    have V1 : IntKind.i64.wrap ((y0 : Int) * 64) = (y0 : Int) * 64 := IntWalk.i64_in _ (by omega)
    have V2 : IntKind.i64.wrap ((y1 : Int) * 16) = (y1 : Int) * 16 := IntWalk.i64_in _ (by omega)
    have V3 : IntKind.i64.wrap ((y0 : Int) * 64 + (y1 : Int) * 16) = (y0 : Int) * 64 + (y1 : Int) * 16 := IntWalk.i64_in _ (by omega)
    have V4 : IntKind.i64.wrap ((y2 : Int) * 4) = (y2 : Int) * 4 := IntWalk.i64_in _ (by omega)
    have V5 : IntKind.i64.wrap ((y0 : Int) * 64 + (y1 : Int) * 16 + (y2 : Int) * 4) = (y0 : Int) * 64 + (y1 : Int) * 16 + (y2 : Int) * 4 := IntWalk.i64_in _ (by omega)
    have V6 : IntKind.i64.wrap ((y0 : Int) * 64 + (y1 : Int) * 16 + (y2 : Int) * 4 + (y3 : Int)) = (B : Int) := by rw [IntWalk.i64_in _ (by omega)]; omega
    clear hx3 hx4
    go_wp2_with fail
    go_quiet (fail)
    clear W1 W2 W3 W4 W5 V1 V2 V3 V4 V5 V6
    go_wp2_with fail
    go_ret
    exact ⟨rfl, bel_drewN hw4 nq⟩
  · have hSb : ∀ h : 0 < (str [b]).size, 216 ≤ (str [b])[0].toNat := fun h => by show 216 ≤ b.toNat; omega
    have hk4 := digs_kinds 4 4 b.toNat 4 (by omega)
    generalize digs 4 4 b.toNat = y at *
    generalize str [b] = S at *
    generalize b.toNat = B at *
    have HS4 := Lib.hid hS4
    have HK4 := Lib.hid hk4
    have HS1 := Lib.hid hs1
    have HSB := Lib.hid hSb
    have d1 : decide ((B : Int) < 216) = false := by simp; omega
    have d2 : decide ((216 : Int) ≤ (B : Int)) = true := by simp; omega
    clear hS4 hk4 hs1 hSb
    go_enter Try.func5, Try.ntmps5
    go_wp2_with fail
    refine (alive_any _).mono ?_
    rintro e w1 ⟨rfl, b1⟩
    have hcv := HCV.out w1
    go_wp2_with fail
    have hw2 := b1.alloc b1.size (.cells #[.int .u8 (B : Int)] 5)
    clear b1 hcv
    refine (fromthrees_bad S _ HS1.out HSB.out).mono ?_
    rintro e w3 ⟨rfl, b3⟩
    have hw3 := hw2.trans (b3.mono hw2.size)
    clear hw2 b3
    go_wp2_with fail
    refine (from4_4 S y _ HK4.out HS4.out).mono ?_
    rintro e w4 ⟨⟨g', rfl, hN'⟩, b4⟩
    have hw4 := hw3.trans (b4.mono hw3.size)
    clear hN' b4 hw3
    go_wp2_with fail
    go_quiet (fail)
    go_wp2_with fail
    go_ret
    exact ⟨rfl, bel_drewN hw4 nq⟩
set_option maxRecDepth 100000 in
theorem liftedPackAll (os : Os) (started : os.Started) (H : Type) (enc : TypeId × Value → H) :
    ReturnsInHanded {} Try.checked os 5 .any (Rows.packAllSpec.pre6 enc Try.prog Try.f5 Rows.packAllRow.domain false) (Rows.packAllSpec.post enc Try.prog Try.f5 false true false false) := by
  refine returnsInHanded_of_change (C := Try.checked) own started (by kernel_rfl) Try.func5
    (ChangeSpec.witness6 (enc := enc) (C := Try.checked) false ⟨#[], #[.int .u8 0], []⟩ 8 (by kernel_rfl) (by kernel_rfl) (by kernel_rfl) (by kernel_rfl)) ?_
  intro W base args ds gs before hval0 hW hcnd _
  have hval : ∀ (j : Nat) t v, Try.f5.params[j]? = some t → args[j]? = some v → Value.okWide Try.prog W .any base t v := hval0
  have hW' := hW
  obtain ⟨p, q, hA0, hV, rfl, hfz, hnd⟩ := hW
  have hA : DataW.TrodAll enc Try.prog W 0 (fun _ => true) true Try.f5.params.toList args.toList ds p := hA0
  rw [Try.params5] at hA hval
  obtain ⟨v0, vs0, d0, ds0, p0, q0, hargs, rfl, rfl, h0, r0⟩ := trodAll_cons hA
  obtain ⟨rfl, rfl, rfl⟩ := trodAll_nil r0
  obtain rfl : args = #[v0] := by cases args; simp_all
  obtain ⟨rfl, rfl⟩ := trodVars_none hV
  obtain ⟨a0, rfl, rfl, rfl, w0⟩ := open_int Try.underlying5 (hval 0 5 v0 rfl rfl) h0
  clear hA0 hval0
  refine (walkPackAll a0 W w0).mono fun e W' ⟨he, bel⟩ => ?_
  subst he
  exact ⟨_, rfl, _, _, _, [], _, [], hW', trodAll_mk1 (shut_bool Try.underlying4 _), (trodAll_cons_mk (shut_int Try.underlying5 w0) trodAll_mk0), rfl, bel.frame _, fun h => by cases h⟩

theorem overPackAll : Rows.packAllRow.holds Try.pinned (OpenSpec.ofChange Rows.packAllSpec) :=
  OpenClaim.holds_of_wide 5 Try.f5 rfl rfl rfl rfl rfl rfl rfl ⟨rfl, rfl, rfl, rfl, rfl⟩ rfl rfl rfl rfl rfl (by kernel_rfl) Try.func5 (by kernel_rfl)
    (of_decide_eq_true (by kernel_rfl)) (by unfold Func.isWrapper; first | (rw [if_pos (by decide +kernel)]; kernel_rfl) | (rw [if_neg (by decide +kernel)]; exact ⟨rfl, rfl⟩))
    (fun os started H enc _ => liftedPackAll os started H enc)

/-- The statement. -/
theorem packAll_holds : Rows.PackAllSaid := overPackAll

#print axioms packAll_holds
end Go.Proofs.Ytbppipanonmcmaa
