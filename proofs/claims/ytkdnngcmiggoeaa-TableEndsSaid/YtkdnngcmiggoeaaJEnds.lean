/- Of the registrar: behind RJoin it is IN, behind RFlush MT, whatever was ahead; it enters and goes by turns (P13.2). No condition. -/
import Derived.Test.YtkdnngcmiggoeaaJalive
namespace Go.Proofs.Ytkdnngcmiggoeaa
open Go.ChangeShapes Go.WideShapes Go.ChangeAt Go.RowKit
set_option maxRecDepth 100000

theorem reg_none {s : Nat} {e : Int} (hs : s < 3) (he : ¬ (0 ≤ e ∧ e < 5)) : cellT regT s e = none := by
  have : s = 0 ∨ s = 1 ∨ s = 2 := by omega
  unfold cellT
  rcases this with rfl | rfl | rfl <;> exact if_neg fun h => he h.2
set_option maxHeartbeats 8000000 in
theorem walkTableEnds (A : Option Addr) (len cap : Nat) (zs : List Int) (w : World) (hz : IsRow .i64 w A len cap zs) :
    Calls Try.prog 8 #[.slice A len cap] w fun e w' => e = .returned (.bool true) ∧ Below w.heap.size w w' := by
  have HZ := Lib.hid hz
  clear hz
  go_enter Try.func8, Try.ntmps8
  go_wp2_with fail
  refine (alive13_any w).mono ?_
  rintro e w1 ⟨rfl, b1⟩
  by_cases hgt : len > 60
  · go_wp2_with fail
    go_ret
    exact ⟨rfl, b1⟩
  go_wp2_with fail
  go_loopw [3, 4, 16] (fun inv sv iv wr => ∃ (j k : Nat), j ≤ len ∧ k < 3 ∧ iv = .int .i64 j ∧ sv = .int .i64 k ∧ inv = .bool (!decide (k = 0)) ∧ Hid (Below w.heap.size w wr)) (fun _ _ iv _ => len - (intOf iv).toNat)
  case atStart => exact ⟨0, 0, Nat.zero_le _, by omega, rfl, rfl, rfl, Lib.hid b1⟩
  case round =>
    obtain ⟨j, k, hj, hk, rfl, rfl, rfl, hB⟩ := hrel
    by_cases hlt : j < len
    · have j1 : (j : Int) < len := by omega
      have j0 : (0 : Int) ≤ j := by omega
      have HJ := Lib.hid (show wrap64 ((j : Int) + 1) = (j : Int) + 1 from IntWalk.wrap64_in _ (by omega))
      obtain ⟨b, off, rfl, hbl, p⟩ := HZ.out.at_ hlt
      obtain ⟨ev, hev⟩ : ∃ ev, zs.getD j 0 = ev := ⟨_, rfl⟩
      rw [hev] at p
      have q := (hB.out.cell (p := ⟨b, off + j, none⟩) hbl).trans p
      have hreg := reg_any wr
      have HREG := Lib.hid hreg
      clear p hbl hev hreg
      have hcase : ∀ (x : Value), atV regT k ev = x → ∀ (w2 : World) (A2 : Option Addr), TbAt w2 w2.heap.size A2 regT → Calls Try.prog 25 #[.slice A2 3 3, .int .i64 k, .int .i64 ev] w2 fun r w' => r = .returned x ∧ Below w2.heap.size w2 w' := fun x hx w2 A2 hT => by
        rw [← hx]
        exact at_any A2 3 regT k ev w2 hT
      have HCS := Lib.hid hcase
      clear hcase
      by_cases hin : 0 ≤ ev ∧ ev < 5
      rotate_left
      · have HC := Lib.hid (HCS.out _ (atV_none (reg_none hk hin)))
        clear hin
        go_wp2_with fail
        refine HREG.out.mono ?_
        rintro r w2 ⟨A2, rfl, hT, b2⟩
        go_wp2_with fail
        refine (HC.out w2 A2 hT).mono ?_
        rintro r w3 ⟨rfl, b3⟩
        have HB := Lib.hid ((hB.out.trans (b2.mono hB.out.size)).trans (b3.mono (Nat.le_trans hB.out.size b2.size)))
        clear b2 b3 hT
        go_wp2_with fail
        go_roundw
        case rel =>
          try rw [HJ.out]
          exact ⟨j + 1, k, hlt, hk, by rw [Int.natCast_add]; rfl, rfl, rfl, Lib.hid (HB.out.alloc HB.out.size _)⟩
        case measure =>
          try rw [HJ.out]
          show len - ((j : Int) + 1).toNat < len - ((j : Int)).toNat
          omega
      · obtain ⟨en, rfl⟩ : ∃ en : Nat, ev = en := ⟨ev.toNat, by omega⟩
        have hen : en < 5 := by omega
        clear hin
        rcases (show k = 0 ∨ k = 1 ∨ k = 2 from by omega) with rfl | rfl | rfl <;> rcases (show en = 0 ∨ en = 1 ∨ en = 2 ∨ en = 3 ∨ en = 4 from by omega) with rfl | rfl | rfl | rfl | rfl
        · have HC := Lib.hid (HCS.out _ (atV_some (c := (2, 3)) rfl))
          go_wp2_with fail
          refine HREG.out.mono ?_
          rintro r w2 ⟨A2, rfl, hT, b2⟩
          go_wp2_with fail
          refine (HC.out w2 A2 hT).mono ?_
          rintro r w3 ⟨rfl, b3⟩
          have HB := Lib.hid ((hB.out.trans (b2.mono hB.out.size)).trans (b3.mono (Nat.le_trans hB.out.size b2.size)))
          have r0 : (w3.alloc (.cells #[.int .i64 2, .int .i64 3] 56)).cell? ⟨w3.heap.size, 0, none⟩ = some (.int .i64 2) := (Blk.new w3 56 #[.int .i64 2, .int .i64 3]).cell 0
          have r1 : (w3.alloc (.cells #[.int .i64 2, .int .i64 3] 56)).cell? ⟨w3.heap.size, 1, none⟩ = some (.int .i64 3) := (Blk.new w3 56 #[.int .i64 2, .int .i64 3]).cell 1
          clear b2 b3 hT
          go_wp2_with fail
          go_roundw
          case rel =>
            try rw [HJ.out]
            exact ⟨j + 1, 2, hlt, by omega, by rw [Int.natCast_add]; rfl, rfl, rfl, Lib.hid (HB.out.alloc HB.out.size _)⟩
          case measure =>
            try rw [HJ.out]
            show len - ((j : Int) + 1).toNat < len - ((j : Int)).toNat
            omega
        · have HC := Lib.hid (HCS.out _ (atV_some (c := (0, 0)) rfl))
          go_wp2_with fail
          refine HREG.out.mono ?_
          rintro r w2 ⟨A2, rfl, hT, b2⟩
          go_wp2_with fail
          refine (HC.out w2 A2 hT).mono ?_
          rintro r w3 ⟨rfl, b3⟩
          have HB := Lib.hid ((hB.out.trans (b2.mono hB.out.size)).trans (b3.mono (Nat.le_trans hB.out.size b2.size)))
          have r0 : (w3.alloc (.cells #[.int .i64 0, .int .i64 0] 56)).cell? ⟨w3.heap.size, 0, none⟩ = some (.int .i64 0) := (Blk.new w3 56 #[.int .i64 0, .int .i64 0]).cell 0
          have r1 : (w3.alloc (.cells #[.int .i64 0, .int .i64 0] 56)).cell? ⟨w3.heap.size, 1, none⟩ = some (.int .i64 0) := (Blk.new w3 56 #[.int .i64 0, .int .i64 0]).cell 1
          clear b2 b3 hT
          go_wp2_with fail
          go_roundw
          case rel =>
            try rw [HJ.out]
            exact ⟨j + 1, 0, hlt, by omega, by rw [Int.natCast_add]; rfl, rfl, rfl, Lib.hid (HB.out.alloc HB.out.size _)⟩
          case measure =>
            try rw [HJ.out]
            show len - ((j : Int) + 1).toNat < len - ((j : Int)).toNat
            omega
        · have HC := Lib.hid (HCS.out _ (atV_some (c := (0, 0)) rfl))
          go_wp2_with fail
          refine HREG.out.mono ?_
          rintro r w2 ⟨A2, rfl, hT, b2⟩
          go_wp2_with fail
          refine (HC.out w2 A2 hT).mono ?_
          rintro r w3 ⟨rfl, b3⟩
          have HB := Lib.hid ((hB.out.trans (b2.mono hB.out.size)).trans (b3.mono (Nat.le_trans hB.out.size b2.size)))
          have r0 : (w3.alloc (.cells #[.int .i64 0, .int .i64 0] 56)).cell? ⟨w3.heap.size, 0, none⟩ = some (.int .i64 0) := (Blk.new w3 56 #[.int .i64 0, .int .i64 0]).cell 0
          have r1 : (w3.alloc (.cells #[.int .i64 0, .int .i64 0] 56)).cell? ⟨w3.heap.size, 1, none⟩ = some (.int .i64 0) := (Blk.new w3 56 #[.int .i64 0, .int .i64 0]).cell 1
          clear b2 b3 hT
          go_wp2_with fail
          go_roundw
          case rel =>
            try rw [HJ.out]
            exact ⟨j + 1, 0, hlt, by omega, by rw [Int.natCast_add]; rfl, rfl, rfl, Lib.hid (HB.out.alloc HB.out.size _)⟩
          case measure =>
            try rw [HJ.out]
            show len - ((j : Int) + 1).toNat < len - ((j : Int)).toNat
            omega
        · have HC := Lib.hid (HCS.out _ (atV_some (c := (0, 0)) rfl))
          go_wp2_with fail
          refine HREG.out.mono ?_
          rintro r w2 ⟨A2, rfl, hT, b2⟩
          go_wp2_with fail
          refine (HC.out w2 A2 hT).mono ?_
          rintro r w3 ⟨rfl, b3⟩
          have HB := Lib.hid ((hB.out.trans (b2.mono hB.out.size)).trans (b3.mono (Nat.le_trans hB.out.size b2.size)))
          have r0 : (w3.alloc (.cells #[.int .i64 0, .int .i64 0] 56)).cell? ⟨w3.heap.size, 0, none⟩ = some (.int .i64 0) := (Blk.new w3 56 #[.int .i64 0, .int .i64 0]).cell 0
          have r1 : (w3.alloc (.cells #[.int .i64 0, .int .i64 0] 56)).cell? ⟨w3.heap.size, 1, none⟩ = some (.int .i64 0) := (Blk.new w3 56 #[.int .i64 0, .int .i64 0]).cell 1
          clear b2 b3 hT
          go_wp2_with fail
          go_roundw
          case rel =>
            try rw [HJ.out]
            exact ⟨j + 1, 0, hlt, by omega, by rw [Int.natCast_add]; rfl, rfl, rfl, Lib.hid (HB.out.alloc HB.out.size _)⟩
          case measure =>
            try rw [HJ.out]
            show len - ((j : Int) + 1).toNat < len - ((j : Int)).toNat
            omega
        · have HC := Lib.hid (HCS.out _ (atV_some (c := (0, 0)) rfl))
          go_wp2_with fail
          refine HREG.out.mono ?_
          rintro r w2 ⟨A2, rfl, hT, b2⟩
          go_wp2_with fail
          refine (HC.out w2 A2 hT).mono ?_
          rintro r w3 ⟨rfl, b3⟩
          have HB := Lib.hid ((hB.out.trans (b2.mono hB.out.size)).trans (b3.mono (Nat.le_trans hB.out.size b2.size)))
          have r0 : (w3.alloc (.cells #[.int .i64 0, .int .i64 0] 56)).cell? ⟨w3.heap.size, 0, none⟩ = some (.int .i64 0) := (Blk.new w3 56 #[.int .i64 0, .int .i64 0]).cell 0
          have r1 : (w3.alloc (.cells #[.int .i64 0, .int .i64 0] 56)).cell? ⟨w3.heap.size, 1, none⟩ = some (.int .i64 0) := (Blk.new w3 56 #[.int .i64 0, .int .i64 0]).cell 1
          clear b2 b3 hT
          go_wp2_with fail
          go_roundw
          case rel =>
            try rw [HJ.out]
            exact ⟨j + 1, 0, hlt, by omega, by rw [Int.natCast_add]; rfl, rfl, rfl, Lib.hid (HB.out.alloc HB.out.size _)⟩
          case measure =>
            try rw [HJ.out]
            show len - ((j : Int) + 1).toNat < len - ((j : Int)).toNat
            omega
        · have HC := Lib.hid (HCS.out _ (atV_some (c := (2, 2)) rfl))
          go_wp2_with fail
          refine HREG.out.mono ?_
          rintro r w2 ⟨A2, rfl, hT, b2⟩
          go_wp2_with fail
          refine (HC.out w2 A2 hT).mono ?_
          rintro r w3 ⟨rfl, b3⟩
          have HB := Lib.hid ((hB.out.trans (b2.mono hB.out.size)).trans (b3.mono (Nat.le_trans hB.out.size b2.size)))
          have r0 : (w3.alloc (.cells #[.int .i64 2, .int .i64 2] 56)).cell? ⟨w3.heap.size, 0, none⟩ = some (.int .i64 2) := (Blk.new w3 56 #[.int .i64 2, .int .i64 2]).cell 0
          have r1 : (w3.alloc (.cells #[.int .i64 2, .int .i64 2] 56)).cell? ⟨w3.heap.size, 1, none⟩ = some (.int .i64 2) := (Blk.new w3 56 #[.int .i64 2, .int .i64 2]).cell 1
          clear b2 b3 hT
          go_wp2_with fail
          go_roundw
          case rel =>
            try rw [HJ.out]
            exact ⟨j + 1, 2, hlt, by omega, by rw [Int.natCast_add]; rfl, rfl, rfl, Lib.hid (HB.out.alloc HB.out.size _)⟩
          case measure =>
            try rw [HJ.out]
            show len - ((j : Int) + 1).toNat < len - ((j : Int)).toNat
            omega
        · have HC := Lib.hid (HCS.out _ (atV_some (c := (1, 0)) rfl))
          go_wp2_with fail
          refine HREG.out.mono ?_
          rintro r w2 ⟨A2, rfl, hT, b2⟩
          go_wp2_with fail
          refine (HC.out w2 A2 hT).mono ?_
          rintro r w3 ⟨rfl, b3⟩
          have HB := Lib.hid ((hB.out.trans (b2.mono hB.out.size)).trans (b3.mono (Nat.le_trans hB.out.size b2.size)))
          have r0 : (w3.alloc (.cells #[.int .i64 1, .int .i64 0] 56)).cell? ⟨w3.heap.size, 0, none⟩ = some (.int .i64 1) := (Blk.new w3 56 #[.int .i64 1, .int .i64 0]).cell 0
          have r1 : (w3.alloc (.cells #[.int .i64 1, .int .i64 0] 56)).cell? ⟨w3.heap.size, 1, none⟩ = some (.int .i64 0) := (Blk.new w3 56 #[.int .i64 1, .int .i64 0]).cell 1
          clear b2 b3 hT
          go_wp2_with fail
          go_roundw
          case rel =>
            try rw [HJ.out]
            exact ⟨j + 1, 1, hlt, by omega, by rw [Int.natCast_add]; rfl, rfl, rfl, Lib.hid (HB.out.alloc HB.out.size _)⟩
          case measure =>
            try rw [HJ.out]
            show len - ((j : Int) + 1).toNat < len - ((j : Int)).toNat
            omega
        · have HC := Lib.hid (HCS.out _ (atV_some (c := (1, 0)) rfl))
          go_wp2_with fail
          refine HREG.out.mono ?_
          rintro r w2 ⟨A2, rfl, hT, b2⟩
          go_wp2_with fail
          refine (HC.out w2 A2 hT).mono ?_
          rintro r w3 ⟨rfl, b3⟩
          have HB := Lib.hid ((hB.out.trans (b2.mono hB.out.size)).trans (b3.mono (Nat.le_trans hB.out.size b2.size)))
          have r0 : (w3.alloc (.cells #[.int .i64 1, .int .i64 0] 56)).cell? ⟨w3.heap.size, 0, none⟩ = some (.int .i64 1) := (Blk.new w3 56 #[.int .i64 1, .int .i64 0]).cell 0
          have r1 : (w3.alloc (.cells #[.int .i64 1, .int .i64 0] 56)).cell? ⟨w3.heap.size, 1, none⟩ = some (.int .i64 0) := (Blk.new w3 56 #[.int .i64 1, .int .i64 0]).cell 1
          clear b2 b3 hT
          go_wp2_with fail
          go_roundw
          case rel =>
            try rw [HJ.out]
            exact ⟨j + 1, 1, hlt, by omega, by rw [Int.natCast_add]; rfl, rfl, rfl, Lib.hid (HB.out.alloc HB.out.size _)⟩
          case measure =>
            try rw [HJ.out]
            show len - ((j : Int) + 1).toNat < len - ((j : Int)).toNat
            omega
        · have HC := Lib.hid (HCS.out _ (atV_some (c := (0, 4)) rfl))
          go_wp2_with fail
          refine HREG.out.mono ?_
          rintro r w2 ⟨A2, rfl, hT, b2⟩
          go_wp2_with fail
          refine (HC.out w2 A2 hT).mono ?_
          rintro r w3 ⟨rfl, b3⟩
          have HB := Lib.hid ((hB.out.trans (b2.mono hB.out.size)).trans (b3.mono (Nat.le_trans hB.out.size b2.size)))
          have r0 : (w3.alloc (.cells #[.int .i64 0, .int .i64 4] 56)).cell? ⟨w3.heap.size, 0, none⟩ = some (.int .i64 0) := (Blk.new w3 56 #[.int .i64 0, .int .i64 4]).cell 0
          have r1 : (w3.alloc (.cells #[.int .i64 0, .int .i64 4] 56)).cell? ⟨w3.heap.size, 1, none⟩ = some (.int .i64 4) := (Blk.new w3 56 #[.int .i64 0, .int .i64 4]).cell 1
          clear b2 b3 hT
          go_wp2_with fail
          go_roundw
          case rel =>
            try rw [HJ.out]
            exact ⟨j + 1, 0, hlt, by omega, by rw [Int.natCast_add]; rfl, rfl, rfl, Lib.hid (HB.out.alloc HB.out.size _)⟩
          case measure =>
            try rw [HJ.out]
            show len - ((j : Int) + 1).toNat < len - ((j : Int)).toNat
            omega
        · have HC := Lib.hid (HCS.out _ (atV_some (c := (0, 4)) rfl))
          go_wp2_with fail
          refine HREG.out.mono ?_
          rintro r w2 ⟨A2, rfl, hT, b2⟩
          go_wp2_with fail
          refine (HC.out w2 A2 hT).mono ?_
          rintro r w3 ⟨rfl, b3⟩
          have HB := Lib.hid ((hB.out.trans (b2.mono hB.out.size)).trans (b3.mono (Nat.le_trans hB.out.size b2.size)))
          have r0 : (w3.alloc (.cells #[.int .i64 0, .int .i64 4] 56)).cell? ⟨w3.heap.size, 0, none⟩ = some (.int .i64 0) := (Blk.new w3 56 #[.int .i64 0, .int .i64 4]).cell 0
          have r1 : (w3.alloc (.cells #[.int .i64 0, .int .i64 4] 56)).cell? ⟨w3.heap.size, 1, none⟩ = some (.int .i64 4) := (Blk.new w3 56 #[.int .i64 0, .int .i64 4]).cell 1
          clear b2 b3 hT
          go_wp2_with fail
          go_roundw
          case rel =>
            try rw [HJ.out]
            exact ⟨j + 1, 0, hlt, by omega, by rw [Int.natCast_add]; rfl, rfl, rfl, Lib.hid (HB.out.alloc HB.out.size _)⟩
          case measure =>
            try rw [HJ.out]
            show len - ((j : Int) + 1).toNat < len - ((j : Int)).toNat
            omega
        · have HC := Lib.hid (HCS.out _ (atV_some (c := (2, 0)) rfl))
          go_wp2_with fail
          refine HREG.out.mono ?_
          rintro r w2 ⟨A2, rfl, hT, b2⟩
          go_wp2_with fail
          refine (HC.out w2 A2 hT).mono ?_
          rintro r w3 ⟨rfl, b3⟩
          have HB := Lib.hid ((hB.out.trans (b2.mono hB.out.size)).trans (b3.mono (Nat.le_trans hB.out.size b2.size)))
          have r0 : (w3.alloc (.cells #[.int .i64 2, .int .i64 0] 56)).cell? ⟨w3.heap.size, 0, none⟩ = some (.int .i64 2) := (Blk.new w3 56 #[.int .i64 2, .int .i64 0]).cell 0
          have r1 : (w3.alloc (.cells #[.int .i64 2, .int .i64 0] 56)).cell? ⟨w3.heap.size, 1, none⟩ = some (.int .i64 0) := (Blk.new w3 56 #[.int .i64 2, .int .i64 0]).cell 1
          clear b2 b3 hT
          go_wp2_with fail
          go_roundw
          case rel =>
            try rw [HJ.out]
            exact ⟨j + 1, 2, hlt, by omega, by rw [Int.natCast_add]; rfl, rfl, rfl, Lib.hid (HB.out.alloc HB.out.size _)⟩
          case measure =>
            try rw [HJ.out]
            show len - ((j : Int) + 1).toNat < len - ((j : Int)).toNat
            omega
        · have HC := Lib.hid (HCS.out _ (atV_some (c := (1, 1)) rfl))
          go_wp2_with fail
          refine HREG.out.mono ?_
          rintro r w2 ⟨A2, rfl, hT, b2⟩
          go_wp2_with fail
          refine (HC.out w2 A2 hT).mono ?_
          rintro r w3 ⟨rfl, b3⟩
          have HB := Lib.hid ((hB.out.trans (b2.mono hB.out.size)).trans (b3.mono (Nat.le_trans hB.out.size b2.size)))
          have r0 : (w3.alloc (.cells #[.int .i64 1, .int .i64 1] 56)).cell? ⟨w3.heap.size, 0, none⟩ = some (.int .i64 1) := (Blk.new w3 56 #[.int .i64 1, .int .i64 1]).cell 0
          have r1 : (w3.alloc (.cells #[.int .i64 1, .int .i64 1] 56)).cell? ⟨w3.heap.size, 1, none⟩ = some (.int .i64 1) := (Blk.new w3 56 #[.int .i64 1, .int .i64 1]).cell 1
          clear b2 b3 hT
          go_wp2_with fail
          go_roundw
          case rel =>
            try rw [HJ.out]
            exact ⟨j + 1, 1, hlt, by omega, by rw [Int.natCast_add]; rfl, rfl, rfl, Lib.hid (HB.out.alloc HB.out.size _)⟩
          case measure =>
            try rw [HJ.out]
            show len - ((j : Int) + 1).toNat < len - ((j : Int)).toNat
            omega
        · have HC := Lib.hid (HCS.out _ (atV_some (c := (1, 1)) rfl))
          go_wp2_with fail
          refine HREG.out.mono ?_
          rintro r w2 ⟨A2, rfl, hT, b2⟩
          go_wp2_with fail
          refine (HC.out w2 A2 hT).mono ?_
          rintro r w3 ⟨rfl, b3⟩
          have HB := Lib.hid ((hB.out.trans (b2.mono hB.out.size)).trans (b3.mono (Nat.le_trans hB.out.size b2.size)))
          have r0 : (w3.alloc (.cells #[.int .i64 1, .int .i64 1] 56)).cell? ⟨w3.heap.size, 0, none⟩ = some (.int .i64 1) := (Blk.new w3 56 #[.int .i64 1, .int .i64 1]).cell 0
          have r1 : (w3.alloc (.cells #[.int .i64 1, .int .i64 1] 56)).cell? ⟨w3.heap.size, 1, none⟩ = some (.int .i64 1) := (Blk.new w3 56 #[.int .i64 1, .int .i64 1]).cell 1
          clear b2 b3 hT
          go_wp2_with fail
          go_roundw
          case rel =>
            try rw [HJ.out]
            exact ⟨j + 1, 1, hlt, by omega, by rw [Int.natCast_add]; rfl, rfl, rfl, Lib.hid (HB.out.alloc HB.out.size _)⟩
          case measure =>
            try rw [HJ.out]
            show len - ((j : Int) + 1).toNat < len - ((j : Int)).toNat
            omega
        · have HC := Lib.hid (HCS.out _ (atV_some (c := (2, 0)) rfl))
          go_wp2_with fail
          refine HREG.out.mono ?_
          rintro r w2 ⟨A2, rfl, hT, b2⟩
          go_wp2_with fail
          refine (HC.out w2 A2 hT).mono ?_
          rintro r w3 ⟨rfl, b3⟩
          have HB := Lib.hid ((hB.out.trans (b2.mono hB.out.size)).trans (b3.mono (Nat.le_trans hB.out.size b2.size)))
          have r0 : (w3.alloc (.cells #[.int .i64 2, .int .i64 0] 56)).cell? ⟨w3.heap.size, 0, none⟩ = some (.int .i64 2) := (Blk.new w3 56 #[.int .i64 2, .int .i64 0]).cell 0
          have r1 : (w3.alloc (.cells #[.int .i64 2, .int .i64 0] 56)).cell? ⟨w3.heap.size, 1, none⟩ = some (.int .i64 0) := (Blk.new w3 56 #[.int .i64 2, .int .i64 0]).cell 1
          clear b2 b3 hT
          go_wp2_with fail
          go_roundw
          case rel =>
            try rw [HJ.out]
            exact ⟨j + 1, 2, hlt, by omega, by rw [Int.natCast_add]; rfl, rfl, rfl, Lib.hid (HB.out.alloc HB.out.size _)⟩
          case measure =>
            try rw [HJ.out]
            show len - ((j : Int) + 1).toNat < len - ((j : Int)).toNat
            omega
        · have HC := Lib.hid (HCS.out _ (atV_some (c := (0, 4)) rfl))
          go_wp2_with fail
          refine HREG.out.mono ?_
          rintro r w2 ⟨A2, rfl, hT, b2⟩
          go_wp2_with fail
          refine (HC.out w2 A2 hT).mono ?_
          rintro r w3 ⟨rfl, b3⟩
          have HB := Lib.hid ((hB.out.trans (b2.mono hB.out.size)).trans (b3.mono (Nat.le_trans hB.out.size b2.size)))
          have r0 : (w3.alloc (.cells #[.int .i64 0, .int .i64 4] 56)).cell? ⟨w3.heap.size, 0, none⟩ = some (.int .i64 0) := (Blk.new w3 56 #[.int .i64 0, .int .i64 4]).cell 0
          have r1 : (w3.alloc (.cells #[.int .i64 0, .int .i64 4] 56)).cell? ⟨w3.heap.size, 1, none⟩ = some (.int .i64 4) := (Blk.new w3 56 #[.int .i64 0, .int .i64 4]).cell 1
          clear b2 b3 hT
          go_wp2_with fail
          go_roundw
          case rel =>
            try rw [HJ.out]
            exact ⟨j + 1, 0, hlt, by omega, by rw [Int.natCast_add]; rfl, rfl, rfl, Lib.hid (HB.out.alloc HB.out.size _)⟩
          case measure =>
            try rw [HJ.out]
            show len - ((j : Int) + 1).toNat < len - ((j : Int)).toNat
            omega
    · obtain rfl : len = j := by omega
      go_wp2_with fail
      go_ret
      exact ⟨rfl, hB.out⟩
set_option maxRecDepth 100000 in
theorem liftedTableEnds (os : Os) (started : os.Started) (H : Type) (enc : TypeId × Value → H) :
    ReturnsInHanded {} Try.checked os 8 .any (Rows.tableEndsSpec.pre6 enc Try.prog Try.f8 Rows.tableEndsRow.domain false) (Rows.tableEndsSpec.post enc Try.prog Try.f8 false true false false) := by
  refine returnsInHanded_of_change (C := Try.checked) own started (by kernel_rfl) Try.func8
    (ChangeSpec.witness6 (enc := enc) (C := Try.checked) false ⟨#[], #[.slice none 0 0], []⟩ 8 (by kernel_rfl) (by kernel_rfl) (by kernel_rfl) (by kernel_rfl)) ?_
  intro W base args ds gs before hval0 hW hcnd _
  have hval : ∀ (j : Nat) t v, Try.f8.params[j]? = some t → args[j]? = some v → Value.okWide Try.prog W .any base t v := hval0
  have hW' := hW
  obtain ⟨p, q, hA0, hV, rfl, hfz, hnd⟩ := hW
  have hA : DataW.TrodAll enc Try.prog W 0 (fun _ => true) true Try.f8.params.toList args.toList ds p := hA0
  rw [Try.params8] at hA hval
  obtain ⟨v0, vs0, d0, ds0, p0, q0, hargs, rfl, rfl, h0, r0⟩ := trodAll_cons hA
  obtain ⟨rfl, rfl, rfl⟩ := trodAll_nil r0
  obtain rfl : args = #[v0] := by cases args; simp_all
  obtain ⟨rfl, rfl⟩ := trodVars_none hV
  obtain ⟨a0, len0, cap0, rfl⟩ := okWide_slice Try.underlying22 (hval 0 22 v0 rfl rfl)
  have k0 := h0
  have lt0 : ∀ x ∈ p0, x.block < W.heap.size := by obtain ⟨m, hm⟩ := k0; exact DataW.trod_lt m _ _ _ hm
  obtain ⟨z0, w0⟩ : ∃ zs, IsRow .i64 W a0 len0 cap0 zs := by
    obtain ⟨fuel, hf⟩ := h0
    rcases open_ints Try.underlying22 Try.underlying3 (by kernel_rfl) hf with ⟨hcs, _⟩ | ⟨x, l, c, zs, hcs, _, hl, hm, hz, _, hcell, hwz⟩
    · simp [Value.cells] at hcs
      obtain ⟨rfl, rfl, rfl⟩ := hcs
      exact ⟨[], .inl ⟨rfl, rfl, rfl, rfl⟩⟩
    · simp [Value.cells] at hcs
      obtain ⟨rfl, rfl, rfl⟩ := hcs
      exact ⟨zs, .inr ⟨_, rfl, hl, hm, by simpa using hz, cell_lt hcell (by simpa using hz), hcell, hwz⟩⟩
  clear hA0 hval0
  refine (walkTableEnds a0 len0 cap0 z0 W w0).mono fun e W' ⟨he, bel⟩ => ?_
  subst he
  exact ⟨_, rfl, _, _, _, [], _, [], hW', trodAll_mk1 (shut_bool Try.underlying4 _), (trodAll_cons_mk (Below.trod laidOut (by kernel_rfl) (of_decide_eq_true (by kernel_rfl)) k0 bel lt0) trodAll_mk0), rfl, bel.frame _, fun h => by cases h⟩

theorem overTableEnds : Rows.tableEndsRow.holds Try.pinned (OpenSpec.ofChange Rows.tableEndsSpec) :=
  OpenClaim.holds_of_wide 8 Try.f8 rfl rfl rfl rfl rfl rfl rfl ⟨rfl, rfl, rfl, rfl, rfl⟩ rfl rfl rfl rfl rfl (by kernel_rfl) Try.func8 (by kernel_rfl)
    (of_decide_eq_true (by kernel_rfl)) (by unfold Func.isWrapper; first | (rw [if_pos (by decide +kernel)]; kernel_rfl) | (rw [if_neg (by decide +kernel)]; exact ⟨rfl, rfl⟩))
    (fun os started H enc _ => liftedTableEnds os started H enc)

/-- The statement. -/
theorem tableEnds_holds : Rows.TableEndsSaid := overTableEnds

#print axioms tableEnds_holds
end Go.Proofs.Ytkdnngcmiggoeaa
