/- Two rows of the same numbers are the same, as the document's Same answers. No condition. -/
import Derived.Test.YtkdnngcmiggoeaaJnums
namespace Go.Proofs.Ytkdnngcmiggoeaa
open Go.RowKit
set_option maxRecDepth 100000

set_option maxHeartbeats 1000000 in
theorem same_eq (A B : Option Addr) (ca cb : Nat) (l : List Int) (n : Nat) (hn : l.length = n) (hm : n ≤ maxLen) (w : World) (hA : EvAt w w.heap.size A l) (hB : EvAt w w.heap.size B l) :
    Calls Try.prog 29 #[.slice A n ca, .slice B n cb] w fun e w' => e = .returned (.bool true) ∧ Below w.heap.size w w' := by
  have HN := Lib.hid (And.intro hn hm)
  have HA := Lib.hid hA
  have HB := Lib.hid hB
  clear hn hm hA hB
  go_enter Try.func29, Try.ntmps29
  go_wp2_with fail
  go_loopw [13] (fun iv wr => ∃ j : Nat, j ≤ n ∧ iv = .int .i64 j ∧ Hid (Below w.heap.size w wr)) (fun iv _ => n - (intOf iv).toNat)
  case atStart => exact ⟨0, Nat.zero_le _, rfl, Lib.hid (Below.refl _ _)⟩
  case round =>
    obtain ⟨j, hj, rfl, hQ⟩ := hrel
    by_cases hlt : j < n
    · have j1 : (j : Int) < n := by omega
      have j0 : (0 : Int) ≤ j := by omega
      have HJ := Lib.hid (show wrap64 ((j : Int) + 1) = (j : Int) + 1 from IntWalk.wrap64_in _ (by have := HN.out.2; unfold maxLen at this; omega))
      obtain ⟨ga, oa, ea, hba, pa⟩ := HA.out j (by rw [HN.out.1]; exact hlt)
      obtain ⟨gb, ob, eb, hbb, pb⟩ := HB.out j (by rw [HN.out.1]; exact hlt)
      subst ea eb
      obtain ⟨x, hx⟩ : ∃ x, l.getD j 0 = x := ⟨_, rfl⟩
      rw [hx] at pa pb
      have qa : wr.cell? ⟨ga, oa + j, none⟩ = some (.int .i64 x) := (hQ.out.cell (p := ⟨ga, oa + j, none⟩) hba).trans pa
      have qb : wr.cell? ⟨gb, ob + j, none⟩ = some (.int .i64 x) := (hQ.out.cell (p := ⟨gb, ob + j, none⟩) hbb).trans pb
      have HQD := Lib.hid (show Below w.heap.size w wr.drew from ⟨hQ.out.os, hQ.out.tape, hQ.out.output, hQ.out.size, hQ.out.block⟩)
      clear pa pb hba hbb hx
      go_wp2_with fail
      go_big_region
      go_wp2_with fail
      go_roundw
      case rel =>
        rw [HJ.out]
        exact ⟨j + 1, hlt, by rw [Int.natCast_add]; rfl, HQD⟩
      case measure =>
        rw [HJ.out]
        show n - ((j : Int) + 1).toNat < n - ((j : Int)).toNat
        omega
    · obtain rfl : n = j := by omega
      go_wp2_with fail
      go_ret
      exact ⟨rfl, hQ.out⟩
end Go.Proofs.Ytkdnngcmiggoeaa
