/- What the statements of stage 13 ask first; a table that is too large. No condition. -/
import Derived.Test.YtkdnngcmiggoeaaJrun
namespace Go.Proofs.Ytkdnngcmiggoeaa
open Go.RowKit
set_option maxRecDepth 100000

theorem OwnC.cells {w : World} {base c : Nat} {A : Option Addr} {l : List Ce} (h : OwnC w base A c l) : CrAt w w.heap.size A l := fun k hk => by
  obtain ⟨b, e, hb, hc⟩ := own_at h (by omega)
  obtain ⟨p, q⟩ := cesL_at l k hk
  exact ⟨b, 0, e, hb, by rw [Nat.zero_add]; exact hc _ _ p, by rw [Nat.zero_add]; exact hc _ _ q⟩
theorem EvAt.blk {w : World} {g B : Nat} {t : TypeId} {cs : Array Value} {l : List Int} (h : Blk w g t cs) (hg : g < B) (e : cs = (l.map (Value.int .i64)).toArray) : EvAt w B (some ⟨g, 0, none⟩) l := fun k hk => by
  subst e
  refine ⟨g, 0, rfl, hg, ?_⟩
  rw [h.cell, Nat.zero_add, List.getElem?_toArray, List.getElem?_map, List.getD_eq_getElem?_getD, List.getElem?_eq_getElem hk]
  rfl
set_option maxHeartbeats 2000000 in
theorem alive13_any (w : World) : Calls Try.prog 18 #[] w fun e w' => e = .returned (.bool true) ∧ Below w.heap.size w w' := by
  go_enter Try.func18, Try.ntmps18
  go_wp2_with fail
  refine (reg_any _).mono ?_
  rintro e w1 ⟨A, rfl, hT, b1⟩
  go_wp2_with fail
  have hE : EvAt (w1.alloc (.cells #[.int .i64 0, .int .i64 1, .int .i64 3] 3)) (w1.alloc (.cells #[.int .i64 0, .int .i64 1, .int .i64 3] 3)).heap.size (some ⟨w1.heap.size, 0, none⟩) [0, 1, 3] := EvAt.blk (Blk.new w1 3 _) (by simp) rfl
  have hT2 := hT.keep (bel_alloc w1 (.cells #[.int .i64 0, .int .i64 1, .int .i64 3] 3)) (bel_alloc w1 (.cells #[.int .i64 0, .int .i64 1, .int .i64 3] 3)).size
  refine (run_any _ A 3 regT 0 (some ⟨w1.heap.size, 0, none⟩) 3 [0, 1, 3] hT2 hE (by decide)).mono ?_
  rintro e w2 ⟨A', c', rfl, ho, b2⟩
  have b02 : Below w.heap.size w w2 := (b1.trans ((bel_alloc w1 (.cells #[.int .i64 0, .int .i64 1, .int .i64 3] 3)).mono b1.size)).trans (b2.mono (by simp; have := b1.size; omega))
  have HB := Lib.hid b02
  obtain ⟨bb, hA, hbl, hc⟩ := own_at ho (by decide)
  subst hA
  have r0 : w2.cell? ⟨bb, 0, none⟩ = some (.int .i64 2) := hc 0 _ rfl
  have r2 : w2.cell? ⟨bb, 2, none⟩ = some (.int .i64 1) := hc 2 _ rfl
  have r4 : w2.cell? ⟨bb, 4, none⟩ = some (.int .i64 0) := hc 4 _ rfl
  have r5 : w2.cell? ⟨bb, 5, none⟩ = some (.int .i64 4) := hc 5 _ rfl
  rw [show (runT regT 0 [0, 1, 3]).length = 3 from rfl]
  clear b1 hE hT2 hT ho b2 b02 hc hbl
  go_wp2_with fail
  go_ret
  exact ⟨rfl, HB.out⟩
def greatT (t : Tb) : Bool := t.any (fun r => decide (20 < r.length)) || decide (20 < t.length)
theorem greatT_row {t : Tb} {j : Nat} (hj : j < t.length) (h : 20 < (t.getD j []).length) : greatT t = true := by
  unfold greatT
  rw [List.getD_eq_getElem?_getD, List.getElem?_eq_getElem hj] at h
  rw [Bool.or_eq_true]
  exact .inl (List.any_eq_true.2 ⟨t[j], List.getElem_mem hj, by simpa using h⟩)
theorem greatT_all {t : Tb} (h : ∀ j, j < t.length → ¬ 20 < (t.getD j []).length) : greatT t = decide (20 < t.length) := by
  unfold greatT
  rw [show t.any (fun r => decide (20 < r.length)) = false from ?_, Bool.false_or]
  rw [List.any_eq_false]
  intro r hr
  obtain ⟨i, hi, rfl⟩ := List.getElem_of_mem hr
  have := h i hi
  rw [List.getD_eq_getElem?_getD, List.getElem?_eq_getElem hi] at this
  simpa using this
set_option maxHeartbeats 2000000 in
theorem great13_any (w : World) (A : Option Addr) (c : Nat) (t : Tb) (ht : TbAt w w.heap.size A t) (hl : t.length ≤ maxLen) :
    Calls Try.prog 26 #[.slice A t.length c] w fun e w' => e = .returned (.bool (greatT t)) ∧ Below w.heap.size w w' := by
  obtain ⟨n, hn⟩ : ∃ n, t.length = n := ⟨_, rfl⟩
  obtain ⟨g, hg⟩ : ∃ g, greatT t = g := ⟨_, rfl⟩
  rw [hn] at hl ⊢
  rw [hg]
  have HT := Lib.hid ht
  have HN := Lib.hid hn
  have HL := Lib.hid hl
  have HG := Lib.hid hg
  clear ht hn hl hg
  go_enter Try.func26, Try.ntmps26
  go_wp2_with fail
  go_loopw [7] (fun iv wr => ∃ j : Nat, j ≤ n ∧ iv = .int .i64 j ∧ Hid (∀ r, r < j → ¬ 20 < (t.getD r []).length) ∧ Hid (Below w.heap.size w wr)) (fun iv _ => n - (intOf iv).toNat)
  case atStart => exact ⟨0, Nat.zero_le _, rfl, Lib.hid (fun r hr => absurd hr (Nat.not_lt_zero _)), Lib.hid (Below.refl _ _)⟩
  case round =>
    obtain ⟨j, hj, rfl, hf, hB⟩ := hrel
    by_cases hlt : j < n
    · have j1 : (j : Int) < n := by omega
      have j0 : (0 : Int) ≤ j := by omega
      have HJ := Lib.hid (show wrap64 ((j : Int) + 1) = (j : Int) + 1 from IntWalk.wrap64_in _ (by have := HL.out; unfold maxLen at this; omega))
      obtain ⟨b, off, a, cc, rfl, hbl, p, _⟩ := HT.out j (by rw [HN.out]; exact hlt)
      obtain ⟨m, hm⟩ : ∃ m, (t.getD j []).length = m := ⟨_, rfl⟩
      rw [hm] at p
      have q := (hB.out.cell (p := ⟨b, off + j, none⟩) hbl).trans p
      have HM := Lib.hid hm
      clear p hbl hm
      by_cases h20 : 20 < m
      · have HR := Lib.hid (show true = g by rw [← HG.out, greatT_row (j := j) (by rw [HN.out]; exact hlt) (by rw [HM.out]; exact h20)])
        go_wp2_with fail
        go_ret
        exact ⟨ret_bool HR.out, hB.out⟩
      · have HF := Lib.hid (show ∀ r, r < j + 1 → ¬ 20 < (t.getD r []).length from fun r hr => by
          by_cases e : r = j
          · rw [e, HM.out]; exact h20
          · exact hf.out r (by omega))
        go_wp2_with fail
        go_roundw
        case rel =>
          rw [HJ.out]
          exact ⟨j + 1, hlt, by rw [Int.natCast_add]; rfl, HF, hB⟩
        case measure =>
          rw [HJ.out]
          show n - ((j : Int) + 1).toNat < n - ((j : Int)).toNat
          omega
    · obtain rfl : n = j := by omega
      have HR := Lib.hid (show decide ((n : Int) > 20) = g by
        rw [← HG.out, greatT_all (by rw [HN.out]; exact hf.out), HN.out]
        by_cases h : 20 < n
        · rw [decide_eq_true h, decide_eq_true (by omega)]
        · rw [decide_eq_false h, decide_eq_false (by omega)])
      by_cases h20 : (n : Int) > 20
      · rw [decide_eq_true h20] at HR
        go_wp2_with fail
        go_ret
        exact ⟨ret_bool HR.out, hB.out⟩
      · rw [decide_eq_false h20] at HR
        go_wp2_with fail
        go_ret
        exact ⟨ret_bool HR.out, hB.out⟩
end Go.Proofs.Ytkdnngcmiggoeaa
