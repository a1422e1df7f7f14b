/- What every law of pack asks first: the call answers true. No condition. -/
import Derived.Test.YtbppipanonmcmaaPkCalls
namespace Go.Proofs.Ytbppipanonmcmaa
open Go.RowKit

theorem rows_123 : str (rows 3 6 (fun k => k + 1) 3 (sz 3 3)) = str [51] := by rfl

theorem size4_5 (w : World) : Calls Try.prog 16 #[.int .i64 5] w fun e w' => e = .returned (.int .i64 2) ∧ w = w' := size4_any 5 w (by omega)

set_option maxHeartbeats 1000000 in
theorem alive_any (w : World) : Calls Try.prog 8 #[] w fun e w' => e = .returned (.bool true) ∧ Below w.heap.size w w' := by
  have hb0 := Blk.new w 3 #[.int .i64 1, .int .i64 2, .int .i64 3]
  have hA : Nums (w.alloc (.cells #[.int .i64 1, .int .i64 2, .int .i64 3] 3)) (w.alloc (.cells #[.int .i64 1, .int .i64 2, .int .i64 3] 3)).heap.size (some ⟨w.heap.size, 0, none⟩) 3 (fun k => ((k + 1 : Nat) : Int)) := by
    intro k hk
    refine ⟨w.heap.size, 0, rfl, hb0.lt, ?_⟩
    rw [Nat.zero_add]
    refine (hb0.cell k).trans ?_
    rcases (show k = 0 ∨ k = 1 ∨ k = 2 from by omega) with rfl | rfl | rfl <;> rfl
  have hcall := threes_any _ 3 3 _ (fun k => k + 1) 3 _ (by omega) hA (Nat.le_refl _) (fun _ _ => rfl) (fun k hk => by show k + 1 < 6; omega) (fun h => absurd h (Nat.lt_irrefl _))
  have HC := Lib.hid hcall
  have hw1 := (Below.refl w.heap.size w).alloc (Nat.le_refl _) (.cells #[.int .i64 1, .int .i64 2, .int .i64 3] 3)
  clear hcall hA hb0
  go_enter Try.func8, Try.ntmps8
  go_wp2_with fail
  refine HC.out.mono ?_
  rintro e w1 ⟨hE, b1⟩
  rcases hE with ⟨_, rfl⟩ | ⟨hh, _⟩
  · have b2 := hw1.trans (b1.mono (by simp))
    rw [rows_123]
    have e51 : ((str [51]).toList == [51]) = true := by rw [ByteArray.toList_eq, str_list]; rfl
    clear b1 hw1
    go_wp2_with fail
    with_reducible refine (size4_5 _).mono ?_
    rintro e w2 ⟨rfl, rfl⟩
    go_wp2_with fail
    go_ret
    exact ⟨rfl, b2⟩
  · exact absurd hh (Nat.lt_irrefl _)
/-- Are the bytes the same? Just if the lists are. -/
theorem same_bytes (L K : Nat) (hLK : LK L K) (n : Nat) (f g : Nat → Int) (hf : ∀ k, k < n → f k = (nat f k : Int)) (hg : ∀ k, k < n → g k = (nat g k : Int)) (hF : Kinds K (nat f) n) (hG : Kinds K (nat g) n) :
    ((str (rows L K (nat f) n (sz n L))).toList == (str (rows L K (nat g) n (sz n L))).toList) = sameB n n f g := by
  rw [ByteArray.toList_eq, ByteArray.toList_eq, str_list, str_list]
  by_cases h : ∀ k, k < n → f k = g k
  · rw [sameB_yes rfl h]
    rw [rows_congr L K (nat f) (nat g) n (fun k hk => by unfold nat; rw [h k hk])]
    exact beq_self_eq_true _
  · have hne : rows L K (nat f) n (sz n L) ≠ rows L K (nat g) n (sz n L) := fun e => h fun k hk => by
      rw [hf k hk, hg k hk, rows_inj L K (nat f) (nat g) n hLK hF hG e k hk]
    have : sameB n n f g = false := by
      simp only [sameB, decide_eq_false_iff_not]
      exact fun hh => h hh.2
    rw [this]
    exact beq_eq_false_iff_ne.2 hne
end Go.Proofs.Ytbppipanonmcmaa
