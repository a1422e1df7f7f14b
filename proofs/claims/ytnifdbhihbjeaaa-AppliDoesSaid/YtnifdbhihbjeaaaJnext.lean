/- What the document's functions on layer 13's tables answer: the next state, the act. Its condition: a state and an event of the table. -/
import Derived.Test.YtnifdbhihbjeaaaJtab
import Derived.BigQuiet
namespace Go.Proofs.Ytnifdbhihbjeaaa
open Go.ChangeShapes Go.WideShapes Go.ChangeAt Go.RowKit
set_option maxRecDepth 100000

def docT : Bool → Tb
  | true => appT
  | false => regT
def docN : Bool → Nat
  | true => 5
  | false => 3
def docK : Bool → Nat
  | true => 6
  | false => 5
theorem doc_len (b : Bool) : (docT b).length = docN b := by cases b <;> rfl
theorem doc_row {b : Bool} {s : Nat} (h : s < docN b) : ((docT b).getD s []).length = docK b := by
  cases b
  · have : s = 0 ∨ s = 1 ∨ s = 2 := by simp only [docN] at h; omega
    rcases this with rfl | rfl | rfl <;> rfl
  · have : s = 0 ∨ s = 1 ∨ s = 2 ∨ s = 3 ∨ s = 4 := by simp only [docN] at h; omega
    rcases this with rfl | rfl | rfl | rfl | rfl <;> rfl
theorem doc_good (b : Bool) : goodT (docT b) = true := by cases b <;> decide +kernel
set_option maxHeartbeats 4000000 in
theorem next_any (b : Bool) (s e : Nat) (hs : s < docN b) (he : e < docK b) (w : World) : Calls Try.prog 26 #[.bool b, .int .i64 s, .int .i64 e] w fun r w' => r = .returned (.int .i64 (((docT b).getD s []).getD e ce0).1) ∧ w = w' := by
  cases b
  · have h1 : s = 0 ∨ s = 1 ∨ s = 2 := by simp only [docN] at hs; omega
    have h2 : e = 0 ∨ e = 1 ∨ e = 2 ∨ e = 3 ∨ e = 4 := by simp only [docK] at he; omega
    clear hs he
    rcases h1 with rfl | rfl | rfl
    · have hI : ∀ w0 : World, Sem.run Try.prog (Instr.index 54 (.agg #[.string { data := #[50, 48, 48, 48, 48] }, .string { data := #[50, 49, 49, 48, 48] }, .string { data := #[50, 49, 49, 50, 48] }]) (.int .i64 0)) w0 = .ok (.string { data := #[50, 48, 48, 48, 48] }) w0 := fun _ => rfl
      rcases h2 with rfl | rfl | rfl | rfl | rfl
      all_goals
        go_enter Try.func26, Try.ntmps26
        go_wp2_with fail
        go_ret
        exact ⟨rfl, rfl⟩
    · have hI : ∀ w0 : World, Sem.run Try.prog (Instr.index 54 (.agg #[.string { data := #[50, 48, 48, 48, 48] }, .string { data := #[50, 49, 49, 48, 48] }, .string { data := #[50, 49, 49, 50, 48] }]) (.int .i64 1)) w0 = .ok (.string { data := #[50, 49, 49, 48, 48] }) w0 := fun _ => rfl
      rcases h2 with rfl | rfl | rfl | rfl | rfl
      all_goals
        go_enter Try.func26, Try.ntmps26
        go_wp2_with fail
        go_ret
        exact ⟨rfl, rfl⟩
    · have hI : ∀ w0 : World, Sem.run Try.prog (Instr.index 54 (.agg #[.string { data := #[50, 48, 48, 48, 48] }, .string { data := #[50, 49, 49, 48, 48] }, .string { data := #[50, 49, 49, 50, 48] }]) (.int .i64 2)) w0 = .ok (.string { data := #[50, 49, 49, 50, 48] }) w0 := fun _ => rfl
      rcases h2 with rfl | rfl | rfl | rfl | rfl
      all_goals
        go_enter Try.func26, Try.ntmps26
        go_wp2_with fail
        go_ret
        exact ⟨rfl, rfl⟩
  · have h1 : s = 0 ∨ s = 1 ∨ s = 2 ∨ s = 3 ∨ s = 4 := by simp only [docN] at hs; omega
    have h2 : e = 0 ∨ e = 1 ∨ e = 2 ∨ e = 3 ∨ e = 4 ∨ e = 5 := by simp only [docK] at he; omega
    clear hs he
    rcases h1 with rfl | rfl | rfl | rfl | rfl
    · have hI : ∀ w0 : World, Sem.run Try.prog (Instr.index 55 (.agg #[.string { data := #[49, 48, 48, 48, 48, 49] }, .string { data := #[49, 52, 49, 49, 50, 49] }, .string { data := #[50, 52, 50, 50, 51, 49] }, .string { data := #[51, 52, 50, 50, 51, 49] }, .string { data := #[50, 52, 52, 52, 48, 49] }]) (.int .i64 0)) w0 = .ok (.string { data := #[49, 48, 48, 48, 48, 49] }) w0 := fun _ => rfl
      rcases h2 with rfl | rfl | rfl | rfl | rfl | rfl
      all_goals
        go_enter Try.func26, Try.ntmps26
        go_wp2_with fail
        go_ret
        exact ⟨rfl, rfl⟩
    · have hI : ∀ w0 : World, Sem.run Try.prog (Instr.index 55 (.agg #[.string { data := #[49, 48, 48, 48, 48, 49] }, .string { data := #[49, 52, 49, 49, 50, 49] }, .string { data := #[50, 52, 50, 50, 51, 49] }, .string { data := #[51, 52, 50, 50, 51, 49] }, .string { data := #[50, 52, 52, 52, 48, 49] }]) (.int .i64 1)) w0 = .ok (.string { data := #[49, 52, 49, 49, 50, 49] }) w0 := fun _ => rfl
      rcases h2 with rfl | rfl | rfl | rfl | rfl | rfl
      all_goals
        go_enter Try.func26, Try.ntmps26
        go_wp2_with fail
        go_ret
        exact ⟨rfl, rfl⟩
    · have hI : ∀ w0 : World, Sem.run Try.prog (Instr.index 55 (.agg #[.string { data := #[49, 48, 48, 48, 48, 49] }, .string { data := #[49, 52, 49, 49, 50, 49] }, .string { data := #[50, 52, 50, 50, 51, 49] }, .string { data := #[51, 52, 50, 50, 51, 49] }, .string { data := #[50, 52, 52, 52, 48, 49] }]) (.int .i64 2)) w0 = .ok (.string { data := #[50, 52, 50, 50, 51, 49] }) w0 := fun _ => rfl
      rcases h2 with rfl | rfl | rfl | rfl | rfl | rfl
      all_goals
        go_enter Try.func26, Try.ntmps26
        go_wp2_with fail
        go_ret
        exact ⟨rfl, rfl⟩
    · have hI : ∀ w0 : World, Sem.run Try.prog (Instr.index 55 (.agg #[.string { data := #[49, 48, 48, 48, 48, 49] }, .string { data := #[49, 52, 49, 49, 50, 49] }, .string { data := #[50, 52, 50, 50, 51, 49] }, .string { data := #[51, 52, 50, 50, 51, 49] }, .string { data := #[50, 52, 52, 52, 48, 49] }]) (.int .i64 3)) w0 = .ok (.string { data := #[51, 52, 50, 50, 51, 49] }) w0 := fun _ => rfl
      rcases h2 with rfl | rfl | rfl | rfl | rfl | rfl
      all_goals
        go_enter Try.func26, Try.ntmps26
        go_wp2_with fail
        go_ret
        exact ⟨rfl, rfl⟩
    · have hI : ∀ w0 : World, Sem.run Try.prog (Instr.index 55 (.agg #[.string { data := #[49, 48, 48, 48, 48, 49] }, .string { data := #[49, 52, 49, 49, 50, 49] }, .string { data := #[50, 52, 50, 50, 51, 49] }, .string { data := #[51, 52, 50, 50, 51, 49] }, .string { data := #[50, 52, 52, 52, 48, 49] }]) (.int .i64 4)) w0 = .ok (.string { data := #[50, 52, 52, 52, 48, 49] }) w0 := fun _ => rfl
      rcases h2 with rfl | rfl | rfl | rfl | rfl | rfl
      all_goals
        go_enter Try.func26, Try.ntmps26
        go_wp2_with fail
        go_ret
        exact ⟨rfl, rfl⟩
set_option maxHeartbeats 4000000 in
theorem act_any (b : Bool) (s e : Nat) (hs : s < docN b) (he : e < docK b) (w : World) : Calls Try.prog 25 #[.bool b, .int .i64 s, .int .i64 e] w fun r w' => r = .returned (.int .i64 (((docT b).getD s []).getD e ce0).2) ∧ w = w' := by
  cases b
  · have h1 : s = 0 ∨ s = 1 ∨ s = 2 := by simp only [docN] at hs; omega
    have h2 : e = 0 ∨ e = 1 ∨ e = 2 ∨ e = 3 ∨ e = 4 := by simp only [docK] at he; omega
    clear hs he
    rcases h1 with rfl | rfl | rfl
    · have hI : ∀ w0 : World, Sem.run Try.prog (Instr.index 54 (.agg #[.string { data := #[51, 48, 48, 48, 48] }, .string { data := #[50, 48, 48, 52, 52] }, .string { data := #[48, 49, 49, 48, 52] }]) (.int .i64 0)) w0 = .ok (.string { data := #[51, 48, 48, 48, 48] }) w0 := fun _ => rfl
      rcases h2 with rfl | rfl | rfl | rfl | rfl
      all_goals
        go_enter Try.func25, Try.ntmps25
        go_wp2_with fail
        go_ret
        exact ⟨rfl, rfl⟩
    · have hI : ∀ w0 : World, Sem.run Try.prog (Instr.index 54 (.agg #[.string { data := #[51, 48, 48, 48, 48] }, .string { data := #[50, 48, 48, 52, 52] }, .string { data := #[48, 49, 49, 48, 52] }]) (.int .i64 1)) w0 = .ok (.string { data := #[50, 48, 48, 52, 52] }) w0 := fun _ => rfl
      rcases h2 with rfl | rfl | rfl | rfl | rfl
      all_goals
        go_enter Try.func25, Try.ntmps25
        go_wp2_with fail
        go_ret
        exact ⟨rfl, rfl⟩
    · have hI : ∀ w0 : World, Sem.run Try.prog (Instr.index 54 (.agg #[.string { data := #[51, 48, 48, 48, 48] }, .string { data := #[50, 48, 48, 52, 52] }, .string { data := #[48, 49, 49, 48, 52] }]) (.int .i64 2)) w0 = .ok (.string { data := #[48, 49, 49, 48, 52] }) w0 := fun _ => rfl
      rcases h2 with rfl | rfl | rfl | rfl | rfl
      all_goals
        go_enter Try.func25, Try.ntmps25
        go_wp2_with fail
        go_ret
        exact ⟨rfl, rfl⟩
  · have h1 : s = 0 ∨ s = 1 ∨ s = 2 ∨ s = 3 ∨ s = 4 := by simp only [docN] at hs; omega
    have h2 : e = 0 ∨ e = 1 ∨ e = 2 ∨ e = 3 ∨ e = 4 ∨ e = 5 := by simp only [docK] at he; omega
    clear hs he
    rcases h1 with rfl | rfl | rfl | rfl | rfl
    · have hI : ∀ w0 : World, Sem.run Try.prog (Instr.index 55 (.agg #[.string { data := #[48, 48, 48, 48, 48, 48] }, .string { data := #[48, 48, 48, 48, 49, 48] }, .string { data := #[48, 48, 48, 48, 50, 48] }, .string { data := #[48, 48, 48, 48, 48, 48] }, .string { data := #[48, 48, 48, 48, 51, 48] }]) (.int .i64 0)) w0 = .ok (.string { data := #[48, 48, 48, 48, 48, 48] }) w0 := fun _ => rfl
      rcases h2 with rfl | rfl | rfl | rfl | rfl | rfl
      all_goals
        go_enter Try.func25, Try.ntmps25
        go_wp2_with fail
        go_ret
        exact ⟨rfl, rfl⟩
    · have hI : ∀ w0 : World, Sem.run Try.prog (Instr.index 55 (.agg #[.string { data := #[48, 48, 48, 48, 48, 48] }, .string { data := #[48, 48, 48, 48, 49, 48] }, .string { data := #[48, 48, 48, 48, 50, 48] }, .string { data := #[48, 48, 48, 48, 48, 48] }, .string { data := #[48, 48, 48, 48, 51, 48] }]) (.int .i64 1)) w0 = .ok (.string { data := #[48, 48, 48, 48, 49, 48] }) w0 := fun _ => rfl
      rcases h2 with rfl | rfl | rfl | rfl | rfl | rfl
      all_goals
        go_enter Try.func25, Try.ntmps25
        go_wp2_with fail
        go_ret
        exact ⟨rfl, rfl⟩
    · have hI : ∀ w0 : World, Sem.run Try.prog (Instr.index 55 (.agg #[.string { data := #[48, 48, 48, 48, 48, 48] }, .string { data := #[48, 48, 48, 48, 49, 48] }, .string { data := #[48, 48, 48, 48, 50, 48] }, .string { data := #[48, 48, 48, 48, 48, 48] }, .string { data := #[48, 48, 48, 48, 51, 48] }]) (.int .i64 2)) w0 = .ok (.string { data := #[48, 48, 48, 48, 50, 48] }) w0 := fun _ => rfl
      rcases h2 with rfl | rfl | rfl | rfl | rfl | rfl
      all_goals
        go_enter Try.func25, Try.ntmps25
        go_wp2_with fail
        go_ret
        exact ⟨rfl, rfl⟩
    · have hI : ∀ w0 : World, Sem.run Try.prog (Instr.index 55 (.agg #[.string { data := #[48, 48, 48, 48, 48, 48] }, .string { data := #[48, 48, 48, 48, 49, 48] }, .string { data := #[48, 48, 48, 48, 50, 48] }, .string { data := #[48, 48, 48, 48, 48, 48] }, .string { data := #[48, 48, 48, 48, 51, 48] }]) (.int .i64 3)) w0 = .ok (.string { data := #[48, 48, 48, 48, 48, 48] }) w0 := fun _ => rfl
      rcases h2 with rfl | rfl | rfl | rfl | rfl | rfl
      all_goals
        go_enter Try.func25, Try.ntmps25
        go_wp2_with fail
        go_ret
        exact ⟨rfl, rfl⟩
    · have hI : ∀ w0 : World, Sem.run Try.prog (Instr.index 55 (.agg #[.string { data := #[48, 48, 48, 48, 48, 48] }, .string { data := #[48, 48, 48, 48, 49, 48] }, .string { data := #[48, 48, 48, 48, 50, 48] }, .string { data := #[48, 48, 48, 48, 48, 48] }, .string { data := #[48, 48, 48, 48, 51, 48] }]) (.int .i64 4)) w0 = .ok (.string { data := #[48, 48, 48, 48, 51, 48] }) w0 := fun _ => rfl
      rcases h2 with rfl | rfl | rfl | rfl | rfl | rfl
      all_goals
        go_enter Try.func25, Try.ntmps25
        go_wp2_with fail
        go_ret
        exact ⟨rfl, rfl⟩
end Go.Proofs.Ytnifdbhihbjeaaa
