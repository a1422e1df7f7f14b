/- What a walk is told of a slice of numbers, wherever it came from; packed and unpacked texts as strings. No condition. -/
import Derived.Test.YtoigapanhbmjlaaPkMath
import Derived.Test.YtoigapanhbmjlaaFrame
namespace Go.Proofs.Ytoigapanhbmjlaa
open Go.RowKit

/-- The first n numbers of the slice at A are those of f; they lie below block B. -/
def Nums (w : World) (B : Nat) (A : Option Addr) (n : Nat) (f : Nat → Int) : Prop :=
  ∀ k, k < n → ∃ b off, A = some ⟨b, off, none⟩ ∧ b < B ∧ w.cell? ⟨b, off + k, none⟩ = some (.int .i64 (f k))
section
variable {w w' : World} {A : Option Addr} {n B : Nat} {f : Nat → Int}
theorem Nums.of_row {cap : Nat} {zs : List Int} (h : IsRow .i64 w A n cap zs) : Nums w w.heap.size A n (fun k => zs.getD k 0) := fun _ hk => h.at_ hk
theorem Nums.below (h : Nums w B A n f) (hb : Below B w w') : Nums w' B A n f := fun k hk => by
  obtain ⟨b, off, e, hl, hc⟩ := h k hk
  exact ⟨b, off, e, hl, (hb.cell (p := ⟨b, off + k, none⟩) hl).trans hc⟩
theorem Nums.more {B' : Nat} (h : Nums w B A n f) (hB : B ≤ B') : Nums w B' A n f := fun k hk => by
  obtain ⟨b, off, e, hl, hc⟩ := h k hk
  exact ⟨b, off, e, by omega, hc⟩
theorem Nums.congr {g : Nat → Int} (h : Nums w B A n f) (hg : ∀ k, k < n → f k = g k) : Nums w B A n g := fun k hk => by
  rw [← hg k hk]
  exact h k hk
end

/-- A text as a string. -/
def str (l : List UInt8) : ByteArray := ⟨l.toArray⟩
theorem str_size (l : List UInt8) : (str l).size = l.length := by show l.toArray.size = _; simp
theorem str_of (s : ByteArray) : str s.data.toList = s := by
  apply ByteArray.ext
  simp [str]
theorem str_list (l : List UInt8) : (str l).data.toList = l := by simp [str]
theorem str_append (l m : List UInt8) : str l ++ str m = str (l ++ m) := by
  apply ByteArray.ext
  simp [str]



set_option maxHeartbeats 1000000 in
theorem size_any (n L K : Nat) (w : World) (hLK : LK L K) (hn : n ≤ 4611686018427387904) :
    Calls Try.prog 68 #[.int .i64 n, .int .i64 L] w fun e w' => e = .returned (.int .i64 (sz n L)) ∧ w = w' := by
  have hs := sz_cases n L K hLK
  rcases hLK with ⟨rfl, rfl⟩ | ⟨rfl, rfl⟩
  all_goals
    simp only [Int.cast_ofNat_Int]
    split at hs
    all_goals
      have HS := Lib.hid hs
      clear hs
      go_enter Try.func68, Try.ntmps68
      go_wp2
      go_ret
      exact ⟨ret_i64 (by rw [HS.out]; omega), rfl⟩

set_option maxHeartbeats 1000000 in
theorem unlike_any (L K : Nat) (w : World) (hLK : LK L K) :
    Calls Try.prog 71 #[.int .i64 L, .int .i64 K] w fun e w' => e = .returned (.int .i64 ((K ^ L : Nat) : Int)) ∧ w = w' := by
  rcases hLK with ⟨rfl, rfl⟩ | ⟨rfl, rfl⟩
  · simp only [Int.cast_ofNat_Int]
    go_enter Try.func71, Try.ntmps71
    go_wp2
    go_loop [5, 7] (fun u i => (i = .int .i64 0 ∧ u = .int .i64 1) ∨ (i = .int .i64 1 ∧ u = .int .i64 6) ∨ (i = .int .i64 2 ∧ u = .int .i64 36) ∨ (i = .int .i64 3 ∧ u = .int .i64 216)) (fun _ i => 3 - (intOf i).toNat)
    case atStart => exact .inl ⟨rfl, rfl⟩
    case round =>
      rcases hrel with ⟨rfl, rfl⟩ | ⟨rfl, rfl⟩ | ⟨rfl, rfl⟩ | ⟨rfl, rfl⟩
      · go_wp2
        go_round
        case rel => exact .inr (.inl ⟨rfl, rfl⟩)
        case measure => decide
      · go_wp2
        go_round
        case rel => exact .inr (.inr (.inl ⟨rfl, rfl⟩))
        case measure => decide
      · go_wp2
        go_round
        case rel => exact .inr (.inr (.inr (⟨rfl, rfl⟩)))
        case measure => decide
      · go_wp2
        go_ret
        exact ⟨rfl, rfl⟩
  · simp only [Int.cast_ofNat_Int]
    go_enter Try.func71, Try.ntmps71
    go_wp2
    go_loop [5, 7] (fun u i => (i = .int .i64 0 ∧ u = .int .i64 1) ∨ (i = .int .i64 1 ∧ u = .int .i64 4) ∨ (i = .int .i64 2 ∧ u = .int .i64 16) ∨ (i = .int .i64 3 ∧ u = .int .i64 64) ∨ (i = .int .i64 4 ∧ u = .int .i64 256)) (fun _ i => 4 - (intOf i).toNat)
    case atStart => exact .inl ⟨rfl, rfl⟩
    case round =>
      rcases hrel with ⟨rfl, rfl⟩ | ⟨rfl, rfl⟩ | ⟨rfl, rfl⟩ | ⟨rfl, rfl⟩ | ⟨rfl, rfl⟩
      · go_wp2
        go_round
        case rel => exact .inr (.inl ⟨rfl, rfl⟩)
        case measure => decide
      · go_wp2
        go_round
        case rel => exact .inr (.inr (.inl ⟨rfl, rfl⟩))
        case measure => decide
      · go_wp2
        go_round
        case rel => exact .inr (.inr (.inr (.inl ⟨rfl, rfl⟩)))
        case measure => decide
      · go_wp2
        go_round
        case rel => exact .inr (.inr (.inr (.inr (⟨rfl, rfl⟩))))
        case measure => decide
      · go_wp2
        go_ret
        exact ⟨rfl, rfl⟩
theorem unlike3 (w : World) : Calls Try.prog 71 #[.int .i64 3, .int .i64 6] w fun e w' => e = .returned (.int .i64 216) ∧ w = w' := unlike_any 3 6 w (by unfold LK; decide)
theorem unlike4 (w : World) : Calls Try.prog 71 #[.int .i64 4, .int .i64 4] w fun e w' => e = .returned (.int .i64 256) ∧ w = w' := unlike_any 4 4 w (by unfold LK; decide)
theorem unlike3q (w : World) : Calls Try.prog 71 #[.int .i64 3, .int .i64 6] w fun e w' => e = .returned (.int .i64 216) ∧ w' = w := (unlike3 w).mono fun _ _ h => ⟨h.1, h.2.symm⟩
theorem unlike4q (w : World) : Calls Try.prog 71 #[.int .i64 4, .int .i64 4] w fun e w' => e = .returned (.int .i64 256) ∧ w' = w := (unlike4 w).mono fun _ _ h => ⟨h.1, h.2.symm⟩
end Go.Proofs.Ytoigapanhbmjlaa
