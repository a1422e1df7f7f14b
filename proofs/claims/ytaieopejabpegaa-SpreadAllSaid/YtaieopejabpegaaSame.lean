/- Rows of numbers wherever they lie, and the document's Same of two. No condition but bounds on lengths. -/
import Derived.Test.YtaieopejabpegaaRows
import Derived.Test.YtaieopejabpegaaFrame
import Derived.Deep.OwnRows
import Derived.Laws.IdiomStrings
import Derived.Deep.AppendLies
namespace Go.Proofs.Ytaieopejabpegaa
open Go.RowKit

/-- The first n numbers of the slice at A are those of f; they lie below block B. -/
def Nums (w : World) (B : Nat) (A : Option Addr) (n : Nat) (f : Nat → Int) : Prop :=
  ∀ k, k < n → ∃ b off, A = some ⟨b, off, none⟩ ∧ b < B ∧ w.cell? ⟨b, off + k, none⟩ = some (.int .i64 (f k))
section
variable {w w' : World} {A : Option Addr} {n B : Nat} {f : Nat → Int}
theorem Nums.of_row {cap : Nat} {zs : List Int} (h : IsRow .i64 w A n cap zs) : Nums w w.heap.size A n (fun k => zs.getD k 0) := fun _ hk => h.at_ hk
theorem Nums.below (h : Nums w B A n f) (hb : Below B w w') : Nums w' B A n f := fun k hk => by
  obtain ⟨b, off, e, hl, hc⟩ := h k hk
  exact ⟨b, off, e, hl, (hb.cell (p := ⟨b, off + k, none⟩) hl).trans hc⟩
theorem Nums.more {B' : Nat} (h : Nums w B A n f) (hB : B ≤ B') : Nums w B' A n f := fun k hk => by
  obtain ⟨b, off, e, hl, hc⟩ := h k hk
  exact ⟨b, off, e, by omega, hc⟩
theorem Nums.congr {g : Nat → Int} (h : Nums w B A n f) (hg : ∀ k, k < n → f k = g k) : Nums w B A n g := fun k hk => by
  rw [← hg k hk]
  exact h k hk
end

theorem drewN_more {w wr : World} (h : ∃ q, wr = w.drewN q) (n : Nat) : ∃ q, wr.drewN n = w.drewN q := by
  obtain ⟨q, rfl⟩ := h
  exact ⟨q + n, World.drewN_drewN _ _ _⟩
/-- Are two lists the same? -/
def sameB (n m : Nat) (f g : Nat → Int) : Bool := decide (n = m ∧ ∀ k, k < n → f k = g k)
theorem sameB_no {n m : Nat} {f g : Nat → Int} (h : ¬ n = m) : sameB n m f g = false := by simp [sameB, h]
theorem sameB_off {n m k : Nat} {f g : Nat → Int} (hk : k < n) (h : f k ≠ g k) : sameB n m f g = false := by
  simp only [sameB, decide_eq_false_iff_not]
  exact fun hh => h (hh.2 k hk)
theorem sameB_yes {n m : Nat} {f g : Nat → Int} (h : n = m) (hf : ∀ k, k < n → f k = g k) : sameB n m f g = true := by simp only [sameB, decide_eq_true_eq]; exact ⟨h, hf⟩

set_option maxHeartbeats 1000000 in
theorem same_any (A C : Option Addr) (n m c d : Nat) (f g : Nat → Int) (B : Nat) (w : World) (hn : n ≤ 1048576) (hA : Nums w B A n f) (hC : Nums w B C m g) :
    Calls Try.prog 15 #[.slice A n c, .slice C m d] w fun e w' => e = .returned (.bool (sameB n m f g)) ∧ ∃ q, w' = w.drewN q := by
  by_cases h : n = m
  · subst h
    have d1 : (n == n) = true := by simp
    go_enter Try.func15, Try.ntmps15
    go_wp2_with fail
    go_loopw [13] (fun i wr => ∃ k : Nat, k ≤ n ∧ i = .int .i64 k ∧ (∀ r, r < k → f r = g r) ∧ Hid (∃ q, wr = w.drewN q)) (fun i _ => n - (intOf i).toNat)
    case atStart => exact ⟨0, Nat.zero_le _, rfl, fun r hr => absurd hr (Nat.not_lt_zero _), Lib.hid ⟨0, rfl⟩⟩
    case round =>
      obtain ⟨k, hk, rfl, hf, hW⟩ := hrel
      by_cases hlt : k < n
      · obtain ⟨b, off, rfl, hbl, hc⟩ := hA k hlt
        obtain ⟨b', off', rfl, hbl', hc'⟩ := hC k hlt
        have c0 : wr.cell? ⟨b, off + k, none⟩ = some (.int .i64 (f k)) := by obtain ⟨q, e⟩ := hW.out; rw [e]; exact hc
        have c1 : wr.cell? ⟨b', off' + k, none⟩ = some (.int .i64 (g k)) := by obtain ⟨q, e⟩ := hW.out; rw [e]; exact hc'
        have HF := Lib.hid hf
        clear hc hc' hf
        by_cases e : f k = g k
        · have HE := Lib.hid e
          rw [← e] at c1
          clear e
          generalize f k = z at c0 c1
          have e1 : (z != z) = false := by simp
          go_wp2_with fail
          go_quiet (fail)
          go_wp2_with fail
          go_roundw
          case rel => exact ⟨k + 1, by omega, by go_num, fun r hr => by
            by_cases e : r = k
            · subst e; exact HE.out
            · exact HF.out r (by omega), Lib.hid (drewN_more hW.out nq)⟩
          case measure => simp [intOf]; omega
        · have HE := Lib.hid (sameB_off (m := n) hlt e)
          generalize f k = z at c0 e
          generalize g k = y at c1 e
          have e1 : (z == y) = false := by simpa using e
          have e2 : (z != y) = true := by simpa using e
          clear e
          go_wp2_with fail
          go_quiet (fail)
          go_wp2_with fail
          go_ret
          exact ⟨ret_bool HE.out.symm, drewN_more hW.out nq⟩
      · obtain rfl : k = n := by omega
        have HE := Lib.hid (sameB_yes rfl hf)
        clear hf
        go_wp2_with fail
        go_ret
        exact ⟨ret_bool HE.out.symm, hW.out⟩
  · have HE := Lib.hid (sameB_no (f := f) (g := g) h)
    have d1 : (n == m) = false := by simpa using h
    have d2 : (n != m) = true := by simpa using h
    clear h hA hC
    go_enter Try.func15, Try.ntmps15
    go_wp2_with fail
    go_ret
    exact ⟨ret_bool HE.out.symm, 0, rfl⟩
end Go.Proofs.Ytaieopejabpegaa
