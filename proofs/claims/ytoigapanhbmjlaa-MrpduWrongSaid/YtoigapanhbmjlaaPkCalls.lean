/- pack's calls, the document's Same, and what the laws ask first. Their condition: at most 2^20 numbers. -/
import Derived.Test.YtoigapanhbmjlaaPkUnpacked
import Derived.Test.YtoigapanhbmjlaaPkRef
namespace Go.Proofs.Ytoigapanhbmjlaa
open Go.RowKit

/-- The first number that is none, if there is one. -/
theorem first_bad (K : Nat) (f : Nat → Int) (n : Nat) : ∃ p, p ≤ n ∧ (∀ k, k < p → 0 ≤ f k ∧ f k < (K : Int)) ∧ (p < n → f p < 0 ∨ (K : Int) ≤ f p) := by
  induction n with
  | zero => exact ⟨0, Nat.le_refl _, fun k hk => absurd hk (Nat.not_lt_zero _), fun h => absurd h (Nat.not_lt_zero _)⟩
  | succ n ih =>
    obtain ⟨p, h1, h2, h3⟩ := ih
    by_cases hp : p < n
    · exact ⟨p, by omega, h2, fun _ => h3 hp⟩
    · obtain rfl : p = n := by omega
      by_cases hb : f p < 0 ∨ (K : Int) ≤ f p
      · exact ⟨p, by omega, h2, fun _ => hb⟩
      · refine ⟨p + 1, Nat.le_refl _, fun k hk => ?_, fun h => by omega⟩
        by_cases e : k = p
        · subst e; omega
        · exact h2 k (by omega)
/-- The numbers as natural ones. -/
def nat (f : Nat → Int) (k : Nat) : Nat := (f k).toNat
theorem nat_kinds {K : Nat} {f : Nat → Int} {p : Nat} (h : ∀ k, k < p → 0 ≤ f k ∧ f k < (K : Int)) : (∀ k, k < p → f k = (nat f k : Int)) ∧ Kinds K (nat f) p := by
  refine ⟨fun k hk => ?_, fun k hk => ?_⟩ <;> have := h k hk <;> unfold nat <;> omega

theorem packed3 (A : Option Addr) (n cap : Nat) (f : Nat → Int) (x : Nat → Nat) (p : Nat) (w : World) (hn : n ≤ 1048576) (hA : Nums w w.heap.size A n f)
    (hp : p ≤ n) (hx : ∀ k, k < p → f k = (x k : Int)) (hK : Kinds 6 x p) (hbad : p < n → f p < 0 ∨ (6 : Int) ≤ f p) :
    Calls Try.prog 66 #[.slice A n cap, .int .i64 3, .int .i64 6] w fun e w' => PackEnd 3 6 x n p e ∧ Below w.heap.size w w' :=
  packed_any 3 6 A n cap f x p w (by unfold LK; decide) hn hA hp hx hK hbad
theorem packed4 (A : Option Addr) (n cap : Nat) (f : Nat → Int) (x : Nat → Nat) (p : Nat) (w : World) (hn : n ≤ 1048576) (hA : Nums w w.heap.size A n f)
    (hp : p ≤ n) (hx : ∀ k, k < p → f k = (x k : Int)) (hK : Kinds 4 x p) (hbad : p < n → f p < 0 ∨ (4 : Int) ≤ f p) :
    Calls Try.prog 66 #[.slice A n cap, .int .i64 4, .int .i64 4] w fun e w' => PackEnd 4 4 x n p e ∧ Below w.heap.size w w' :=
  packed_any 4 4 A n cap f x p w (by unfold LK; decide) hn hA hp hx hK hbad
theorem refpack3 (A : Option Addr) (n cap : Nat) (f : Nat → Int) (x : Nat → Nat) (p : Nat) (w : World) (hn : n ≤ 1048576) (hA : Nums w w.heap.size A n f)
    (hp : p ≤ n) (hx : ∀ k, k < p → f k = (x k : Int)) (hK : Kinds 6 x p) (hbad : p < n → f p < 0 ∨ (6 : Int) ≤ f p) :
    Calls Try.prog 47 #[.slice A n cap, .int .i64 3, .int .i64 6] w fun e w' => RefEnd 3 6 x n p e ∧ Below w.heap.size w w' :=
  refpack_any 3 6 A n cap f x p w (by unfold LK; decide) hn hA hp hx hK hbad
theorem refpack4 (A : Option Addr) (n cap : Nat) (f : Nat → Int) (x : Nat → Nat) (p : Nat) (w : World) (hn : n ≤ 1048576) (hA : Nums w w.heap.size A n f)
    (hp : p ≤ n) (hx : ∀ k, k < p → f k = (x k : Int)) (hK : Kinds 4 x p) (hbad : p < n → f p < 0 ∨ (4 : Int) ≤ f p) :
    Calls Try.prog 47 #[.slice A n cap, .int .i64 4, .int .i64 4] w fun e w' => RefEnd 4 4 x n p e ∧ Below w.heap.size w w' :=
  refpack_any 4 4 A n cap f x p w (by unfold LK; decide) hn hA hp hx hK hbad
theorem unpacked3 (S : ByteArray) (n : Nat) (x : Nat → Nat) (w : World) (hn : n ≤ 1048576) (hK : Kinds 6 x n) (hS : S = str (rows 3 6 x n (sz n 3))) :
    Calls Try.prog 67 #[.string S, .int .i64 n, .int .i64 3, .int .i64 6] w fun e w' => UnpackEnd x n e w' ∧ Below w.heap.size w w' :=
  unpacked_any 3 6 S n x w (by unfold LK; decide) hn hK hS
theorem unpacked4 (S : ByteArray) (n : Nat) (x : Nat → Nat) (w : World) (hn : n ≤ 1048576) (hK : Kinds 4 x n) (hS : S = str (rows 4 4 x n (sz n 4))) :
    Calls Try.prog 67 #[.string S, .int .i64 n, .int .i64 4, .int .i64 4] w fun e w' => UnpackEnd x n e w' ∧ Below w.heap.size w w' :=
  unpacked_any 4 4 S n x w (by unfold LK; decide) hn hK hS
theorem size3 (n : Nat) (w : World) (hn : n ≤ 1048576) : Calls Try.prog 68 #[.int .i64 n, .int .i64 3] w fun e w' => e = .returned (.int .i64 (sz n 3)) ∧ w = w' := size_any n 3 6 w (by unfold LK; decide) (by omega)
theorem size4 (n : Nat) (w : World) (hn : n ≤ 1048576) : Calls Try.prog 68 #[.int .i64 n, .int .i64 4] w fun e w' => e = .returned (.int .i64 (sz n 4)) ∧ w = w' := size_any n 4 4 w (by unfold LK; decide) (by omega)

set_option maxHeartbeats 1000000 in
theorem threes_any (A : Option Addr) (n cap : Nat) (f : Nat → Int) (x : Nat → Nat) (p : Nat) (w : World) (hn : n ≤ 1048576) (hA : Nums w w.heap.size A n f)
    (hp : p ≤ n) (hx : ∀ k, k < p → f k = (x k : Int)) (hK : Kinds 6 x p) (hbad : p < n → f p < 0 ∨ (6 : Int) ≤ f p) :
    Calls Try.prog 56 #[.slice A n cap] w fun e w' => PackEnd 3 6 x n p e ∧ Below w.heap.size w w' := by
  have hcall := packed3 A n cap f x p w hn hA hp hx hK hbad
  have HC := Lib.hid hcall
  clear hcall hx hK hbad hA
  go_enter Try.func56, Try.ntmps56
  go_wp2_with fail
  refine HC.out.mono ?_
  rintro e w' ⟨⟨hp, rfl⟩ | ⟨hp, rfl⟩, hb⟩
  · have HP := Lib.hid hp
    clear hp
    generalize hs : str (rows 3 6 x n (sz n 3)) = s
    have HS := Lib.hid hs
    clear hs
    go_wp2_with fail
    go_ret2
    exact ⟨.inl ⟨HP.out, by rw [HS.out]; rfl⟩, hb⟩
  · go_wp2_with fail
    go_ret2
    exact ⟨.inr ⟨hp, rfl⟩, hb⟩
set_option maxHeartbeats 1000000 in
theorem fromthrees_any (S : ByteArray) (n : Nat) (x : Nat → Nat) (w : World) (hn : n ≤ 1048576) (hK : Kinds 6 x n) (hS : S = str (rows 3 6 x n (sz n 3))) :
    Calls Try.prog 59 #[.string S, .int .i64 n] w fun e w' => UnpackEnd x n e w' ∧ Below w.heap.size w w' := by
  have HC := Lib.hid (unpacked3 S n x w hn hK hS)
  clear hK hS
  go_enter Try.func59, Try.ntmps59
  go_wp2_with fail
  refine HC.out.mono ?_
  rintro e w' ⟨⟨g, rfl, hg⟩, hb⟩
  go_wp2_with fail
  go_ret2
  exact ⟨⟨g, rfl, hg⟩, hb⟩
theorem size3_any (n : Nat) (w : World) (hn : n ≤ 1048576) : Calls Try.prog 61 #[.int .i64 n] w fun e w' => e = .returned (.int .i64 (sz n 3)) ∧ w = w' := by
  go_enter Try.func61, Try.ntmps61
  go_wp2_with fail
  with_reducible refine (size3 n _ hn).mono ?_
  rintro e w' ⟨rfl, rfl⟩
  go_wp2_with fail
  go_ret
  exact ⟨rfl, rfl⟩

theorem drewN_more {w wr : World} (h : ∃ q, wr = w.drewN q) (n : Nat) : ∃ q, wr.drewN n = w.drewN q := by
  obtain ⟨q, rfl⟩ := h
  exact ⟨q + n, World.drewN_drewN _ _ _⟩
/-- Are two lists the same? -/
def sameB (n m : Nat) (f g : Nat → Int) : Bool := decide (n = m ∧ ∀ k, k < n → f k = g k)
theorem sameB_no {n m : Nat} {f g : Nat → Int} (h : ¬ n = m) : sameB n m f g = false := by simp [sameB, h]
theorem sameB_off {n m k : Nat} {f g : Nat → Int} (hk : k < n) (h : f k ≠ g k) : sameB n m f g = false := by
  simp only [sameB, decide_eq_false_iff_not]
  exact fun hh => h (hh.2 k hk)
theorem sameB_yes {n m : Nat} {f g : Nat → Int} (h : n = m) (hf : ∀ k, k < n → f k = g k) : sameB n m f g = true := by simp only [sameB, decide_eq_true_eq]; exact ⟨h, hf⟩

set_option maxHeartbeats 1000000 in
theorem same_any (A C : Option Addr) (n m c d : Nat) (f g : Nat → Int) (B : Nat) (w : World) (hn : n ≤ 1048576) (hA : Nums w B A n f) (hC : Nums w B C m g) :
    Calls Try.prog 37 #[.slice A n c, .slice C m d] w fun e w' => e = .returned (.bool (sameB n m f g)) ∧ ∃ q, w' = w.drewN q := by
  by_cases h : n = m
  · subst h
    have d1 : (n == n) = true := by simp
    go_enter Try.func37, Try.ntmps37
    go_wp2_with fail
    go_loopw [13] (fun i wr => ∃ k : Nat, k ≤ n ∧ i = .int .i64 k ∧ (∀ r, r < k → f r = g r) ∧ Hid (∃ q, wr = w.drewN q)) (fun i _ => n - (intOf i).toNat)
    case atStart => exact ⟨0, Nat.zero_le _, rfl, fun r hr => absurd hr (Nat.not_lt_zero _), Lib.hid ⟨0, rfl⟩⟩
    case round =>
      obtain ⟨k, hk, rfl, hf, hW⟩ := hrel
      by_cases hlt : k < n
      · obtain ⟨b, off, rfl, hbl, hc⟩ := hA k hlt
        obtain ⟨b', off', rfl, hbl', hc'⟩ := hC k hlt
        have c0 : wr.cell? ⟨b, off + k, none⟩ = some (.int .i64 (f k)) := by obtain ⟨q, e⟩ := hW.out; rw [e]; exact hc
        have c1 : wr.cell? ⟨b', off' + k, none⟩ = some (.int .i64 (g k)) := by obtain ⟨q, e⟩ := hW.out; rw [e]; exact hc'
        have HF := Lib.hid hf
        clear hc hc' hf
        by_cases e : f k = g k
        · have HE := Lib.hid e
          rw [← e] at c1
          clear e
          generalize f k = z at c0 c1
          have e1 : (z != z) = false := by simp
          go_wp2_with fail
          go_quiet (fail)
          go_wp2_with fail
          go_roundw
          case rel => exact ⟨k + 1, by omega, by go_num, fun r hr => by
            by_cases e : r = k
            · subst e; exact HE.out
            · exact HF.out r (by omega), Lib.hid (drewN_more hW.out nq)⟩
          case measure => simp [intOf]; omega
        · have HE := Lib.hid (sameB_off (m := n) hlt e)
          generalize f k = z at c0 e
          generalize g k = y at c1 e
          have e1 : (z == y) = false := by simpa using e
          have e2 : (z != y) = true := by simpa using e
          clear e
          go_wp2_with fail
          go_quiet (fail)
          go_wp2_with fail
          go_ret
          exact ⟨ret_bool HE.out.symm, drewN_more hW.out nq⟩
      · obtain rfl : k = n := by omega
        have HE := Lib.hid (sameB_yes rfl hf)
        clear hf
        go_wp2_with fail
        go_ret
        exact ⟨ret_bool HE.out.symm, hW.out⟩
  · have HE := Lib.hid (sameB_no (f := f) (g := g) h)
    have d1 : (n == m) = false := by simpa using h
    have d2 : (n != m) = true := by simpa using h
    clear h hA hC
    go_enter Try.func37, Try.ntmps37
    go_wp2_with fail
    go_ret
    exact ⟨ret_bool HE.out.symm, 0, rfl⟩
end Go.Proofs.Ytoigapanhbmjlaa



