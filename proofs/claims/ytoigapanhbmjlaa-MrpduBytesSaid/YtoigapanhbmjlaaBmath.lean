/- Numbers as bytes and back, a reader over a text whose parts are known, a new writer, where a writer's row lies. Plain lemmas, no condition, no program's call. -/
import Derived.Test.YtoigapanhbmjlaaPut
import Derived.Test.YtoigapanhbmjlaaGet
namespace Go.Proofs.Ytoigapanhbmjlaa
open Go.RowKit

theorem IsW.new (w : World) : IsW (w.alloc (.cells #[.slice none 0 0] 52)) w.heap.size (.slice none 0 0) [] :=
  ⟨Blk.new _ _ _, by simp [bytesV], .inl ⟨rfl, rfl⟩⟩

def OwnFrom (B : Nat) (v : Value) : Prop := ∀ j, v.ownBlock = some j → B ≤ j
theorem OwnFrom.moved {B : Nat} {w : World} {v v' : Value} (h : OwnFrom B v) (hm : Moved w v v') (hB : B ≤ w.heap.size) : OwnFrom B v' := by
  intro j hj
  rcases hm with hm | ⟨k, hk, hm⟩
  · exact h j (hm.symm.trans hj)
  · rw [hm] at hj; injection hj with hj; omega
theorem OwnFrom.below {B g : Nat} {w w' : World} {v : Value} (h : OwnFrom B v) (hg : B ≤ g) (hB : B ≤ w.heap.size) (ht : Touch (FootW g v) w w') : Below B w w' :=
  ht.below hB (by rintro k (rfl | hk); exact hg; exact h k hk)
theorem OwnFrom.none (B c n : Nat) : OwnFrom B (.slice none n c) := by intro j hj; simp [Value.ownBlock] at hj
theorem emod_mul_split (n M : Int) (hM : 0 < M) : n % (M * 256) = M * (n / M % 256) + n % M := by
  have h1 : n = (M * (n / M % 256) + n % M) + (M * 256) * (n / M / 256) := by
    have a := Int.mul_ediv_add_emod n M
    have b := Int.mul_ediv_add_emod (n / M) 256
    have c : M * (n / M) = M * (256 * (n / M / 256) + n / M % 256) := by rw [b]
    rw [Int.mul_add, ← Int.mul_assoc] at c
    omega
  have h2 : 0 ≤ n % M := Int.emod_nonneg _ (by omega)
  have h3 : n % M < M := Int.emod_lt_of_pos _ hM
  have h4 : 0 ≤ n / M % 256 ∧ n / M % 256 ≤ 255 := by omega
  have h5 : M * (n / M % 256) ≤ M * 255 := Int.mul_le_mul_of_nonneg_left h4.2 (by omega)
  have h6 : 0 ≤ M * (n / M % 256) := Int.mul_nonneg (by omega) h4.1
  have h7 : n % (M * 256) = ((M * (n / M % 256) + n % M) + (M * 256) * (n / M / 256)) % (M * 256) := by rw [← h1]
  rw [h7, Int.add_mul_emod_self_left]
  exact Int.emod_eq_of_lt (by omega) (by omega)
theorem num_cons (c : UInt8) (l : List UInt8) : num (c :: l) = c.toNat * 256 ^ l.length + num l := by
  have h : ∀ (l : List UInt8) (a : Nat), l.foldl (fun a c => a * 256 + c.toNat) a = a * 256 ^ l.length + l.foldl (fun a c => a * 256 + c.toNat) 0 := by
    intro l
    induction l with
    | nil => intro a; simp
    | cons c l ih =>
      intro a
      simp only [List.foldl_cons, List.length_cons]
      rw [ih, ih (0 * 256 + c.toNat), Nat.pow_succ, Nat.zero_mul, Nat.zero_add, Nat.add_mul, Nat.mul_assoc, Nat.mul_comm 256, Nat.add_assoc]
  have := h l c.toNat
  simpa [num] using this
theorem byteAt_toNat (n : Int) (j : Nat) : ((byteAt n j).toNat : Int) = n / (256 ^ j : Nat) % 256 := by
  unfold byteAt
  have h3 : 0 ≤ n / ((256 ^ j : Nat) : Int) % 256 ∧ n / ((256 ^ j : Nat) : Int) % 256 < 256 := by omega
  generalize n / ((256 ^ j : Nat) : Int) % 256 = m at *
  simp
  omega
theorem num_be (n : Int) (k : Nat) : (num (be n k) : Int) = n % (256 ^ k : Nat) := by
  induction k with
  | zero => simp [num, be]
  | succ k ih =>
    rw [be, num_cons, be_length, Int.natCast_add, Int.natCast_mul, byteAt_toNat, ih]
    have := emod_mul_split n ((256 ^ k : Nat) : Int) (by have : 0 < 256 ^ k := Nat.pow_pos (by omega); omega)
    rw [Nat.pow_succ, Int.natCast_mul]
    rw [Int.mul_comm (n / _ % 256)]
    exact this.symm
theorem ext_list (T : ByteArray) (a k : Nat) : (T.extract a (a + k)).data.toList = (T.data.toList.drop a).take k := by
  rw [ByteArray.data_extract]
  simp [Array.toList_extract]
theorem end_of (T : ByteArray) (p : List UInt8) (s : ByteArray) (hs : T.size = p.length + s.size) (hT : (⟨(p ++ s.data.toList).toArray⟩ : ByteArray) = T) :
    (RdS.mk T p.length false).text s.size = s ∧ (RdS.mk T p.length false).take s.size = ⟨T, T.size, false⟩ := by
  have hc : (RdS.mk T p.length false).can s.size = true := by
    simp only [RdS.can, Bool.not_false, Bool.true_and, Bool.and_eq_true, decide_eq_true_eq]
    omega
  refine ⟨?_, by rw [RdS.take, if_pos hc, Int.toNat_natCast]; simp only [hs]⟩
  unfold RdS.text
  rw [if_pos hc, Int.toNat_natCast]
  have : (T.extract p.length (p.length + s.size)).data.toList = s.data.toList := by
    rw [ext_list, ← hT]
    show ((p ++ s.data.toList).drop _).take _ = _
    rw [List.drop_left]
    exact List.take_of_length_le (by rw [Array.length_toList]; exact Nat.le_refl _)
  have h2 : (T.extract p.length (p.length + s.size)).data = s.data := Array.ext' this
  exact congrArg ByteArray.mk h2
theorem near_self (z : Int) (h1 : 1 ≤ z) (h7 : z ≤ 7) : near z 7 = z := by rw [near_is]; omega
theorem text_of (T : ByteArray) (p q : List UInt8) (z : Int) (h0 : 1 ≤ z) (hq : q.length = z.toNat) (hT : (T.data.toList.drop p.length).take z.toNat = q) :
    ((RdS.mk T p.length false).text z).data.toList = q ∧ (RdS.mk T p.length false).take z = ⟨T, p.length + z.toNat, false⟩ := by
  have hl : p.length + z.toNat ≤ T.size := by
    have := congrArg List.length hT
    simp only [List.length_take, List.length_drop, Array.length_toList, hq] at this
    have hs : T.data.size = T.size := rfl
    omega
  have hc : (RdS.mk T p.length false).can z = true := by
    simp only [RdS.can, Bool.not_false, Bool.true_and, Bool.and_eq_true, decide_eq_true_eq]
    omega
  refine ⟨?_, by rw [RdS.take, if_pos hc]⟩
  unfold RdS.text
  rw [if_pos hc, ext_list, hT]
end Go.Proofs.Ytoigapanhbmjlaa
