/- The law's own first look ('alive') answers true and turns nothing that was there. No condition. -/
import Derived.Test.YtpijnbcibmjnpaaPut
import Derived.Test.YtpijnbcibmjnpaaGet
namespace Go.Proofs.Ytpijnbcibmjnpaa
open Go.RowKit

theorem IsW.new (w : World) : IsW (w.alloc (.cells #[.slice none 0 0] 27)) w.heap.size (.slice none 0 0) [] :=
  ⟨Blk.new _ _ _, by simp [bytesV], .inl ⟨rfl, rfl⟩⟩

theorem bel_drewN {B : Nat} {a w : World} (h : Below B a w) (n : Nat) : Below B a (w.drewN n) := ⟨h.os, h.tape, h.output, h.size, h.block⟩

set_option maxHeartbeats 1000000 in
theorem alive_any (w : World) :
    Calls Try.prog 8 #[] w fun e w' => e = .returned (.bool true) ∧ Below w.heap.size w w' := by
  go_enter Try.func8, Try.ntmps8
  go_wp2_with fail
  refine (put_any w.heap.size _ _ _ _ _ (IsW.new w) (by simp)).mono ?_
  rintro e w1 ⟨rfl, v1, h1, t1, m1⟩
  go_wp2_with fail
  refine (wraw_any w.heap.size v1 _ _ _ h1 (by decide)).mono ?_
  rintro e w2 ⟨rfl, v2, h2, t2, m2⟩
  go_wp2_with fail
  have hb2 : Below w.heap.size w w2 := by
    have b1 : Below w.heap.size w w1 := ((Below.refl w.heap.size w).alloc (Nat.le_refl _) _).trans (t1.below (by simp) (by
      rintro k (rfl | hk)
      · exact Nat.le_refl _
      · simp [Value.ownBlock] at hk))
    refine b1.trans (t2.below b1.size ?_)
    rintro k (rfl | hk)
    · exact Nat.le_refl _
    · rcases m1 with m | ⟨j, hj, m⟩
      · rw [m] at hk; simp [Value.ownBlock] at hk
      · rw [m] at hk; simp at hk; simp at hj; omega
  clear h1 t1 m1 t2 m2
  refine (wtext_any w.heap.size v2 _ _ h2).mono ?_
  rintro e w3 ⟨rfl, rfl⟩
  clear h2
  have he : (near 2 8).toNat = 2 := by decide
  rw [he]
  clear he
  have hl : ((⟨([] ++ be 258 2 ++ [97]).toArray⟩ : ByteArray) == ⟨#[1, 2, 97]⟩) = true := by decide
  go_wp2_with fail
  refine (open_any _ _).mono ?_
  rintro e w3 ⟨rfl, r3, b3⟩
  go_wp2_with fail
  refine (end_any _ _ _ r3 (by constructor <;> decide)).mono ?_
  rintro e w4 ⟨rfl, n4, rfl⟩
  have e4 : RdS.end_ ⟨⟨#[]⟩, 0, false⟩ = 0 := by decide
  rw [e4]
  clear r3 e4
  go_wp2_with fail
  refine (open_any _ _).mono ?_
  rintro e w5 ⟨rfl, r5, b5⟩
  go_wp2_with fail
  refine (fault_any _ _ _ r5).mono ?_
  rintro e w6 ⟨rfl, rfl⟩
  go_wp2_with fail
  go_ret
  exact ⟨rfl, hb2.trans ((bel_drewN (b3.mono hb2.size) n4).trans (b5.mono (Nat.le_trans hb2.size b3.size)))⟩
end Go.Proofs.Ytpijnbcibmjnpaa
