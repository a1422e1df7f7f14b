/- What stage 18's statements ask first: alive. Its condition: the program's contracts. -/
import Derived.Test.YtocahiifeckogaaFbDoes
namespace Go.Proofs.Ytocahiifeckogaa
open Go.RowKit
set_option maxRecDepth 100000

theorem few_nil (f : Int) : Few ⟨[], f⟩ := ⟨Nat.zero_le _, fun x hx => by cases hx⟩
theorem srt_nil : Srt [] := List.Pairwise.nil
theorem few_one {x : Pl} (h : 0 ≤ x.s ∧ x.s ≤ 1099511627776) (f : Int) : Few ⟨[x], f⟩ := ⟨by show 1 ≤ 24; omega, fun y hy => by rw [List.mem_singleton.1 hy]; exact h⟩
theorem gone_71 : keepD ⟨[⟨1, 5, 2, 10, false⟩], 0⟩ 0 71 = ⟨[], 0⟩ := by
  have hk : keepB 0 71 ⟨1, 5, 2, 10, false⟩ = false := by
    unfold keepB
    simp only
    rw [show wrap64 (71 - 10) = 61 from (IntWalk.wrap64_in _ (by omega)).trans (by omega)]
    decide
  show Dt.mk (List.filter (keepB 0 71) [⟨1, 5, 2, 10, false⟩]) 0 = _
  rw [List.filter_cons, hk]
  rfl
section
variable {Pt : World → Nat → (Nat → Prop) → Nat → Dt → Prop}
set_option maxHeartbeats 4000000 in
theorem falive_any (H : FdbIs Pt) (w : World) : Calls Try.prog 6 #[] w fun e w' => e = .returned (.bool true) ∧ Below w.heap.size w w' := by
  have HN := Lib.hid (H.new w w.heap.size (Nat.le_refl _))
  go_enter Try.func6, Try.ntmps6
  go_wp2_with fail
  refine HN.out.mono ?_
  rintro e w1 ⟨g, rfl, b1, p1⟩
  have h1 := H.learn 1 5 2 10 p1 srt_nil (few_nil 0) ⟨by omega, by omega⟩
  rw [show learnS ⟨[], 0⟩ 1 5 2 10 = (⟨[⟨1, 5, 2, 10, false⟩], 0⟩, 0) from rfl] at h1
  have HL := Lib.hid h1
  have HB1 := Lib.hid (And.intro b1 (fun k hk => ((H.lo p1).2 k hk).1 : ∀ k, grow noF w w1 k → w.heap.size ≤ k))
  clear b1 p1 h1
  go_wp2_with fail
  refine HL.out.mono ?_
  rintro e w2 ⟨rfl, t2, p2⟩
  have hb2 := HB1.out.1.trans (t2.below HB1.out.1.size HB1.out.2)
  have hs1 : Srt [(⟨1, 5, 2, 10, false⟩ : Pl)] := List.pairwise_singleton _ _
  have hf1 : Few ⟨[⟨1, 5, 2, 10, false⟩], 0⟩ := few_one ⟨by show (0 : Int) ≤ 10; omega, by show (10 : Int) ≤ _; omega⟩ 0
  have h2 := H.find 1 5 p2 hs1 hf1
  rw [show findS [⟨1, 5, 2, 10, false⟩] 1 5 = 2 from rfl] at h2
  have HF := Lib.hid h2
  have HB2 := Lib.hid (And.intro hb2 p2)
  clear t2 p2 h2 hb2
  go_wp2_with fail
  refine HF.out.mono ?_
  rintro e w3 ⟨rfl, b3⟩
  have p3 := H.keep HB2.out.2 (below_touch b3 noF) (fun q hq => hq.elim)
  have h3 := H.age 71 p3 hs1 hf1 ⟨by omega, by omega⟩
  rw [gone_71] at h3
  have HA := Lib.hid h3
  have HB3 := Lib.hid (And.intro (HB2.out.1.trans (b3.mono HB2.out.1.size)) (fun k hk => ((H.lo p3).2 k hk).1 : ∀ k, _ → w.heap.size ≤ k))
  clear b3 p3 h3
  go_wp2_with fail
  refine HA.out.mono ?_
  rintro e w4 ⟨rfl, t4, p4⟩
  have hb4 := HB3.out.1.trans (t4.below HB3.out.1.size HB3.out.2)
  have h4 := H.find 1 5 p4 srt_nil (few_nil 0)
  rw [show findS ([] : List Pl) 1 5 = -1 from rfl] at h4
  have HF2 := Lib.hid h4
  have HB4 := Lib.hid hb4
  clear t4 p4 h4 hb4 hs1 hf1
  go_wp2_with fail
  refine HF2.out.mono ?_
  rintro e w5 ⟨rfl, b5⟩
  have HE := Lib.hid (HB4.out.trans (b5.mono HB4.out.size))
  clear b5
  go_wp2_with fail
  go_ret
  exact ⟨rfl, HE.out⟩
end
end Go.Proofs.Ytocahiifeckogaa
