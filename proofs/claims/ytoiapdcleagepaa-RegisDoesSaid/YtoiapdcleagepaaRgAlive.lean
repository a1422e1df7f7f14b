/- What the statements of stage 14 ask first. No condition. -/
import Derived.Test.YtoiapdcleagepaaRgHear
namespace Go.Proofs.Ytoiapdcleagepaa
open Go.RowKit
set_option maxRecDepth 100000

theorem tk_lit {T : Int} (h0 : 0 ≤ T) (h1 : T ≤ 1000) : Tk T := ⟨h0, by omega⟩
theorem below_reg {w0 w w' : World} {g : Nat} (hb : Below w0.heap.size w0 w) (ht : Touch (fun k => k = g) w w') (hg : w0.heap.size ≤ g) : Below w0.heap.size w0 w' :=
  ⟨ht.os.trans hb.os, ht.tape.trans hb.tape, ht.output.trans hb.output, Nat.le_trans hb.size ht.size, fun k hk => (ht.block k (Nat.lt_of_lt_of_le hk hb.size) (by omega)).trans (hb.block k hk)⟩
theorem okR_new {m : Int} (hm : goodB m = true) {T : Int} (h0 : 0 ≤ T) : OkR T ⟨m, 0, 0, 0⟩ := by
  unfold goodB at hm
  rw [Bool.and_eq_true, decide_eq_true_eq, decide_eq_true_eq] at hm
  exact ⟨by show m = 0 ∨ m = 1 ∨ m = 2; omega, .inl rfl, ⟨Int.le_refl _, h0⟩, ⟨Int.le_refl _, h0⟩⟩
theorem ralive_any (w : World) : Calls Try.prog 8 #[] w fun e w' => e = .returned (.bool true) ∧ Below w.heap.size w w' := by
  have HN := Lib.hid (rnew_ok 0 rfl w)
  go_enter Try.func8, Try.ntmps8
  go_wp2_with (go_at_call 10; refine HN.out.mono ?_; rintro e w1 ⟨g, rfl, h1, b1, hg⟩)
  have HG := Lib.hid (And.intro b1 hg)
  have H1 := Lib.hid (rhear_any h1 (okR_new rfl (by decide : (0 : Int) ≤ 6)) (tk_lit (by decide) (by decide)) 1 5)
  go_wp2_with fail
  refine H1.out.mono ?_
  rintro e w2 ⟨rfl, h2, t2⟩
  have o2 : OkR 6 (hearR ⟨0, 0, 0, 0⟩ 1 5 6) := (okR_new rfl (by decide)).hear (by decide) 1 5
  rw [show hearR ⟨0, 0, 0, 0⟩ 1 5 6 = ⟨0, 2, 5, 0⟩ from rfl] at h2 o2
  rw [show (hasR (hearR ⟨0, 0, 0, 0⟩ 1 5 6) != hasR ⟨0, 0, 0, 0⟩) = true from rfl]
  have H2 := Lib.hid (rtick_any h2 (o2.more (by decide : (6 : Int) ≤ 125)) (tk_lit (by decide) (by decide)))
  have HG2 := Lib.hid (below_reg HG.out.1 t2 HG.out.2)
  clear h1 b1 hg h2 t2
  go_wp2_with fail
  refine H2.out.mono ?_
  rintro e w3 ⟨rfl, h3, t3⟩
  rw [show tickR ⟨0, 2, 5, 0⟩ 125 = ⟨0, 2, 5, 0⟩ from rfl] at h3 ⊢
  rw [show (hasR ⟨0, 2, 5, 0⟩ != hasR ⟨0, 2, 5, 0⟩) = false from rfl]
  have H3 := Lib.hid (rhas_any h3)
  rw [show hasR ⟨0, 2, 5, 0⟩ = true from rfl] at H3
  have H4 := Lib.hid (rtick_any h3 (o2.more (by decide : (6 : Int) ≤ 126)) (tk_lit (by decide) (by decide)))
  rw [show tickR ⟨0, 2, 5, 0⟩ 126 = ⟨0, 0, 5, 0⟩ from rfl] at H4
  rw [show (hasR ⟨0, 0, 5, 0⟩ != hasR ⟨0, 2, 5, 0⟩) = true from rfl] at H4
  have HG3 := Lib.hid (below_reg HG2.out t3 HG.out.2)
  have H5 := Lib.hid (fun (w : World) (h : RgAt w g ⟨0, 0, 5, 0⟩) => show Calls Try.prog 14 #[.pointer (some ⟨g, 0, none⟩)] w fun e w' => e = .returned (.bool false) ∧ w = w' from rhas_any h)
  clear h3 t3 o2
  go_wp2_with (first | (go_at_call 14; (with_reducible (refine H3.out.mono ?_)); rintro e w' ⟨rfl, rfl⟩) | (go_at_call 13; (with_reducible (refine H4.out.mono ?_)); rintro e w4 ⟨rfl, h4, t4⟩) | (go_at_call 14; (with_reducible (refine (H5.out _ h4).mono ?_)); rintro e w' ⟨rfl, rfl⟩))
  go_ret
  exact ⟨rfl, below_reg HG3.out t4 HG.out.2⟩
end Go.Proofs.Ytoiapdcleagepaa
