/- What every row of the wheel asks first: alive. -/
import Derived.Test.YtogghcbijdljkaaWdraw
import Derived.Test.YtogghcbijdljkaaWpop
import Derived.Test.YtogghcbijdljkaaWdue
namespace Go.Proofs.Ytogghcbijdljkaa
open Go.RowKit
set_option maxRecDepth 100000

/-- A wheel that is the walk's own: whatever lay before is as it was. -/
structure Fresh (w0 w : World) (g : Nat) (l : List Tm) : Prop where
  at_ : WheelAt w g l
  bel : Below w0.heap.size w0 w
  foot : ∀ k, WFoot w g k → w0.heap.size ≤ k
theorem Fresh.step {w0 w w' : World} {g : Nat} {l l' : List Tm} (h : Fresh w0 w g l) (h1 : WheelAt w' g l') (ht : Touch (WFoot w g) w w') (hf : ∀ k, WFoot w' g k → WFoot w g k ∨ w.heap.size ≤ k) : Fresh w0 w' g l' :=
  ⟨h1, h.bel.trans (ht.below h.bel.size h.foot), fun k hk => (hf k hk).elim (h.foot k) (fun e => Nat.le_trans h.bel.size e)⟩
theorem new_fresh (w : World) : Calls Try.prog 14 #[] w fun e w' => e = .returned (.pointer (some ⟨w.heap.size, 0, none⟩)) ∧ Fresh w w' w.heap.size [] :=
  (new_any w).mono fun _ _ ⟨he, h, hb, hf⟩ => ⟨he, h, hb, fun k hk => by rw [hf k hk]; exact Nat.le_refl _⟩
theorem set_fresh (w0 : World) (g : Nat) (l : List Tm) (key due : Int) (w : World) (h : Fresh w0 w g l) (hd : 0 ≤ due) (hfew : l.length < 1048000) :
    Calls Try.prog 15 #[.pointer (some ⟨g, 0, none⟩), .int .i64 key, .int .i64 due] w fun e w' => e = .returned (.int .i64 0) ∧ Fresh w0 w' g (putT l key due) :=
  (set_any g l key due w h.at_ hd hfew).mono fun _ _ ⟨he, h1, ht, hf⟩ => ⟨he, h.step h1 ht hf⟩
theorem pop_fresh (w0 : World) (g : Nat) (l : List Tm) (now : Int) (w : World) (h : Fresh w0 w g l) :
    Calls Try.prog 17 #[.pointer (some ⟨g, 0, none⟩), .int .i64 now] w fun e w' => ∃ gM : Nat, e = .returned (.slice (some ⟨gM, 0, none⟩) (sortT (lateT now l)).length (sortT (lateT now l)).length) ∧ KeysAt w' gM (sortT (lateT now l)) (sortT (lateT now l)).length ∧ w.heap.size ≤ gM ∧ Fresh w0 w' g (keepT now l) :=
  (pop_any g l now w h.at_).mono fun _ _ ⟨gM, he, hk, hg, h1, ht, hf⟩ => ⟨gM, he, hk, hg, h.step h1 ht hf⟩
set_option maxHeartbeats 4000000 in
theorem alive_any (w : World) : Calls Try.prog 13 #[] w fun e w' => e = .returned (.bool true) ∧ Below w.heap.size w w' := by
  obtain ⟨g, hg⟩ : ∃ g, w.heap.size = g := ⟨_, rfl⟩
  have HG := Lib.hid hg
  have HN := Lib.hid (new_fresh w)
  rw [hg] at HN
  clear hg
  go_enter Try.func13, Try.ntmps13
  go_wp2_with fail
  refine HN.out.mono ?_
  rintro e w1 ⟨rfl, h1⟩
  have H1 := Lib.hid h1
  clear h1
  go_wp2_with fail
  refine (set_fresh w g [] 1 5 w1 H1.out (by decide) (by decide)).mono ?_
  rintro e w2 ⟨rfl, h2⟩
  have H2 := Lib.hid h2
  clear h2
  go_wp2_with fail
  refine (set_fresh w g _ 2 3 w2 H2.out (by decide) (by decide)).mono ?_
  rintro e w3 ⟨rfl, h3⟩
  have H3 := Lib.hid h3
  clear h3
  go_wp2_with fail
  refine (pop_fresh w g _ 4 w3 H3.out).mono ?_
  rintro e w4 ⟨gM, rfl, hk, hgm, h4⟩
  have H4 := Lib.hid h4
  clear h4
  have hs : sortT (lateT 4 (putT (putT [] 1 5) 2 3)) = [⟨3, 2⟩] := by
    rw [show lateT 4 (putT (putT [] 1 5) 2 3) = [⟨3, 2⟩] by first | rfl | simp [lateT, putT, lateB]]
    simp [sortT]
  rw [hs] at hk ⊢
  obtain ⟨cs, hb, hsz, hc⟩ := hk
  have cq : w4.cell? ⟨gM, 0, none⟩ = some (.int .i64 2) := (hb.cell 0).trans (hc 0 (by decide))
  clear hs hb hsz hc cs
  go_wp2_with fail
  refine (due_any g _ 1 w4 H4.out.at_).mono ?_
  rintro e w5 ⟨rfl, h5⟩
  have H5 := Lib.hid h5
  clear h5 cq
  have hd5 : dueT (keepT 4 (putT (putT [] 1 5) 2 3)) 1 = 5 := by decide
  rw [hd5]
  go_wp2_with fail
  have hb6 := Blk.new w5 3 #[.int .i64 7]
  have hl6 := bel_alloc w5 (.cells #[.int .i64 7] 3)
  refine (draw_any (some ⟨w5.heap.size, 0, none⟩) 1 [7] _ (.inr ⟨_, 0, rfl, fun j hj => ?_⟩) (by decide)).mono ?_
  · obtain rfl : j = 0 := by simpa using hj
    exact hb6.cell 0
  rintro e w6 ⟨gD, rfl, hgD, hd6, hl7⟩
  have hbel6 : Below w.heap.size w w6 := ((H4.out.bel.trans (H5.out.mono H4.out.bel.size)).trans (hl6.mono (Nat.le_trans H4.out.bel.size H5.out.size))).trans (hl7.mono (Nat.le_trans (Nat.le_trans H4.out.bel.size H5.out.size) hl6.size))
  have hgDw : w.heap.size ≤ gD := Nat.le_trans (Nat.le_trans (Nat.le_trans H4.out.bel.size H5.out.size) hl6.size) hgD
  have H6 := Lib.hid (And.intro hd6 (And.intro hbel6 hgDw))
  clear hb6 hl6 hgD hd6 hl7 hbel6 hgDw
  go_wp2_with fail
  refine (next_any gD [7] 0 4 w6 H6.out.1 (by decide) (by decide)).mono ?_
  rintro e w7 ⟨rfl, h7, ht7⟩
  have hv : nextV [7] 0 4 = 3 := by decide
  rw [hv]
  have HFI := Lib.hid (show Below w.heap.size w w7 from H6.out.2.1.trans (ht7.below H6.out.2.1.size (fun k hk => by rw [hk]; exact H6.out.2.2)))
  clear h7 ht7 hv
  go_wp2_with fail
  go_ret
  exact ⟨rfl, HFI.out⟩
end Go.Proofs.Ytogghcbijdljkaa
