/- A port forgets, and hears; a new one. No condition. -/
import Derived.Test.YtadejdhdkkfliaaTmem
import Derived.Test.YtadejdhdkkfliaaBpGood
namespace Go.Proofs.Ytadejdhdkkfliaa
open Go.RowKit
set_option maxRecDepth 100000

section
variable {w : World} {gp m : Nat} {f : Nat → Pt} {fw : Nat → Bool}
theorem forget_any (h : PortsAt w gp m f fw) (i : Nat) (hi : i < m) :
    Calls Try.prog 36 #[.pointer (some ⟨gp, i * 12, none⟩)] w fun e w' => e = .returned (.tuple #[]) ∧ PortsAt w' gp m (updP f i (wipeP (f i))) fw ∧ Touch (fun k => k = gp) w w' := by
  have hc := h.cells hi
  have c4 := hc.c4
  have c5 := hc.c5
  have c6 := hc.c6
  have c7 := hc.c7
  have c8 := hc.c8
  have c9 := hc.c9
  have c10 := hc.c10
  have f4 := h.frozen (i * 12 + 4)
  have f5 := h.frozen (i * 12 + 5)
  have f6 := h.frozen (i * 12 + 6)
  have f7 := h.frozen (i * 12 + 7)
  have f8 := h.frozen (i * 12 + 8)
  have f9 := h.frozen (i * 12 + 9)
  have f10 := h.frozen (i * 12 + 10)
  clear hc
  go_enter Try.func36, Try.ntmps36
  go_wp2_with fail
  exact bodyPost_end (results_none rfl _ _ _) rfl ⟨rfl, h.set7 hi ⟨0, 0, 0, 0, 0, (f i).way, true⟩, set7_touch (Touch.refl (fun k => k = gp) w) (fun _ => rfl) (i * 12 + 4) ⟨0, 0, 0, 0, 0, (f i).way, true⟩⟩
theorem phear_any (h : PortsAt w gp m f fw) (i : Nat) (hi : i < m) (b : Bp) (now : Int) :
    Calls Try.prog 41 #[.pointer (some ⟨gp, i * 12, none⟩), b.v, .int .i64 now] w fun e w' => e = .returned (.tuple #[]) ∧ PortsAt w' gp m (updP f i (gotP (f i) ⟨b.root, b.cost, b.bridge, b.port⟩ b.age now)) fw ∧ Touch (fun k => k = gp) w w' := by
  obtain ⟨br, bc, bb, bp, ba, bo, bg⟩ := b
  simp only [Bp.v, Bp.cells]
  obtain ⟨W, hW⟩ : ∃ W, w.alloc (.cells #[.int .i64 br, .int .i64 bc, .int .i64 bb, .int .i64 bp, .int .i64 ba, .int .i64 bo, .bool bg] 34) = W := ⟨_, rfl⟩
  have hx : PortsAt W gp m f fw := by rw [← hW]; exact h.alloc _
  have hbk : Blk W w.heap.size 34 #[.int .i64 br, .int .i64 bc, .int .i64 bb, .int .i64 bp, .int .i64 ba, .int .i64 bo, .bool bg] := by rw [← hW]; exact Blk.new w _ _
  have hbe : Below w.heap.size w W := by rw [← hW]; exact bel_alloc w _
  have hl := h.lt
  have hc := hx.cells hi
  have c4 := hc.c4
  have c5 := hc.c5
  have c6 := hc.c6
  have c7 := hc.c7
  have c8 := hc.c8
  have c9 := hc.c9
  have c10 := hc.c10
  have c11 := hc.c11
  have f4 := hx.frozen (i * 12 + 4)
  have f5 := hx.frozen (i * 12 + 5)
  have f6 := hx.frozen (i * 12 + 6)
  have f7 := hx.frozen (i * 12 + 7)
  have f8 := hx.frozen (i * 12 + 8)
  have f9 := hx.frozen (i * 12 + 9)
  have f10 := hx.frozen (i * 12 + 10)
  have f11 := hx.frozen (i * 12 + 11)
  have b0 : W.cell? ⟨w.heap.size, 0, none⟩ = some (.int .i64 br) := hbk.cell 0
  have b1 : W.cell? ⟨w.heap.size, 1, none⟩ = some (.int .i64 bc) := hbk.cell 1
  have b2 : W.cell? ⟨w.heap.size, 2, none⟩ = some (.int .i64 bb) := hbk.cell 2
  have b3 : W.cell? ⟨w.heap.size, 3, none⟩ = some (.int .i64 bp) := hbk.cell 3
  have b4 : W.cell? ⟨w.heap.size, 4, none⟩ = some (.int .i64 ba) := hbk.cell 4
  have HX := Lib.hid (And.intro hx (And.intro hbe hl))
  clear hc hbk hx hbe h hl
  go_enter Try.func41, Try.ntmps41
  go_wp2_with fail
  clear hW
  go_region
  go_wp2_with fail
  have h7 := HX.out.1.set7 hi ⟨br, bc, bb, bp, ba, (f i).way, false⟩
  have h8 : PortsAt ((set7 W gp (i * 12 + 4) ⟨br, bc, bb, bp, ba, (f i).way, false⟩).setCell ⟨gp, i * 12 + 11, none⟩ (.int .i64 now)) gp m (updP f i (gotP (f i) ⟨br, bc, bb, bp⟩ ba now)) fw := by
    refine h7.set_ (k := 11) hi (by decide) _ (fun j hj => ⟨by unfold updP; rw [if_neg hj, if_neg hj], rfl⟩) ?_
    unfold updP
    rw [if_pos rfl, if_pos rfl]
    rfl
  have ht : Touch (fun k => k = gp) w W := (Below.touch HX.out.2.1).mono fun k hk h => by omega
  exact bodyPost_end (results_none rfl _ _ _) rfl ⟨rfl, h8.drew, ((set7_touch ht (fun _ => rfl) (i * 12 + 4) ⟨br, bc, bb, bp, ba, (f i).way, false⟩).set_ (a := ⟨gp, i * 12 + 11, none⟩) (fun _ => rfl) (.int .i64 now)).drew⟩
end
end Go.Proofs.Ytadejdhdkkfliaa
