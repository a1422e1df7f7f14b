/- What stands around Best: otherRole, plain (the same for the document), alive. Its condition: fewer than 2^20 ports. -/
import Derived.Test.YtogkminlhjmafaaVrbest
namespace Go.Proofs.Ytogkminlhjmafaa
open Go.RowKit
set_option maxRecDepth 100000

/-- The role of a port that isn't the best one's. -/
def roleO (id : Int) (h : Hd) (o : Vec) : Int := if useB id h = true ∧ ¬ ltV o h.vec then 3 else 2
set_option maxHeartbeats 2000000 in
theorem otherRole_any (id : Int) (h : Hd) (o : Vec) (hr : h.root ≤ 9223372036854775807) (w : World) :
    Calls Try.prog 72 #[.int .i64 id, h.v, o.v] w fun e w' => e = .returned (.int .i64 (roleO id h o)) ∧ Below w.heap.size w w' := by
  have HU := Lib.hid (fun w => useful_any id h hr w)
  obtain ⟨bl, hbl⟩ : ∃ bl, decide (ltV o h.vec) = bl := ⟨_, rfl⟩
  have HB := Lib.hid (fun w => better_any o h.vec w)
  rw [hbl] at HB
  obtain ⟨r, k, b, p, a, c, n⟩ := h
  simp only [Hd.v, Hd.arr, Hd.vec, Vec.v, Vec.arr] at HU HB ⊢
  have k1 := (Blk.new w 86 (Hd.mk r k b p a c n).arr).alloc (.cells o.arr 32)
  have k2 := vec_new w (.cells (Hd.mk r k b p a c n).arr 86) o.arr
  have hb := bel_alloc2 w (.cells (Hd.mk r k b p a c n).arr 86) (.cells o.arr 32)
  have HK := Lib.hid (And.intro k1 (And.intro k2 hb))
  clear k1 k2 hb
  cases hu : useB id ⟨r, k, b, p, a, c, n⟩
  · rw [hu] at HU
    rw [show roleO id ⟨r, k, b, p, a, c, n⟩ o = 2 from if_neg (by simp [hu])]
    clear hu
    go_enter Try.func72, Try.ntmps72
    go_wp2_with fail
    refine (HU.out _).mono ?_
    rintro e w1 ⟨rfl, b1⟩
    have hf := HK.out.2.2.trans (b1.mono HK.out.2.2.size)
    clear b1
    go_wp2_with fail
    go_ret
    exact ⟨rfl, hf⟩
  · rw [hu] at HU
    have HUU := Lib.hid hu
    clear hu
    cases bl
    · have hl := hbl
      rw [show roleO id ⟨r, k, b, p, a, c, n⟩ o = 3 from if_pos ⟨HUU.out, of_decide_eq_false hl⟩]
      clear hl hbl
      go_enter Try.func72, Try.ntmps72
      go_wp2_with fail
      refine (HU.out _).mono ?_
      rintro e w1 ⟨rfl, b1⟩
      have j1 := HK.out.1.below b1 HK.out.1.lt
      have j2 := HK.out.2.1.below b1 HK.out.2.1.lt
      have x0 : w1.cell? ⟨w.heap.size, 0, none⟩ = some (.int .i64 r) := j1.cell 0
      have x1 : w1.cell? ⟨w.heap.size, 1, none⟩ = some (.int .i64 k) := j1.cell 1
      have x2 : w1.cell? ⟨w.heap.size, 2, none⟩ = some (.int .i64 b) := j1.cell 2
      have x3 : w1.cell? ⟨w.heap.size, 3, none⟩ = some (.int .i64 p) := j1.cell 3
      have y0 : w1.cell? ⟨w.heap.size + 1, 0, none⟩ = some (.int .i64 o.root) := j2.cell 0
      have y1 : w1.cell? ⟨w.heap.size + 1, 1, none⟩ = some (.int .i64 o.cost) := j2.cell 1
      have y2 : w1.cell? ⟨w.heap.size + 1, 2, none⟩ = some (.int .i64 o.bridge) := j2.cell 2
      have y3 : w1.cell? ⟨w.heap.size + 1, 3, none⟩ = some (.int .i64 o.port) := j2.cell 3
      have hf := HK.out.2.2.trans (b1.mono HK.out.2.2.size)
      clear b1 j1 j2
      go_wp2_with fail
      refine (HB.out _).mono ?_
      rintro e w2 ⟨rfl, b2⟩
      have hf := hf.trans (b2.mono hf.size)
      clear b2
      go_wp2_with fail
      go_ret
      exact ⟨rfl, hf⟩
    · have hl := hbl
      rw [show roleO id ⟨r, k, b, p, a, c, n⟩ o = 2 from if_neg fun h => absurd (of_decide_eq_true hl) h.2]
      clear hl hbl
      go_enter Try.func72, Try.ntmps72
      go_wp2_with fail
      refine (HU.out _).mono ?_
      rintro e w1 ⟨rfl, b1⟩
      have j1 := HK.out.1.below b1 HK.out.1.lt
      have j2 := HK.out.2.1.below b1 HK.out.2.1.lt
      have x0 : w1.cell? ⟨w.heap.size, 0, none⟩ = some (.int .i64 r) := j1.cell 0
      have x1 : w1.cell? ⟨w.heap.size, 1, none⟩ = some (.int .i64 k) := j1.cell 1
      have x2 : w1.cell? ⟨w.heap.size, 2, none⟩ = some (.int .i64 b) := j1.cell 2
      have x3 : w1.cell? ⟨w.heap.size, 3, none⟩ = some (.int .i64 p) := j1.cell 3
      have y0 : w1.cell? ⟨w.heap.size + 1, 0, none⟩ = some (.int .i64 o.root) := j2.cell 0
      have y1 : w1.cell? ⟨w.heap.size + 1, 1, none⟩ = some (.int .i64 o.cost) := j2.cell 1
      have y2 : w1.cell? ⟨w.heap.size + 1, 2, none⟩ = some (.int .i64 o.bridge) := j2.cell 2
      have y3 : w1.cell? ⟨w.heap.size + 1, 3, none⟩ = some (.int .i64 o.port) := j2.cell 3
      have hf := HK.out.2.2.trans (b1.mono HK.out.2.2.size)
      clear b1 j1 j2
      go_wp2_with fail
      refine (HB.out _).mono ?_
      rintro e w2 ⟨rfl, b2⟩
      have hf := hf.trans (b2.mono hf.size)
      clear b2
      go_wp2_with fail
      go_ret
      exact ⟨rfl, hf⟩
end Go.Proofs.Ytogkminlhjmafaa

