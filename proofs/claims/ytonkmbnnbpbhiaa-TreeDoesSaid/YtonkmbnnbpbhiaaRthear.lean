/- The document's part of a bridge: what can't be set, or heard, and what is heard: contracts. Their conditions: up to six ports, fewer than 50000 turns each, numbers within their ranges. -/
import Derived.Test.YtonkmbnnbpbhiaaRtset
namespace Go.Proofs.Ytonkmbnnbpbhiaa
open Go.RowKit
set_option maxRecDepth 100000

section
variable {w : World} {base d gp go m cap : Nat} {f f' : Nat → Pt} {op : Nat → Bool} {id ch : Int} {TU : Nat → List (Int × Int)} {AA : Nat → Option Addr} {CC : Nat → Nat}
set_option maxHeartbeats 2000000 in
theorem rset_bad (h : DocAt w base d gp go cap id m f TU AA CC op ch) (i : Int) (up : Bool) (cost now : Int) (hb : ¬ ((0 ≤ i ∧ i < m) ∧ 1 ≤ cost ∧ cost ≤ 16777216)) :
    Calls Try.prog 22 #[.pointer (some ⟨d, 0, none⟩), .int .i64 i, .bool up, .int .i64 cost, .int .i64 now] w fun e w' => e = .returned (.int .i64 1) ∧ w = w' := by
  have d1 := h.d1
  clear h
  by_cases h0 : i < 0
  · clear hb
    go_enter Try.func22, Try.ntmps22
    go_wp2_with fail
    go_ret
    exact ⟨rfl, rfl⟩
  have e0 : decide (i < 0) = false := decide_eq_false h0
  by_cases h1 : (m : Int) ≤ i
  · clear hb h0
    go_enter Try.func22, Try.ntmps22
    go_wp2_with fail
    go_ret
    exact ⟨rfl, rfl⟩
  have e1 : decide ((m : Int) ≤ i) = false := decide_eq_false h1
  by_cases h2 : cost < 1
  · clear hb h0 h1
    go_enter Try.func22, Try.ntmps22
    go_wp2_with fail
    go_ret
    exact ⟨rfl, rfl⟩
  have e2 : decide (cost < 1) = false := decide_eq_false h2
  have e3 : decide (16777216 < cost) = true := decide_eq_true (by omega)
  clear hb h0 h1 h2
  go_enter Try.func22, Try.ntmps22
  go_wp2_with fail
  go_ret
  exact ⟨rfl, rfl⟩
set_option maxHeartbeats 4000000 in
theorem rhear_bad (h : DocAt w base d gp go cap id m f TU AA CC op ch) (i : Int) (b : Bp) (hbi : b.int) (now : Int) (hb : ¬ ((0 ≤ i ∧ i < m) ∧ b.takes)) :
    Calls Try.prog 23 #[.pointer (some ⟨d, 0, none⟩), .int .i64 i, b.v, .int .i64 now] w fun e w' => e = .returned (.int .i64 1) ∧ Below w.heap.size w w' := by
  obtain ⟨W, hW⟩ : ∃ W, w.alloc (.cells b.cells 34) = W := ⟨_, rfl⟩
  have hx : DocAt W base d gp go cap id m f TU AA CC op ch := by rw [← hW]; exact h.alloc _
  have hbe : Below w.heap.size w W := by rw [← hW]; exact bel_alloc w _
  have hbk : Blk W w.heap.size 34 b.cells := by rw [← hW]; exact Blk.new w _ _
  have HG := Lib.hid (rbgood_any b hbi W)
  have d1 := hx.d1
  have HB := Lib.hid (And.intro hbe hbk)
  by_cases h0 : i < 0
  · clear hb HG hx hbe hbk h
    obtain ⟨br, bc, bb, bp, ba, bo, bg⟩ := b
    simp only [Bp.v, Bp.cells] at *
    go_enter Try.func23, Try.ntmps23
    go_wp2_with fail
    go_ret
    exact ⟨rfl, HB.out.1⟩
  have e0 : decide (i < 0) = false := decide_eq_false h0
  by_cases h1 : (m : Int) ≤ i
  · clear hb HG hx hbe hbk h h0
    obtain ⟨br, bc, bb, bp, ba, bo, bg⟩ := b
    simp only [Bp.v, Bp.cells] at *
    go_enter Try.func23, Try.ntmps23
    go_wp2_with fail
    go_ret
    exact ⟨rfl, HB.out.1⟩
  have e1 : decide ((m : Int) ≤ i) = false := decide_eq_false h1
  have hk : ¬ b.takes := fun hk => hb ⟨⟨by omega, by omega⟩, hk⟩
  obtain ⟨gd, hgd⟩ : ∃ gd, b.good = gd := ⟨_, rfl⟩
  have hk0 : gd = true → b.role ≠ 2 := fun hg hr => hk ⟨by rw [hgd, hg], hr⟩
  rw [hgd] at HG
  obtain ⟨br, bc, bb, bp, ba, bo, bg⟩ := b
  simp only [Bp.v, Bp.cells] at *
  have b0 : W.cell? ⟨w.heap.size, 0, none⟩ = some (.int .i64 br) := hbk.cell 0
  have b1 : W.cell? ⟨w.heap.size, 1, none⟩ = some (.int .i64 bc) := hbk.cell 1
  have b2 : W.cell? ⟨w.heap.size, 2, none⟩ = some (.int .i64 bb) := hbk.cell 2
  have b3 : W.cell? ⟨w.heap.size, 3, none⟩ = some (.int .i64 bp) := hbk.cell 3
  have b4 : W.cell? ⟨w.heap.size, 4, none⟩ = some (.int .i64 ba) := hbk.cell 4
  have b5 : W.cell? ⟨w.heap.size, 5, none⟩ = some (.int .i64 bo) := hbk.cell 5
  have b6 : W.cell? ⟨w.heap.size, 6, none⟩ = some (.bool bg) := hbk.cell 6
  clear h hx hbe hbk hk hgd hb h0 h1
  cases gd
  · clear hk0
    go_enter Try.func23, Try.ntmps23
    go_wp2_with (go_at_call 26; refine HG.out.mono ?_; rintro e w' ⟨rfl, e1⟩)
    go_ret
    exact ⟨rfl, HB.out.1.trans (e1.mono HB.out.1.size)⟩
  · have d2 : (bo != 2) = true := by simpa using hk0 rfl
    clear hk0
    go_enter Try.func23, Try.ntmps23
    go_wp2_with (go_at_call 26; refine HG.out.mono ?_; rintro e w' ⟨rfl, e1⟩; have c5 := (HB.out.2.below e1 HB.out.2.lt).cell 5)
    go_ret
    exact ⟨rfl, HB.out.1.trans (e1.mono HB.out.1.size)⟩
set_option maxHeartbeats 4000000 in
theorem rhear_down (h : DocAt w base d gp go cap id m f TU AA CC op ch) (i : Nat) (hi : i < m) (b : Bp) (hb : b.int) (now : Int) (hn : b.takes) (hu : (f i).up = false) :
    Calls Try.prog 23 #[.pointer (some ⟨d, 0, none⟩), .int .i64 i, b.v, .int .i64 now] w fun e w' => e = .returned (.int .i64 7) ∧ Below w.heap.size w w' := by
  obtain ⟨W, hW⟩ : ∃ W, w.alloc (.cells b.cells 34) = W := ⟨_, rfl⟩
  have hx : DocAt W base d gp go cap id m f TU AA CC op ch := by rw [← hW]; exact h.alloc _
  have hbe : Below w.heap.size w W := by rw [← hW]; exact bel_alloc w _
  have hbk : Blk W w.heap.size 34 b.cells := by rw [← hW]; exact Blk.new w _ _
  have HG := rbgood_any b hb W
  rw [hn.1] at HG
  have HG := Lib.hid HG
  have hro : b.role = 2 := hn.2
  have hcm : (m : Int) ≤ cap := by have := h.cap; omega
  have d1 := hx.d1
  have HX := Lib.hid (And.intro hx (And.intro hbe (And.intro hbk (And.intro hi hu))))
  obtain ⟨br, bc, bb, bp, ba, bo, bg⟩ := b
  simp only [Bp.v, Bp.cells] at *
  subst hro
  have j1 : (i : Int) < m := by omega
  have j0 : (0 : Int) ≤ i := by omega
  have b0 : W.cell? ⟨w.heap.size, 0, none⟩ = some (.int .i64 br) := hbk.cell 0
  have b1 : W.cell? ⟨w.heap.size, 1, none⟩ = some (.int .i64 bc) := hbk.cell 1
  have b2 : W.cell? ⟨w.heap.size, 2, none⟩ = some (.int .i64 bb) := hbk.cell 2
  have b3 : W.cell? ⟨w.heap.size, 3, none⟩ = some (.int .i64 bp) := hbk.cell 3
  have b4 : W.cell? ⟨w.heap.size, 4, none⟩ = some (.int .i64 ba) := hbk.cell 4
  have b5 : W.cell? ⟨w.heap.size, 5, none⟩ = some (.int .i64 2) := hbk.cell 5
  have b6 : W.cell? ⟨w.heap.size, 6, none⟩ = some (.bool bg) := hbk.cell 6
  clear h hx hbe hbk hi hu hn
  go_enter Try.func23, Try.ntmps23
  go_wp2_with (go_at_call 26; refine HG.out.mono ?_; rintro e w' ⟨rfl, e1⟩; have c5 := (HX.out.2.2.1.below e1 HX.out.2.2.1.lt).cell 5; have h1 := HX.out.1.below e1; have t1 := h1.d1; have c0 := (h1.ports.cells HX.out.2.2.2.1).c0; rw [HX.out.2.2.2.2] at c0)
  go_ret
  exact ⟨rfl, HX.out.2.1.trans (e1.mono HX.out.2.1.size)⟩
theorem rupdate_drew {w0 : World} (h : DocAt w0 base d gp go cap id m f TU AA CC op ch) (hm : m ≤ 6) (hok : ∀ i, i < m → (hdOf (f i)).ok) (hlen : ∀ i, (TU i).length ≤ 50000) (hbs : base ≤ w.heap.size) (now : Int) (ht : Touch (DocQ base w) w w0) :
    Calls Try.prog 46 #[.pointer (some ⟨d, 0, none⟩), .int .i64 now] w0.drew fun e w' => e = .returned (.tuple #[]) ∧ DocN w w' base d gp go cap id m (anewP id m now f) TU op ch := by
  refine (rupdate_any h.drew hm hok hlen (Nat.le_trans hbs ht.drew.size) now).mono ?_
  rintro e w' ⟨rfl, h9, t9⟩
  exact ⟨rfl, h9, docq_trans ht.drew t9⟩
set_option maxHeartbeats 4000000 in
theorem rhear_ok (h : DocAt w base d gp go cap id m f TU AA CC op ch) (hm : m ≤ 6) {T : Int} (hok : POk T m f) (h0 : 0 ≤ T) (hlen : ∀ i, (TU i).length ≤ 50000) (hbs : base ≤ w.heap.size) (i : Nat) (hi : i < m) (b : Bp) (hb : b.int) (hv : b.vec.ok) (ha : In64 b.age) (hn : b.takes) (hu : (f i).up = true) :
    Calls Try.prog 23 #[.pointer (some ⟨d, 0, none⟩), .int .i64 i, b.v, .int .i64 T] w fun e w' => e = .returned (.int .i64 0) ∧ DocN w w' base d gp go cap id m (hearP id m T f i b.vec b.age) TU op ch := by
  obtain ⟨W, hW⟩ : ∃ W, w.alloc (.cells b.cells 34) = W := ⟨_, rfl⟩
  have hx : DocAt W base d gp go cap id m f TU AA CC op ch := by rw [← hW]; exact h.alloc _
  have hbe : Below w.heap.size w W := by rw [← hW]; exact bel_alloc w _
  have hbk : Blk W w.heap.size 34 b.cells := by rw [← hW]; exact Blk.new w _ _
  have HG := rbgood_any b hb W
  rw [hn.1] at HG
  have HG := Lib.hid HG
  have hro : b.role = 2 := hn.2
  have hcm : (m : Int) ≤ cap := by have := h.cap; omega
  have d1 := hx.d1
  have HX := Lib.hid (And.intro hx (And.intro hbe (And.intro hbk (And.intro hi hu))))
  have hgot := (hok i hi).got hv ha hu h0
  have hend : ∀ wz, DocAt wz base d gp go cap id m f TU AA CC op ch → Touch (DocQ base w) w wz →
      Calls Try.prog 46 #[.pointer (some ⟨d, 0, none⟩), .int .i64 T] ((set7 wz gp (i * 11 + 2) ⟨b.root, b.cost, b.bridge, b.port, b.age, 0, false⟩).setCell ⟨gp, i * 11 + 9, none⟩ (.int .i64 T)).drew fun e w' => e = .returned (.tuple #[]) ∧ DocN w w' base d gp go cap id m (hearP id m T f i b.vec b.age) TU op ch := fun wz hz ht => by
    have h7 := hz.set7 hi ⟨b.root, b.cost, b.bridge, b.port, b.age, 0, false⟩ rfl
    have h9 := h7.set_ (f' := updP f i (gotP (f i) b.vec b.age T)) (k := 9) hi (by decide) (.int .i64 T) (fun j hj => by unfold updP; rw [if_neg hj, if_neg hj]) (fun s => by unfold updP; rw [if_pos rfl, if_pos rfl]; rfl) (by unfold updP; rw [if_pos rfl, if_pos rfl]; exact ⟨rfl, rfl⟩)
    have ht2 := h.touch_p (set7_touch ht (fun _ => h.qp) (i * 11 + 2) ⟨b.root, b.cost, b.bridge, b.port, b.age, 0, false⟩) (i * 11 + 9) (.int .i64 T)
    have hp2 := hok.upd i hgot
    exact rupdate_drew h9 hm (fun j hj => (hp2 j hj).hd) hlen hbs T ht2
  have HE := Lib.hid hend
  obtain ⟨br, bc, bb, bp, ba, bo, bg⟩ := b
  simp only [Bp.v, Bp.cells] at *
  subst hro
  have j1 : (i : Int) < m := by omega
  have j0 : (0 : Int) ≤ i := by omega
  have b0 : W.cell? ⟨w.heap.size, 0, none⟩ = some (.int .i64 br) := hbk.cell 0
  have b1 : W.cell? ⟨w.heap.size, 1, none⟩ = some (.int .i64 bc) := hbk.cell 1
  have b2 : W.cell? ⟨w.heap.size, 2, none⟩ = some (.int .i64 bb) := hbk.cell 2
  have b3 : W.cell? ⟨w.heap.size, 3, none⟩ = some (.int .i64 bp) := hbk.cell 3
  have b4 : W.cell? ⟨w.heap.size, 4, none⟩ = some (.int .i64 ba) := hbk.cell 4
  have b5 : W.cell? ⟨w.heap.size, 5, none⟩ = some (.int .i64 2) := hbk.cell 5
  have b6 : W.cell? ⟨w.heap.size, 6, none⟩ = some (.bool bg) := hbk.cell 6
  clear h hx hbe hbk hi hu hn hend hgot hok hlen hbs
  go_enter Try.func23, Try.ntmps23
  go_wp2_with fail
  refine HG.out.mono ?_
  rintro e w1 ⟨rfl, e1⟩
  have k1 := HX.out.2.2.1.below e1 HX.out.2.2.1.lt
  have h1 := HX.out.1.below e1
  have t1 := h1.d1
  have hc := h1.ports.cells HX.out.2.2.2.1
  have p0 := hc.c0
  rw [HX.out.2.2.2.2] at p0
  have p2 := hc.c2
  have p3 := hc.c3
  have p4 := hc.c4
  have p5 := hc.c5
  have p6 := hc.c6
  have p7 := hc.c7
  have p8 := hc.c8
  have p9 := hc.c9
  have f2 := h1.ports.frozen (i * 11 + 2)
  have f3 := h1.ports.frozen (i * 11 + 3)
  have f4 := h1.ports.frozen (i * 11 + 4)
  have f5 := h1.ports.frozen (i * 11 + 5)
  have f6 := h1.ports.frozen (i * 11 + 6)
  have f7 := h1.ports.frozen (i * 11 + 7)
  have f8 := h1.ports.frozen (i * 11 + 8)
  have f9 := h1.ports.frozen (i * 11 + 9)
  have c0 : w1.cell? ⟨w.heap.size, 0, none⟩ = some (.int .i64 br) := k1.cell 0
  have c1 : w1.cell? ⟨w.heap.size, 1, none⟩ = some (.int .i64 bc) := k1.cell 1
  have c2 : w1.cell? ⟨w.heap.size, 2, none⟩ = some (.int .i64 bb) := k1.cell 2
  have c3 : w1.cell? ⟨w.heap.size, 3, none⟩ = some (.int .i64 bp) := k1.cell 3
  have c4 : w1.cell? ⟨w.heap.size, 4, none⟩ = some (.int .i64 ba) := k1.cell 4
  have c5 : w1.cell? ⟨w.heap.size, 5, none⟩ = some (.int .i64 2) := k1.cell 5
  have ht1 : Touch (DocQ base w) w w1 := bel_docq (HX.out.2.1.trans (e1.mono HX.out.2.1.size))
  have H1 := Lib.hid (And.intro h1 ht1)
  clear k1 h1 e1 b0 b1 b2 b3 b4 b5 b6 hc ht1
  have HP := Lib.hid (HE.out w1 H1.out.1 H1.out.2)
  clear hW hb hv ha h0 hm d1
  go_wp2_with fail
  go_region
  go_wp2_with fail
  refine HP.out.mono ?_
  rintro e w' ⟨rfl, h9⟩
  go_wp2_with fail
  go_ret
  exact ⟨rfl, h9⟩
/-- Whatever is set. -/
theorem DocN.same {w w' : World} (h : DocAt w base d gp go cap id m f TU AA CC op ch) (hb : Below w.heap.size w w') : DocN w w' base d gp go cap id m f TU op ch := ⟨⟨TU, AA, CC, h.below hb, fun _ => Nat.le_succ _⟩, bel_docq hb⟩
theorem rset_f (h : DocAt w base d gp go cap id m f TU AA CC op ch) (hm : m ≤ 6) {T : Int} (hok : POk T m f) (hlen : ∀ i, (TU i).length ≤ 50000) (hbs : base ≤ w.heap.size) (i : Int) (up : Bool) (cost : Int) :
    Calls Try.prog 22 #[.pointer (some ⟨d, 0, none⟩), .int .i64 i, .bool up, .int .i64 cost, .int .i64 T] w fun e w' => ∃ f' r, e = .returned (.int .i64 r) ∧ DocN w w' base d gp go cap id m f' TU op ch ∧
      (if (0 ≤ i ∧ i < m) ∧ 1 ≤ cost ∧ cost ≤ 16777216 then r = 0 ∧ f' = setP id m T f i.toNat up cost else r = 1 ∧ f' = f) := by
  by_cases hc : (0 ≤ i ∧ i < m) ∧ 1 ≤ cost ∧ cost ≤ 16777216
  · obtain ⟨⟨i0, i1⟩, c0, c1⟩ := hc
    obtain ⟨k, rfl⟩ : ∃ k : Nat, i = k := ⟨i.toNat, by omega⟩
    refine (rset_ok h hm hok hlen hbs k (by omega) up cost c0 c1).mono ?_
    rintro e w' ⟨rfl, h1⟩
    refine ⟨_, 0, rfl, h1, ?_⟩
    rw [if_pos ⟨⟨i0, i1⟩, c0, c1⟩, Int.toNat_natCast]
    exact ⟨rfl, rfl⟩
  · refine (rset_bad h i up cost T hc).mono ?_
    rintro e w' ⟨rfl, rfl⟩
    refine ⟨f, 1, rfl, DocN.same h (Below.refl _ _), ?_⟩
    rw [if_neg hc]
    exact ⟨rfl, rfl⟩
/-- Whatever is heard. -/
theorem rhear_f (h : DocAt w base d gp go cap id m f TU AA CC op ch) (hm : m ≤ 6) {T : Int} (hok : POk T m f) (h0 : 0 ≤ T) (hlen : ∀ i, (TU i).length ≤ 50000) (hbs : base ≤ w.heap.size) (i : Int) (b : Bp) (hb : b.int) (hbo : b.ok) :
    Calls Try.prog 23 #[.pointer (some ⟨d, 0, none⟩), .int .i64 i, b.v, .int .i64 T] w fun e w' => ∃ f' r, e = .returned (.int .i64 r) ∧ DocN w w' base d gp go cap id m f' TU op ch ∧
      (if (0 ≤ i ∧ i < m) ∧ b.takes then (if (f i.toNat).up = true then r = 0 ∧ f' = hearP id m T f i.toNat b.vec b.age else r = 7 ∧ f' = f) else r = 1 ∧ f' = f) := by
  by_cases hc : (0 ≤ i ∧ i < m) ∧ b.takes
  · obtain ⟨⟨i0, i1⟩, ht⟩ := hc
    obtain ⟨k, rfl⟩ : ∃ k : Nat, i = k := ⟨i.toNat, by omega⟩
    by_cases hu : (f k).up = true
    · refine (rhear_ok h hm hok h0 hlen hbs k (by omega) b hb ⟨hbo.root, hbo.cost, hbo.bridge, hbo.port⟩ hbo.age ht hu).mono ?_
      rintro e w' ⟨rfl, h1⟩
      refine ⟨_, 0, rfl, h1, ?_⟩
      rw [if_pos ⟨⟨i0, i1⟩, ht⟩, Int.toNat_natCast, if_pos hu]
      exact ⟨rfl, rfl⟩
    · refine (rhear_down h k (by omega) b hb T ht (by cases hx : (f k).up <;> simp_all)).mono ?_
      rintro e w' ⟨rfl, hb'⟩
      refine ⟨f, 7, rfl, DocN.same h hb', ?_⟩
      rw [if_pos ⟨⟨i0, i1⟩, ht⟩, Int.toNat_natCast, if_neg hu]
      exact ⟨rfl, rfl⟩
  · refine (rhear_bad h i b hb T hc).mono ?_
    rintro e w' ⟨rfl, hb'⟩
    refine ⟨f, 1, rfl, DocN.same h hb', ?_⟩
    rw [if_neg hc]
    exact ⟨rfl, rfl⟩
end
end Go.Proofs.Ytonkmbnnbpbhiaa
