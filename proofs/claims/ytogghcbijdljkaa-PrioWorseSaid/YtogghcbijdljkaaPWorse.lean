/- PrioWorse: for every input the law returns true. -/
import Derived.Test.YtogghcbijdljkaaVopen
import Derived.Test.YtogghcbijdljkaaVworse
namespace Go.Proofs.Ytogghcbijdljkaa
open Go.ChangeShapes Go.WideShapes Go.ChangeAt Go.RowKit

theorem NumsAt.cell {w : World} {g n j : Nat} {f : Nat → Int} (h : NumsAt w g n f j) {k : Nat} (hk : k < j) : w.cell? ⟨g, k, none⟩ = some (.int .i64 (f k)) := by
  obtain ⟨cs, hb, _, h2⟩ := h
  rw [hb.cell, h2 k hk]
theorem NumsAt.below_lt {w w' : World} {g n j B : Nat} {f : Nat → Int} (h : NumsAt w g n f j) (hb : Below B w w') (hg : g < B) : NumsAt w' g n f j := by
  obtain ⟨cs, hk, h1, h2⟩ := h
  exact ⟨cs, hk.below hb hg, h1, h2⟩
theorem NumsAt.lt {w : World} {g n j : Nat} {f : Nat → Int} (h : NumsAt w g n f j) : g < w.heap.size := by
  obtain ⟨cs, hk, _, _⟩ := h
  exact hk.lt
theorem HdAt.drew {w : World} {B : Nat} {A : Option Addr} {l : List Hd} (h : HdAt w B A l) : HdAt w.drew B A l := fun k hk => by
  obtain ⟨b, off, e, hl, hc⟩ := h k hk
  exact ⟨b, off, e, hl, hc.drew⟩
theorem HdAt.drew_self {w : World} {A : Option Addr} {l : List Hd} (h : HdAt w w.heap.size A l) : HdAt w.drew w.drew.heap.size A l := h.drew
structure WSt (w wr : World) (gR n g : Nat) (f : Nat → Int) (best : Vec) : Prop where
  nums : NumsAt wr gR n f n
  best : Blk wr g 49 best.arr
  bel : Below w.heap.size w wr
theorem WSt.go {w wr w' : World} {gR n g : Nat} {f : Nat → Int} {best : Vec} (h : WSt w wr gR n g f best) (hb : Below wr.heap.size wr w') : WSt w w' gR n g f best :=
  ⟨h.nums.below hb, h.best.below hb h.best.lt, h.bel.trans (hb.mono h.bel.size)⟩
theorem WSt.drew {w wr : World} {gR n g : Nat} {f : Nat → Int} {best : Vec} (h : WSt w wr gR n g f best) : WSt w wr.drew gR n g f best := ⟨h.nums.drew, h.best, h.bel.drew⟩
set_option maxRecDepth 100000 in
set_option maxHeartbeats 8000000 in
theorem walkPrioWorse (id : Int) (A : Option Addr) (c : Nat) (l : List Hd) (at_ more : Int) (w : World) (h0 : (Lit.int .i64 id).wf = true) (h1 : HdAt w w.heap.size A l ∧ (∀ x ∈ l, x.ok) ∧ (A = none → c = 0)) (_h2 : (Lit.int .i64 at_).wf = true) (_h3 : (Lit.int .i64 more).wf = true) :
    Calls Try.prog 12 #[.int .i64 id, .slice A l.length c, .int .i64 at_, .int .i64 more] w fun e w' => e = .returned (.bool true) ∧ Below w.heap.size w w' := by
  have HAL := Lib.hid (alive_any w)
  have H1 := Lib.hid h1
  have HID := Lib.hid (wf_in h0)
  obtain ⟨n, hn⟩ : ∃ n, l.length = n := ⟨_, rfl⟩
  have HN := Lib.hid hn
  rw [hn]
  clear h1 hn h0
  by_cases hs : (20 : Int) < n
  · have d1 : decide ((20 : Int) < n) = true := decide_eq_true hs
    go_enter Try.func12, Try.ntmps12
    go_wp2_with fail
    refine HAL.out.mono ?_
    rintro e w1 ⟨rfl, b1⟩
    go_wp2_with fail
    go_ret
    exact ⟨rfl, b1⟩
  have d1 : decide ((20 : Int) < n) = false := decide_eq_false hs
  by_cases ha0 : at_ < 0
  · have d2 : decide (at_ < 0) = true := decide_eq_true ha0
    go_enter Try.func12, Try.ntmps12
    go_wp2_with fail
    refine HAL.out.mono ?_
    rintro e w1 ⟨rfl, b1⟩
    go_wp2_with fail
    go_ret
    exact ⟨rfl, b1⟩
  obtain ⟨k, rfl⟩ : ∃ k : Nat, at_ = k := ⟨at_.toNat, by omega⟩
  clear ha0
  have d2 : decide ((k : Int) < 0) = false := decide_eq_false (by omega)
  by_cases ha1 : n ≤ k
  · have d3 : decide ((n : Int) ≤ k) = true := decide_eq_true (by omega)
    go_enter Try.func12, Try.ntmps12
    go_wp2_with fail
    refine HAL.out.mono ?_
    rintro e w1 ⟨rfl, b1⟩
    go_wp2_with fail
    go_ret
    exact ⟨rfl, b1⟩
  have d3 : decide ((n : Int) ≤ k) = false := decide_eq_false (by omega)
  by_cases hm0 : more < 1
  · have d4 : decide (more < 1) = true := decide_eq_true hm0
    go_enter Try.func12, Try.ntmps12
    go_wp2_with fail
    refine HAL.out.mono ?_
    rintro e w1 ⟨rfl, b1⟩
    go_wp2_with fail
    go_ret
    exact ⟨rfl, b1⟩
  have d4 : decide (more < 1) = false := decide_eq_false hm0
  by_cases hm1 : 1048576 < more
  · have d5 : decide (1048576 < more) = true := decide_eq_true hm1
    go_enter Try.func12, Try.ntmps12
    go_wp2_with fail
    refine HAL.out.mono ?_
    rintro e w1 ⟨rfl, b1⟩
    go_wp2_with fail
    go_ret
    exact ⟨rfl, b1⟩
  have d5 : decide (1048576 < more) = false := decide_eq_false hm1
  have hk : k < n := by omega
  have HLE := Lib.hid (show n ≤ 20 ∧ 1 ≤ more ∧ more ≤ 1048576 by omega)
  obtain ⟨s, hse⟩ : ∃ s, bestTo id l n = s := ⟨_, rfl⟩
  have hok := bestTo_ok HID.out H1.out.2.1 l.length (Nat.le_refl _)
  have hwb := worse_best id l k more (by rw [HN.out]; exact hk)
  have hwr := worse_role id l k more (by rw [HN.out]; exact hk)
  rw [HN.out, hse] at hok hwb hwr
  have HSE := Lib.hid hse
  have HOK := Lib.hid hok
  have HWB := Lib.hid hwb
  have HWR := Lib.hid hwr
  clear hs ha1 hm0 hm1 hse hok hwb hwr
  go_enter Try.func12, Try.ntmps12
  go_wp2_with fail
  refine HAL.out.mono ?_
  rintro e w1 ⟨rfl, b1⟩
  have hb := roles_any A c id l w1 ((H1.out.1.below b1).more b1.size) H1.out.2.1 (by have := HN.out; have := HLE.out; omega)
  rw [HN.out, HSE.out] at hb
  have HB := Lib.hid hb
  have H2 := Lib.hid b1
  clear hb b1
  obtain ⟨bv, kk⟩ := s
  simp only [Vec.v, Vec.arr] at HB
  go_wp2_with fail
  refine HB.out.mono ?_
  rintro e w2 ⟨gR, rfl, hnums, hgR, b2⟩
  have h3 : WSt w (w2.alloc (.cells bv.arr 49)) gR n w2.heap.size (roleAt id l) bv :=
    ⟨hnums.below (bel_alloc w2 _), Blk.new w2 _ _, (H2.out.trans (b2.mono H2.out.size)).alloc (Nat.le_trans H2.out.size b2.size) _⟩
  have H3 := Lib.hid h3
  have hf3 := Lib.hid h3.bel
  have HGR := Lib.hid hnums.lt
  simp only [Vec.arr] at hf3
  clear hnums hgR b2 h3
  by_cases hkk : kk = k
  · have d6 : (kk == (k : Int)) = true := by simpa using hkk
    clear hkk
    go_wp2_with fail
    go_ret
    exact ⟨rfl, hf3.out⟩
  have d6 : (kk == (k : Int)) = false := by simpa using hkk
  have HKK := Lib.hid hkk
  by_cases hc1 : 1099511627776 < bv.cost
  · have d7 : decide (1099511627776 < bv.cost) = true := decide_eq_true hc1
    clear hkk hc1
    go_wp2_with fail
    go_ret
    exact ⟨rfl, hf3.out⟩
  have d7 : decide (1099511627776 < bv.cost) = false := decide_eq_false hc1
  have d8 : decide (bv.cost < 0) = false := decide_eq_false (by have h8 : 0 ≤ bv.cost := HOK.out.2; omega)
  have HC1 := Lib.hid (show bv.cost ≤ 1099511627776 by omega)
  clear hkk hc1
  -- the copy
  have hl0 : OwnH 71 ((w2.alloc (.cells bv.arr 49)).alloc (.cells #[] 71)) (w2.heap.size + 1) (some ⟨w2.heap.size + 1, 0, none⟩) 0 [] := by
    refine ⟨rfl, .inr ⟨w2.heap.size + 1, 0, #[], rfl, Nat.le_refl _, ?_, Nat.le_refl _, by decide, rfl, rfl⟩⟩
    have := Blk.new (w2.alloc (.cells bv.arr 49)) 71 #[]
    rw [show (w2.alloc (.cells bv.arr 49)).heap.size = w2.heap.size + 1 by simp] at this
    exact this
  have h3e := H3.out.go (bel_alloc (w2.alloc (.cells bv.arr 49)) (.cells #[] 71))
  have hszE : ((w2.alloc (.cells bv.arr 49)).alloc (.cells #[] 71)).heap.size = w2.heap.size + 2 := by simp
  obtain ⟨a', c', w4, hr, ho4, hg4⟩ := append_hd 57 71 Try.underlying57 hd_info ((w2.alloc (.cells bv.arr 49)).alloc (.cells #[] 71)) (w2.heap.size + 1) (some ⟨w2.heap.size + 1, 0, none⟩) 0 0 [] rfl hl0
    A c n w.heap.size l HN.out H1.out.2.2 (H1.out.1.below h3e.bel) (by have := HN.out; have := HLE.out; simp; omega) (by omega)
  rw [Nat.zero_add] at hr
  rw [List.nil_append] at ho4
  have hb4 : Below (w2.heap.size + 1) ((w2.alloc (.cells bv.arr 49)).alloc (.cells #[] 71)) w4 := bel_own hl0 hg4 (Nat.le_refl _) (by omega)
  have hb43 : Below (w2.alloc (.cells bv.arr 49)).heap.size (w2.alloc (.cells bv.arr 49)) w4 := by
    rw [show (w2.alloc (.cells bv.arr 49)).heap.size = w2.heap.size + 1 by simp]
    exact ((Below.refl _ _).alloc (by simp) _).trans hb4
  have h4 := H3.out.go hb43
  obtain ⟨g, rfl, hgb, hcs, hfz, hset⟩ := own_hd ho4 (k := k) (by rw [HN.out]; exact hk)
  obtain ⟨b, off, hA, hbl, hcl⟩ := H1.out.1 k (by rw [HN.out]; exact hk)
  subst hA
  have hcl := hcl.below h4.bel hbl
  obtain ⟨y, hy⟩ : ∃ y, l.getD k hd0 = y := ⟨_, rfl⟩
  rw [hy] at hcl
  have HY := Lib.hid hy
  obtain ⟨yr, yk, yb, yp, ya, yw, yn⟩ := y
  obtain ⟨q0, q1, q2, q3, q4, q5, q6⟩ := hcl
  have u0 : w4.cell? ⟨w2.heap.size, 0, none⟩ = some (.int .i64 bv.root) := h4.best.cell 0
  have u1 : w4.cell? ⟨w2.heap.size, 1, none⟩ = some (.int .i64 bv.cost) := h4.best.cell 1
  obtain ⟨m0, m0e⟩ := hcs 0 (by decide)
  obtain ⟨m1, m1e⟩ := hcs 1 (by decide)
  obtain ⟨m2, m2e⟩ := hcs 2 (by decide)
  obtain ⟨m3, m3e⟩ := hcs 3 (by decide)
  obtain ⟨m4, m4e⟩ := hcs 4 (by decide)
  obtain ⟨m5, m5e⟩ := hcs 5 (by decide)
  obtain ⟨m6, m6e⟩ := hcs 6 (by decide)
  rw [Nat.add_zero] at m0e
  have f0 := hfz (k * 7)
  have f1 := hfz (k * 7 + 1)
  have f2 := hfz (k * 7 + 2)
  have f3 := hfz (k * 7 + 3)
  have f4 := hfz (k * 7 + 4)
  have f5 := hfz (k * 7 + 5)
  have f6 := hfz (k * 7 + 6)
  have HR := Lib.hid hr
  have HSET := Lib.hid hset
  have H4 := Lib.hid (And.intro h4 hgb)
  have k0 : (0 : Int) ≤ k := by omega
  have k1 : (k : Int) < n := by omega
  have hwrap : IntKind.i64.wrap (bv.cost + more) = bv.cost + more := IntWalk.i64_in _ (by have := HC1.out; have := HLE.out; have h8 : 0 ≤ bv.cost := HOK.out.2; omega)
  simp only [Vec.arr] at HR
  clear hl0 h3e hszE hr ho4 hg4 hb4 hb43 h4 hgb hcs hfz hset hbl hy
  go_wp2_with (at_builtin; refine Lib.wpList_append_run _ rfl _ _ _ _ rfl _ _ rfl rfl _ _ HR.out ?_)
  go_big_region
  clear hwrap
  obtain ⟨W5, hW5⟩ : ∃ W5, (((((((w4.setCell ⟨g, k * 7, none⟩ (.int .i64 bv.root)).setCell ⟨g, k * 7 + 1, none⟩ (.int .i64 (bv.cost + more))).setCell ⟨g, k * 7 + 2, none⟩ (.int .i64 yb)).setCell ⟨g, k * 7 + 3, none⟩ (.int .i64 yp)).setCell ⟨g, k * 7 + 4, none⟩ (.int .i64 1)).setCell ⟨g, k * 7 + 5, none⟩ (.int .i64 1)).setCell ⟨g, k * 7 + 6, none⟩ (.bool false)).drew = W5 := ⟨_, rfl⟩
  rw [hW5]
  obtain ⟨x', hx'⟩ : ∃ x', worseH bv (l.getD k hd0) more = x' := ⟨_, rfl⟩
  have hxe : x' = ⟨bv.root, bv.cost + more, yb, yp, 1, 1, false⟩ := by rw [← hx', HY.out]; rfl
  have hset := HSET.out x'
  have hWs : (setHd w4 g k x').drew = W5 := by rw [← hW5, hxe]; rfl
  have hat5 : HdAt W5 W5.heap.size (some ⟨g, 0, none⟩) (l.set k x') := by rw [← hWs]; exact hset.1.drew_self
  have hb5 : Below (w2.heap.size + 1) w4 W5 := by rw [← hWs]; exact hset.2.drew
  have h5 : WSt w W5 gR n w2.heap.size (roleAt id l) bv :=
    ⟨H4.out.1.nums.below_lt hb5 (by have := HGR.out; omega), H4.out.1.best.below hb5 (Nat.lt_succ_self _), H4.out.1.bel.trans (hb5.mono (by have := H2.out.size; have := HGR.out; have h9 := H3.out.bel.size; simp at h9; omega))⟩
  have hxok : x'.ok := by
    have hy : (l.getD k hd0).ok := H1.out.2.1 _ (by rw [List.getD_eq_getElem?_getD, List.getElem?_eq_getElem (by rw [HN.out]; exact hk : k < l.length)]; exact List.getElem_mem _)
    rw [HY.out] at hy
    rw [hxe]
    have hbo := HOK.out.1
    exact ⟨⟨hbo.1, ⟨by show -9223372036854775808 ≤ bv.cost + more; have h8 : 0 ≤ bv.cost := HOK.out.2; have := HLE.out; omega, by show bv.cost + more ≤ 9223372036854775807; have := HC1.out; have := HLE.out; omega⟩, hy.1.2.2.1, hy.1.2.2.2⟩, ⟨by show (-9223372036854775808 : Int) ≤ 1; omega, by show (1 : Int) ≤ 9223372036854775807; omega⟩, ⟨by show (-9223372036854775808 : Int) ≤ 1; omega, by show (1 : Int) ≤ 9223372036854775807; omega⟩⟩
  have hlok : ∀ x ∈ l.set k x', x.ok := fun x hx => by
    rcases List.mem_or_eq_of_mem_set hx with h | rfl
    · exact H1.out.2.1 x h
    · exact hxok
  have hwb := HWB.out HKK.out HOK.out.2 HC1.out HLE.out.2.1 HLE.out.2.2
  have hwr := HWR.out HKK.out HOK.out.2 HC1.out HLE.out.2.1 HLE.out.2.2
  rw [hx'] at hwb
  have hwr1 : roleAt id (l.set k x') k = 2 := by rw [← hx']; exact hwr.1
  have hwr2 : ∀ i, i ≠ k → roleAt id (l.set k x') i = roleAt id l i := by rw [← hx']; exact hwr.2
  have hb := roles_any (some ⟨g, 0, none⟩) c' id (l.set k x') W5 hat5 hlok (by rw [List.length_set]; have := HN.out; have := HLE.out; omega)
  rw [List.length_set, HN.out, hwb] at hb
  have HB2 := Lib.hid hb
  have H5 := Lib.hid h5
  have HW1 := Lib.hid hwr1
  have HW2 := Lib.hid hwr2
  simp only [Vec.v, Vec.arr] at HB2
  clear hW5 hxe hset hWs hat5 hb5 h5 hxok hlok hwb hwr hwr1 hwr2 hb m0e m1e m2e m3e m4e m5e m6e f0 f1 f2 f3 f4 f5 f6 q0 q1 q2 q3 q4 q5 q6 u0 u1 hx' HWB HWR
  go_wp2_with fail
  refine HB2.out.mono ?_
  rintro e w6 ⟨gQ, rfl, hnq, _, b6⟩
  have h6 := (H5.out.go b6).go (bel_alloc w6 (.cells bv.arr 49))
  have hnq6 := hnq.below (bel_alloc w6 (.cells bv.arr 49))
  have u0 : (w6.alloc (.cells bv.arr 49)).cell? ⟨w2.heap.size, 0, none⟩ = some (.int .i64 bv.root) := h6.best.cell 0
  have u1 : (w6.alloc (.cells bv.arr 49)).cell? ⟨w2.heap.size, 1, none⟩ = some (.int .i64 bv.cost) := h6.best.cell 1
  have u2 : (w6.alloc (.cells bv.arr 49)).cell? ⟨w2.heap.size, 2, none⟩ = some (.int .i64 bv.bridge) := h6.best.cell 2
  have u3 : (w6.alloc (.cells bv.arr 49)).cell? ⟨w2.heap.size, 3, none⟩ = some (.int .i64 bv.port) := h6.best.cell 3
  have u4 := hnq6.cell hk
  rw [HW1.out] at u4
  have H6 := Lib.hid (And.intro h6 hnq6)
  simp only [Vec.arr] at u0 u1 u2 u3 u4 H6
  clear b6 h6 hnq hnq6
  go_wp2_with fail
  clear u0 u1 u2 u3 u4
  go_loopw [110] (fun iv wr => ∃ (j : Nat), j ≤ n ∧ iv = .int .i64 j ∧ Hid (WSt w wr gR n w2.heap.size (roleAt id l) bv ∧ NumsAt wr gQ n (roleAt id (l.set k x')) n)) (fun iv _ => n - (intOf iv).toNat)
  case atStart => exact ⟨0, Nat.zero_le _, rfl, H6⟩
  case round =>
    obtain ⟨j, hj, rfl, hS⟩ := hrel
    by_cases hlt : j < n
    · have cR := hS.out.1.nums.cell hlt
      have cQ := hS.out.2.cell hlt
      have j1 : (j : Int) < n := by omega
      have j0 : (0 : Int) ≤ j := by omega
      have HJ := Lib.hid (show wrap64 ((j : Int) + 1) = (j : Int) + 1 from IntWalk.wrap64_in _ (by have := HLE.out; omega))
      have HS2 := Lib.hid (And.intro hS.out.1.drew hS.out.2.drew)
      by_cases hjk : j = k
      · subst hjk
        have d9 : ((j : Int) != (j : Int)) = false := by simp
        clear hj
        go_wp2_with fail
        go_big_region
        go_wp2_with fail
        go_roundw
        case rel =>
          rw [HJ.out]
          exact ⟨j + 1, hlt, by rw [Int.natCast_add]; rfl, HS2⟩
        case measure =>
          rw [HJ.out]
          show n - ((j : Int) + 1).toNat < n - ((j : Int)).toNat
          omega
      · rw [HW2.out j hjk] at cQ
        have d9 : ((j : Int) != (k : Int)) = true := by simpa using fun h => hjk (by omega)
        clear hj hjk
        go_wp2_with fail
        go_big_region
        go_wp2_with fail
        go_roundw
        case rel =>
          rw [HJ.out]
          exact ⟨j + 1, hlt, by rw [Int.natCast_add]; rfl, HS2⟩
        case measure =>
          rw [HJ.out]
          show n - ((j : Int) + 1).toNat < n - ((j : Int)).toNat
          omega
    · obtain rfl : n = j := by omega
      go_wp2_with fail
      go_ret
      exact ⟨rfl, hS.out.1.bel⟩
set_option maxRecDepth 100000 in
theorem liftedPrioWorse (os : Os) (started : os.Started) (H : Type) (enc : TypeId × Value → H) :
    ReturnsInHanded {} Try.checked os 12 .any (Rows.prioWorseSpec.pre6 enc Try.prog Try.f12 Rows.prioWorseRow.domain false) (Rows.prioWorseSpec.post enc Try.prog Try.f12 false true false false) := by
  refine returnsInHanded_of_change (C := Try.checked) own started (by kernel_rfl) Try.func12
    (ChangeSpec.witness6 (enc := enc) (C := Try.checked) false ⟨#[], #[.int .i64 0, .slice none 0 0, .int .i64 0, .int .i64 0], []⟩ 8 (by kernel_rfl) (by kernel_rfl) (by kernel_rfl) (by kernel_rfl)) ?_
  intro W base args ds gs before hval0 hW hcnd _
  have hval : ∀ (j : Nat) t v, Try.f12.params[j]? = some t → args[j]? = some v → Value.okWide Try.prog W .any base t v := hval0
  have hW' := hW
  obtain ⟨p, q, hA0, hV, rfl, hfz, hnd⟩ := hW
  have hA : DataW.TrodAll enc Try.prog W 0 (fun _ => true) true Try.f12.params.toList args.toList ds p := hA0
  rw [Try.params12] at hA hval
  obtain ⟨v0, vs0, d0, ds0, p0, q0, hargs, rfl, rfl, h0, r0⟩ := trodAll_cons hA
  obtain ⟨v1, vs1, d1, ds1, p1, q1, rfl, rfl, rfl, h1, r1⟩ := trodAll_cons r0
  obtain ⟨v2, vs2, d2, ds2, p2, q2, rfl, rfl, rfl, h2, r2⟩ := trodAll_cons r1
  obtain ⟨v3, vs3, d3, ds3, p3, q3, rfl, rfl, rfl, h3, r3⟩ := trodAll_cons r2
  obtain ⟨rfl, rfl, rfl⟩ := trodAll_nil r3
  obtain rfl : args = #[v0, v1, v2, v3] := by cases args; simp_all
  obtain ⟨rfl, rfl⟩ := trodVars_none hV
  obtain ⟨a0, rfl, rfl, rfl, w0⟩ := open_int Try.underlying3 (hval 0 3 v0 rfl rfl) h0
  obtain ⟨a1', len1', cap1', rfl⟩ := okWide_slice Try.underlying57 (hval 1 57 v1 rfl rfl)
  have k1 := h1
  have lt1 : ∀ x ∈ p1, x.block < W.heap.size := by obtain ⟨m, hm⟩ := k1; exact DataW.trod_lt m _ _ _ hm
  obtain ⟨a1, cap1, l1, w1, e1, e2, e3⟩ : ∃ a cap, ∃ l : List Hd, (HdAt W W.heap.size a l ∧ (∀ x ∈ l, x.ok) ∧ (a = none → cap = 0)) ∧ a1' = a ∧ len1' = l.length ∧ cap1' = cap := by
    obtain ⟨fuel, hf⟩ := h1
    obtain ⟨a, cap, l, hcs, q⟩ := open_hds hf
    simp [Value.cells] at hcs
    obtain ⟨rfl, rfl, rfl⟩ := hcs
    exact ⟨_, _, l, q, rfl, rfl, rfl⟩
  subst e1 e2 e3
  obtain ⟨a2, rfl, rfl, rfl, w2⟩ := open_int Try.underlying3 (hval 2 3 v2 rfl rfl) h2
  obtain ⟨a3, rfl, rfl, rfl, w3⟩ := open_int Try.underlying3 (hval 3 3 v3 rfl rfl) h3
  clear hA0 hval0
  refine (walkPrioWorse a0 a1' cap1' l1 a2 a3 W w0 w1 w2 w3).mono fun e W' ⟨he, bel⟩ => ?_
  subst he
  exact ⟨_, rfl, _, _, _, [], _, [], hW', trodAll_mk1 (shut_bool Try.underlying4 _), (trodAll_cons_mk (shut_int Try.underlying3 w0) (trodAll_cons_mk (Below.trod laidOut (by kernel_rfl) (of_decide_eq_true (by kernel_rfl)) k1 bel lt1) (trodAll_cons_mk (shut_int Try.underlying3 w2) (trodAll_cons_mk (shut_int Try.underlying3 w3) trodAll_mk0)))), rfl, bel.frame _, fun h => by cases h⟩

theorem overPrioWorse : Rows.prioWorseRow.holds Try.pinned (OpenSpec.ofChange Rows.prioWorseSpec) :=
  OpenClaim.holds_of_wide 12 Try.f12 rfl rfl rfl rfl rfl rfl rfl ⟨rfl, rfl, rfl, rfl, rfl⟩ rfl rfl rfl rfl rfl (by kernel_rfl) Try.func12 (by kernel_rfl)
    (of_decide_eq_true (by kernel_rfl)) (by unfold Func.isWrapper; first | (rw [if_pos (by decide +kernel)]; kernel_rfl) | (rw [if_neg (by decide +kernel)]; exact ⟨rfl, rfl⟩))
    (fun os started H enc _ => liftedPrioWorse os started H enc)

/-- The statement. -/
theorem prioWorse_holds : Rows.PrioWorseSaid := overPrioWorse

#print axioms prioWorse_holds
end Go.Proofs.Ytogghcbijdljkaa
