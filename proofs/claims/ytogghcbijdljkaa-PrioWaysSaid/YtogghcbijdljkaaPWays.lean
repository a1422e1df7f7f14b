/- PrioWays: for every input the law returns true. -/
import Derived.Test.YtogghcbijdljkaaVopen
namespace Go.Proofs.Ytogghcbijdljkaa
open Go.ChangeShapes Go.WideShapes Go.ChangeAt Go.RowKit

theorem through_worse (v : Vec) (c : Int) (h : v.ok) : ¬ ltV (throughV v c) v := by
  have := sumS_ge v.cost c h.2.1.2
  unfold ltV throughV
  simp only
  omega
/-- Two vectors in blocks of their own. -/
structure Two (B : Nat) (W w : World) (g g' : Nat) (a b : Vec) : Prop where
  b1 : Blk w g 49 a.arr
  b2 : Blk w g' 49 b.arr
  bel : Below B W w
  le : B ≤ w.heap.size
theorem Two.go {B : Nat} {W w w' : World} {g g' : Nat} {a b : Vec} (h : Two B W w g g' a b) (hb : Below w.heap.size w w') : Two B W w' g g' a b :=
  ⟨h.b1.below hb h.b1.lt, h.b2.below hb h.b2.lt, h.bel.trans (hb.mono h.le), Nat.le_trans h.le hb.size⟩
theorem Two.drew {B : Nat} {W w : World} {g g' : Nat} {a b : Vec} (h : Two B W w g g' a b) : Two B W w.drew g g' a b := ⟨h.b1, h.b2, h.bel.drew, h.le⟩
theorem Two.cells {B : Nat} {W w : World} {g g' : Nat} {a b : Vec} (h : Two B W w g g' a b) :
    w.cell? ⟨g, 0, none⟩ = some (.int .i64 a.root) ∧ w.cell? ⟨g, 1, none⟩ = some (.int .i64 a.cost) ∧ w.cell? ⟨g, 2, none⟩ = some (.int .i64 a.bridge) ∧ w.cell? ⟨g, 3, none⟩ = some (.int .i64 a.port) ∧
    w.cell? ⟨g', 0, none⟩ = some (.int .i64 b.root) ∧ w.cell? ⟨g', 1, none⟩ = some (.int .i64 b.cost) ∧ w.cell? ⟨g', 2, none⟩ = some (.int .i64 b.bridge) ∧ w.cell? ⟨g', 3, none⟩ = some (.int .i64 b.port) :=
  ⟨h.b1.cell 0, h.b1.cell 1, h.b1.cell 2, h.b1.cell 3, h.b2.cell 0, h.b2.cell 1, h.b2.cell 2, h.b2.cell 3⟩
set_option maxRecDepth 100000 in
set_option maxHeartbeats 4000000 in
theorem walkPrioWays (v : Vec) (c id port : Int) (w : World) (h0 : v.ok) (h1 : (Lit.int .i64 c).wf = true) (_h2 : (Lit.int .i64 id).wf = true) (_h3 : (Lit.int .i64 port).wf = true) :
    Calls Try.prog 7 #[v.v, .int .i64 c, .int .i64 id, .int .i64 port] w fun e w' => e = .returned (.bool true) ∧ Below w.heap.size w w' := by
  have HAL := Lib.hid (alive_any (w.alloc (.cells v.arr 49)))
  have hk := Blk.new w 49 v.arr
  have hb := bel_alloc w (.cells v.arr 49)
  have HK := Lib.hid (And.intro hk hb)
  have ht := fun w => through_any v c h0.2.1 (wf_in h1) w
  have HSU := Lib.hid (fun w => rsum_any v.cost c h0.2.1 (wf_in h1) w)
  have HOW := Lib.hid (fun w => own_any id w)
  have HOF := Lib.hid (fun w => offer_any v id port w)
  have hbe := fun w => better_any (throughV v c) v w
  rw [decide_eq_false (through_worse v c h0)] at hbe
  have HBE := Lib.hid hbe
  have HT := Lib.hid ht
  obtain ⟨su, hsu⟩ : ∃ su, sumS v.cost c = su := ⟨_, rfl⟩
  obtain ⟨r, k, b, p⟩ := v
  simp only [Vec.v, Vec.arr, throughV, ownV, offerV] at HT HBE HOW HOF HSU hsu ⊢
  rw [hsu] at HT HBE HSU
  clear hk hb ht hbe hsu h0 h1
  go_enter Try.func7, Try.ntmps7
  go_wp2_with fail
  refine HAL.out.mono ?_
  rintro e w1 ⟨rfl, b1⟩
  have k1 := HK.out.1.below b1 HK.out.1.lt
  have x0 : w1.cell? ⟨w.heap.size, 0, none⟩ = some (.int .i64 r) := k1.cell 0
  have x1 : w1.cell? ⟨w.heap.size, 1, none⟩ = some (.int .i64 k) := k1.cell 1
  have x2 : w1.cell? ⟨w.heap.size, 2, none⟩ = some (.int .i64 b) := k1.cell 2
  have x3 : w1.cell? ⟨w.heap.size, 3, none⟩ = some (.int .i64 p) := k1.cell 3
  have K1 := Lib.hid (And.intro k1 (HK.out.2.trans (b1.mono HK.out.2.size)))
  clear k1 b1
  go_wp2_with fail
  refine (HT.out _).mono ?_
  rintro e w2 ⟨rfl, b2⟩
  have H0 : Hid (Two w.heap.size w (w2.alloc (.cells (Vec.mk r su b p).arr 49)).drew w.heap.size w2.heap.size ⟨r, k, b, p⟩ ⟨r, su, b, p⟩) :=
    Lib.hid ⟨((K1.out.1.below b2 K1.out.1.lt).alloc _).drew, (Blk.new w2 _ _).drew, ((K1.out.2.trans (b2.mono K1.out.2.size)).alloc (Nat.le_trans K1.out.2.size b2.size) _).drew, Nat.le_trans (Nat.le_trans K1.out.2.size b2.size) (bel_alloc w2 _).size⟩
  clear x0 x1 x2 x3 b2
  go_wp2_with fail
  go_region_held3 (fun w' => w'.cell? ⟨w.heap.size, 0, none⟩ = some (.int .i64 r) ∧ w'.cell? ⟨w.heap.size, 1, none⟩ = some (.int .i64 k) ∧ w'.cell? ⟨w.heap.size, 2, none⟩ = some (.int .i64 b) ∧ w'.cell? ⟨w.heap.size, 3, none⟩ = some (.int .i64 p) ∧ w'.cell? ⟨w2.heap.size, 0, none⟩ = some (.int .i64 r) ∧ w'.cell? ⟨w2.heap.size, 1, none⟩ = some (.int .i64 su) ∧ w'.cell? ⟨w2.heap.size, 2, none⟩ = some (.int .i64 b) ∧ w'.cell? ⟨w2.heap.size, 3, none⟩ = some (.int .i64 p))
    (first | exact H3.out.cells | exact H2.out.cells | exact H1.out.cells | exact H0.out.cells)
    (first
      | (go_at_call 30; (with_reducible (refine (HOW.out _).mono ?_)); rintro e w3 ⟨rfl, b3⟩; have H1 := Lib.hid (H0.out.go b3))
      | (go_at_call 31; (with_reducible (refine (HSU.out _).mono ?_)); rintro e w' ⟨rfl, rfl⟩)
      | (go_at_call 32; (with_reducible (refine (HOF.out _).mono ?_)); rintro e w4 ⟨rfl, b4⟩; have H2 := Lib.hid (H1.out.go b4))
      | (go_at_call 28; (with_reducible (refine (HBE.out _).mono ?_)); rintro e w5 ⟨rfl, b5⟩; have H3 := Lib.hid (H2.out.go b5)))
  all_goals
    go_wp2_with fail
    go_ret
    exact ⟨rfl, H3.out.bel⟩
set_option maxRecDepth 100000 in
theorem liftedPrioWays (os : Os) (started : os.Started) (H : Type) (enc : TypeId × Value → H) :
    ReturnsInHanded {} Try.checked os 7 .any (Rows.prioWaysSpec.pre6 enc Try.prog Try.f7 Rows.prioWaysRow.domain false) (Rows.prioWaysSpec.post enc Try.prog Try.f7 false true false false) := by
  refine returnsInHanded_of_change (C := Try.checked) own started (by kernel_rfl) Try.func7
    (ChangeSpec.witness6 (enc := enc) (C := Try.checked) false ⟨#[], #[.agg #[.int .i64 0, .int .i64 0, .int .i64 0, .int .i64 0], .int .i64 0, .int .i64 0, .int .i64 0], []⟩ 8 (by kernel_rfl) (by kernel_rfl) (by kernel_rfl) (by kernel_rfl)) ?_
  intro W base args ds gs before hval0 hW hcnd _
  have hval : ∀ (j : Nat) t v, Try.f7.params[j]? = some t → args[j]? = some v → Value.okWide Try.prog W .any base t v := hval0
  have hW' := hW
  obtain ⟨p, q, hA0, hV, rfl, hfz, hnd⟩ := hW
  have hA : DataW.TrodAll enc Try.prog W 0 (fun _ => true) true Try.f7.params.toList args.toList ds p := hA0
  rw [Try.params7] at hA hval
  obtain ⟨v0, vs0, d0, ds0, p0, q0, hargs, rfl, rfl, h0, r0⟩ := trodAll_cons hA
  obtain ⟨v1, vs1, d1, ds1, p1, q1, rfl, rfl, rfl, h1, r1⟩ := trodAll_cons r0
  obtain ⟨v2, vs2, d2, ds2, p2, q2, rfl, rfl, rfl, h2, r2⟩ := trodAll_cons r1
  obtain ⟨v3, vs3, d3, ds3, p3, q3, rfl, rfl, rfl, h3, r3⟩ := trodAll_cons r2
  obtain ⟨rfl, rfl, rfl⟩ := trodAll_nil r3
  obtain rfl : args = #[v0, v1, v2, v3] := by cases args; simp_all
  obtain ⟨rfl, rfl⟩ := trodVars_none hV
  have k0 := h0
  have lt0 : ∀ x ∈ p0, x.block < W.heap.size := by obtain ⟨m, hm⟩ := k0; exact DataW.trod_lt m _ _ _ hm
  obtain ⟨b0, rfl, w0⟩ := open_vec (hval 0 49 v0 rfl rfl) h0
  obtain ⟨a1, rfl, rfl, rfl, w1⟩ := open_int Try.underlying3 (hval 1 3 v1 rfl rfl) h1
  obtain ⟨a2, rfl, rfl, rfl, w2⟩ := open_int Try.underlying3 (hval 2 3 v2 rfl rfl) h2
  obtain ⟨a3, rfl, rfl, rfl, w3⟩ := open_int Try.underlying3 (hval 3 3 v3 rfl rfl) h3
  clear hA0 hval0
  refine (walkPrioWays b0 a1 a2 a3 W w0 w1 w2 w3).mono fun e W' ⟨he, bel⟩ => ?_
  subst he
  exact ⟨_, rfl, _, _, _, [], _, [], hW', trodAll_mk1 (shut_bool Try.underlying4 _), (trodAll_cons_mk (Below.trod laidOut (by kernel_rfl) (of_decide_eq_true (by kernel_rfl)) k0 bel lt0) (trodAll_cons_mk (shut_int Try.underlying3 w1) (trodAll_cons_mk (shut_int Try.underlying3 w2) (trodAll_cons_mk (shut_int Try.underlying3 w3) trodAll_mk0)))), rfl, bel.frame _, fun h => by cases h⟩

theorem overPrioWays : Rows.prioWaysRow.holds Try.pinned (OpenSpec.ofChange Rows.prioWaysSpec) :=
  OpenClaim.holds_of_wide 7 Try.f7 rfl rfl rfl rfl rfl rfl rfl ⟨rfl, rfl, rfl, rfl, rfl⟩ rfl rfl rfl rfl rfl (by kernel_rfl) Try.func7 (by kernel_rfl)
    (of_decide_eq_true (by kernel_rfl)) (by unfold Func.isWrapper; first | (rw [if_pos (by decide +kernel)]; kernel_rfl) | (rw [if_neg (by decide +kernel)]; exact ⟨rfl, rfl⟩))
    (fun os started H enc _ => liftedPrioWays os started H enc)

/-- The statement. -/
theorem prioWays_holds : Rows.PrioWaysSaid := overPrioWays

#print axioms prioWays_holds
end Go.Proofs.Ytogghcbijdljkaa
