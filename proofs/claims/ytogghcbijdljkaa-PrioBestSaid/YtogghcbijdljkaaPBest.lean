/- PrioBest: for every input the law returns true. -/
import Derived.Test.YtogghcbijdljkaaVopen
import Derived.Test.YtogghcbijdljkaaVroles
namespace Go.Proofs.Ytogghcbijdljkaa
open Go.ChangeShapes Go.WideShapes Go.ChangeAt Go.RowKit

set_option maxRecDepth 100000 in
set_option maxHeartbeats 4000000 in
theorem walkPrioBest (id : Int) (A : Option Addr) (c : Nat) (l : List Hd) (w : World) (_h0 : (Lit.int .i64 id).wf = true) (h1 : HdAt w w.heap.size A l ∧ (∀ x ∈ l, x.ok) ∧ (A = none → c = 0)) :
    Calls Try.prog 8 #[.int .i64 id, .slice A l.length c] w fun e w' => e = .returned (.bool true) ∧ Below w.heap.size w w' := by
  have HAL := Lib.hid (alive_any w)
  have H1 := Lib.hid h1
  obtain ⟨n, hn⟩ : ∃ n, l.length = n := ⟨_, rfl⟩
  have HN := Lib.hid hn
  rw [hn]
  clear h1 hn
  by_cases hs : n ≤ 20
  · have d1 : decide ((20 : Int) < n) = false := decide_eq_false (by omega)
    have hle := Lib.hid hs
    clear hs
    go_enter Try.func8, Try.ntmps8
    go_wp2_with fail
    refine HAL.out.mono ?_
    rintro e w1 ⟨rfl, b1⟩
    have hb := best_any A c id l w1 ((H1.out.1.below b1).more b1.size) H1.out.2.1 (by have := HN.out; have := hle.out; omega)
    rw [HN.out] at hb
    have HB := Lib.hid hb
    have H2 := Lib.hid b1
    clear hb b1
    go_wp2_with fail
    refine HB.out.mono ?_
    rintro e w2 ⟨rfl, b2⟩
    obtain ⟨s, hse⟩ : ∃ s, bestTo id l n = s := ⟨_, rfl⟩
    have HSE := Lib.hid hse
    rw [hse]
    clear hse
    obtain ⟨bv, at_⟩ := s
    have b3 := (H2.out.trans (b2.mono H2.out.size)).alloc (Nat.le_trans H2.out.size b2.size) (.cells bv.arr 49)
    have kz := Blk.new w2 49 bv.arr
    have hp := plain_any A c l (w2.alloc (.cells bv.arr 49)) ((H1.out.1.below b3).more b3.size) (by have := HN.out; have := hle.out; omega)
    rw [HN.out] at hp
    have HP := Lib.hid hp
    have H3 := Lib.hid (And.intro b3 kz)
    simp only [Vec.v, Vec.arr] at HP ⊢
    clear hp b2 b3 kz
    go_wp2_with fail
    refine HP.out.mono ?_
    rintro e w3 ⟨A', c', rfl, hat, b4⟩
    have hb := rbest_any A' c' id l w3 hat H1.out.2.1 (by have := HN.out; have := hle.out; omega)
    rw [HN.out, HSE.out] at hb
    have HB := Lib.hid hb
    have H4 := Lib.hid (And.intro (H3.out.1.trans (b4.mono H3.out.1.size)) (H3.out.2.below b4 H3.out.2.lt))
    simp only [Vec.v, Vec.arr] at HB
    clear hb b4 hat
    go_wp2_with fail
    refine HB.out.mono ?_
    rintro e w4 ⟨rfl, b5⟩
    have kz := (H4.out.2.below b5 H4.out.2.lt).alloc (.cells bv.arr 49)
    have x0 : (w4.alloc (.cells bv.arr 49)).cell? ⟨w2.heap.size, 0, none⟩ = some (.int .i64 bv.root) := kz.cell 0
    have x1 : (w4.alloc (.cells bv.arr 49)).cell? ⟨w2.heap.size, 1, none⟩ = some (.int .i64 bv.cost) := kz.cell 1
    have x2 : (w4.alloc (.cells bv.arr 49)).cell? ⟨w2.heap.size, 2, none⟩ = some (.int .i64 bv.bridge) := kz.cell 2
    have x3 : (w4.alloc (.cells bv.arr 49)).cell? ⟨w2.heap.size, 3, none⟩ = some (.int .i64 bv.port) := kz.cell 3
    have hf := (H4.out.1.trans (b5.mono H4.out.1.size)).alloc (Nat.le_trans H4.out.1.size b5.size) (.cells bv.arr 49)
    simp only [Vec.arr] at x0 x1 x2 x3 hf
    clear b5 kz
    go_wp2_with fail
    go_ret
    exact ⟨rfl, hf⟩
  · have d1 : decide ((20 : Int) < n) = true := decide_eq_true (by omega)
    clear hs
    go_enter Try.func8, Try.ntmps8
    go_wp2_with fail
    refine HAL.out.mono ?_
    rintro e w1 ⟨rfl, b1⟩
    go_wp2_with fail
    go_ret
    exact ⟨rfl, b1⟩
set_option maxRecDepth 100000 in
theorem liftedPrioBest (os : Os) (started : os.Started) (H : Type) (enc : TypeId × Value → H) :
    ReturnsInHanded {} Try.checked os 8 .any (Rows.prioBestSpec.pre6 enc Try.prog Try.f8 Rows.prioBestRow.domain false) (Rows.prioBestSpec.post enc Try.prog Try.f8 false true false false) := by
  refine returnsInHanded_of_change (C := Try.checked) own started (by kernel_rfl) Try.func8
    (ChangeSpec.witness6 (enc := enc) (C := Try.checked) false ⟨#[], #[.int .i64 0, .slice none 0 0], []⟩ 8 (by kernel_rfl) (by kernel_rfl) (by kernel_rfl) (by kernel_rfl)) ?_
  intro W base args ds gs before hval0 hW hcnd _
  have hval : ∀ (j : Nat) t v, Try.f8.params[j]? = some t → args[j]? = some v → Value.okWide Try.prog W .any base t v := hval0
  have hW' := hW
  obtain ⟨p, q, hA0, hV, rfl, hfz, hnd⟩ := hW
  have hA : DataW.TrodAll enc Try.prog W 0 (fun _ => true) true Try.f8.params.toList args.toList ds p := hA0
  rw [Try.params8] at hA hval
  obtain ⟨v0, vs0, d0, ds0, p0, q0, hargs, rfl, rfl, h0, r0⟩ := trodAll_cons hA
  obtain ⟨v1, vs1, d1, ds1, p1, q1, rfl, rfl, rfl, h1, r1⟩ := trodAll_cons r0
  obtain ⟨rfl, rfl, rfl⟩ := trodAll_nil r1
  obtain rfl : args = #[v0, v1] := by cases args; simp_all
  obtain ⟨rfl, rfl⟩ := trodVars_none hV
  obtain ⟨a0, rfl, rfl, rfl, w0⟩ := open_int Try.underlying3 (hval 0 3 v0 rfl rfl) h0
  obtain ⟨a1', len1', cap1', rfl⟩ := okWide_slice Try.underlying57 (hval 1 57 v1 rfl rfl)
  have k1 := h1
  have lt1 : ∀ x ∈ p1, x.block < W.heap.size := by obtain ⟨m, hm⟩ := k1; exact DataW.trod_lt m _ _ _ hm
  obtain ⟨a1, cap1, l1, w1, e1, e2, e3⟩ : ∃ a cap, ∃ l : List Hd, (HdAt W W.heap.size a l ∧ (∀ x ∈ l, x.ok) ∧ (a = none → cap = 0)) ∧ a1' = a ∧ len1' = l.length ∧ cap1' = cap := by
    obtain ⟨fuel, hf⟩ := h1
    obtain ⟨a, cap, l, hcs, q⟩ := open_hds hf
    simp [Value.cells] at hcs
    obtain ⟨rfl, rfl, rfl⟩ := hcs
    exact ⟨_, _, l, q, rfl, rfl, rfl⟩
  subst e1 e2 e3
  clear hA0 hval0
  refine (walkPrioBest a0 a1' cap1' l1 W w0 w1).mono fun e W' ⟨he, bel⟩ => ?_
  subst he
  exact ⟨_, rfl, _, _, _, [], _, [], hW', trodAll_mk1 (shut_bool Try.underlying4 _), (trodAll_cons_mk (shut_int Try.underlying3 w0) (trodAll_cons_mk (Below.trod laidOut (by kernel_rfl) (of_decide_eq_true (by kernel_rfl)) k1 bel lt1) trodAll_mk0)), rfl, bel.frame _, fun h => by cases h⟩

theorem overPrioBest : Rows.prioBestRow.holds Try.pinned (OpenSpec.ofChange Rows.prioBestSpec) :=
  OpenClaim.holds_of_wide 8 Try.f8 rfl rfl rfl rfl rfl rfl rfl ⟨rfl, rfl, rfl, rfl, rfl⟩ rfl rfl rfl rfl rfl (by kernel_rfl) Try.func8 (by kernel_rfl)
    (of_decide_eq_true (by kernel_rfl)) (by unfold Func.isWrapper; first | (rw [if_pos (by decide +kernel)]; kernel_rfl) | (rw [if_neg (by decide +kernel)]; exact ⟨rfl, rfl⟩))
    (fun os started H enc _ => liftedPrioBest os started H enc)

/-- The statement. -/
theorem prioBest_holds : Rows.PrioBestSaid := overPrioBest

#print axioms prioBest_holds
end Go.Proofs.Ytogghcbijdljkaa
