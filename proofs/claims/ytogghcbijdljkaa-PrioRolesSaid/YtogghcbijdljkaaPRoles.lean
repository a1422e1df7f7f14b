/- PrioRoles: for every input the law returns true. -/
import Derived.Test.YtogghcbijdljkaaVopen
import Derived.Test.YtogghcbijdljkaaVroles
namespace Go.Proofs.Ytogghcbijdljkaa
open Go.ChangeShapes Go.WideShapes Go.ChangeAt Go.RowKit

theorem bestTo_root (id : Int) (l : List Hd) (j : Nat) : (bestTo id l j).2 = -1 ∧ (bestTo id l j).1 = ownV id ∨ (∃ k : Nat, k < j ∧ (bestTo id l j).2 = k) ∧ (bestTo id l j).1.root < id := by
  induction j with
  | zero => exact .inl ⟨rfl, rfl⟩
  | succ j ih =>
    rw [bestTo]
    unfold stepB
    split
    · rename_i h
      exact .inr ⟨⟨j, Nat.lt_succ_self _, rfl⟩, h.2.1⟩
    · rcases ih with h | ⟨⟨k, hk, h⟩, h2⟩
      · exact .inl h
      · exact .inr ⟨⟨k, by omega, h⟩, h2⟩
theorem roleO_two (id : Int) (h : Hd) (o : Vec) : roleO id h o = 2 ∨ roleO id h o = 3 := by unfold roleO; split <;> simp
theorem roleAt_one (id : Int) (l : List Hd) (i : Nat) : roleAt id l i = 1 ↔ (i : Int) = (bestTo id l l.length).2 := by
  unfold roleAt
  split
  · simp [*]
  · have := roleO_two id (l.getD i hd0) (offerV (bestTo id l l.length).1 id i)
    constructor
    · intro h; omega
    · intro h; contradiction
/-- How many root ports the first j are. -/
def cntTo (at_ : Int) (j : Nat) : Int := if 0 ≤ at_ ∧ at_ < j then 1 else 0
structure RSt (w wr : World) (gR n g6 : Nat) (f : Nat → Int) (A' : Option Addr) (l : List Hd) (best : Vec) : Prop where
  nums : NumsAt wr gR n f n
  hds : HdAt wr wr.heap.size A' l
  best : Blk wr g6 49 best.arr
  bel : Below w.heap.size w wr
theorem RSt.go {w wr w' : World} {gR n g6 : Nat} {f : Nat → Int} {A' : Option Addr} {l : List Hd} {best : Vec} (h : RSt w wr gR n g6 f A' l best) (hb : Below wr.heap.size wr w') : RSt w w' gR n g6 f A' l best :=
  ⟨h.nums.below hb, (h.hds.below hb).more hb.size, h.best.below hb h.best.lt, h.bel.trans (hb.mono h.bel.size)⟩
theorem NumsAt.cell {w : World} {g n j : Nat} {f : Nat → Int} (h : NumsAt w g n f j) {k : Nat} (hk : k < j) : w.cell? ⟨g, k, none⟩ = some (.int .i64 (f k)) := by
  obtain ⟨cs, hb, _, h2⟩ := h
  rw [hb.cell, h2 k hk]
set_option maxRecDepth 100000 in
set_option maxHeartbeats 4000000 in
theorem walkPrioRoles (id : Int) (A : Option Addr) (c : Nat) (l : List Hd) (w : World) (_h0 : (Lit.int .i64 id).wf = true) (h1 : HdAt w w.heap.size A l ∧ (∀ x ∈ l, x.ok) ∧ (A = none → c = 0)) :
    Calls Try.prog 9 #[.int .i64 id, .slice A l.length c] w fun e w' => e = .returned (.bool true) ∧ Below w.heap.size w w' := by
  have HAL := Lib.hid (alive_any w)
  have H1 := Lib.hid h1
  obtain ⟨n, hn⟩ : ∃ n, l.length = n := ⟨_, rfl⟩
  have hroot := bestTo_root id l l.length
  have hone := roleAt_one id l
  have HN := Lib.hid hn
  rw [hn] at hroot hone ⊢
  clear h1 hn
  by_cases hs : n ≤ 20
  · have d1 : decide ((20 : Int) < n) = false := decide_eq_false (by omega)
    have hle := Lib.hid hs
    obtain ⟨s, hse⟩ : ∃ s, bestTo id l n = s := ⟨_, rfl⟩
    rw [hse] at hroot hone
    have HSE := Lib.hid hse
    have HRT := Lib.hid hroot
    have HON := Lib.hid hone
    clear hs hse hroot hone
    go_enter Try.func9, Try.ntmps9
    go_wp2_with fail
    refine HAL.out.mono ?_
    rintro e w1 ⟨rfl, b1⟩
    have hb := roles_any A c id l w1 ((H1.out.1.below b1).more b1.size) H1.out.2.1 (by have := HN.out; have := hle.out; omega)
    rw [HN.out, HSE.out] at hb
    have HB := Lib.hid hb
    have H2 := Lib.hid b1
    clear hb b1
    obtain ⟨bv, at_⟩ := s
    simp only [Vec.v, Vec.arr] at HB
    go_wp2_with fail
    refine HB.out.mono ?_
    rintro e w2 ⟨gR, rfl, hnums, hgR, b2⟩
    have b3 := (H2.out.trans (b2.mono H2.out.size)).alloc (Nat.le_trans H2.out.size b2.size) (.cells bv.arr 49)
    have kz := Blk.new w2 49 bv.arr
    have hnums := hnums.below (bel_alloc w2 (.cells bv.arr 49))
    have hp := plain_any A c l (w2.alloc (.cells bv.arr 49)) ((H1.out.1.below b3).more b3.size) (by have := HN.out; have := hle.out; omega)
    rw [HN.out] at hp
    have HP := Lib.hid hp
    have H3 := Lib.hid (And.intro b3 (And.intro kz hnums))
    simp only [Vec.arr] at HP
    clear hp b2 b3 kz hnums hgR
    go_wp2_with fail
    refine HP.out.mono ?_
    rintro e w3 ⟨A', c', rfl, hat, b4⟩
    have hb := rbest_any A' c' id l w3 hat H1.out.2.1 (by have := HN.out; have := hle.out; omega)
    rw [HN.out, HSE.out] at hb
    have HB := Lib.hid hb
    have H4 : Hid (RSt w w3 gR n w2.heap.size (roleAt id l) A' l bv) := Lib.hid ⟨H3.out.2.2.below b4, hat, H3.out.2.1.below b4 H3.out.2.1.lt, H3.out.1.trans (b4.mono H3.out.1.size)⟩
    simp only [Vec.v, Vec.arr] at HB
    clear hb b4 hat
    go_wp2_with fail
    refine HB.out.mono ?_
    rintro e w4 ⟨rfl, b5⟩
    have h5 := (H4.out.go b5).go (bel_alloc w4 (.cells bv.arr 49))
    have x0 : (w4.alloc (.cells bv.arr 49)).cell? ⟨w2.heap.size, 0, none⟩ = some (.int .i64 bv.root) := h5.best.cell 0
    have x1 : (w4.alloc (.cells bv.arr 49)).cell? ⟨w2.heap.size, 1, none⟩ = some (.int .i64 bv.cost) := h5.best.cell 1
    have x2 : (w4.alloc (.cells bv.arr 49)).cell? ⟨w2.heap.size, 2, none⟩ = some (.int .i64 bv.bridge) := h5.best.cell 2
    have x3 : (w4.alloc (.cells bv.arr 49)).cell? ⟨w2.heap.size, 3, none⟩ = some (.int .i64 bv.port) := h5.best.cell 3
    have H5 := Lib.hid h5
    simp only [Vec.arr] at x0 x1 x2 x3 H5
    clear b5 h5
    go_wp2_with fail
    clear x0 x1 x2 x3
    go_loopw [11, 51] (fun rv iv wr => ∃ (j : Nat), j ≤ n ∧ iv = .int .i64 j ∧ rv = .int .i64 (cntTo at_ j) ∧ Hid (RSt w wr gR n w2.heap.size (roleAt id l) A' l bv)) (fun _ iv _ => n - (intOf iv).toNat)
    case atStart => exact ⟨0, Nat.zero_le _, rfl, by rw [show cntTo at_ 0 = 0 from if_neg (by omega)], H5⟩
    case round =>
      obtain ⟨j, hj, rfl, rfl, hS⟩ := hrel
      by_cases hlt : j < n
      · have hro := rrole_any A' c' id l j wr hS.out.hds H1.out.2.1 (by have := HN.out; have := hle.out; omega) (by rw [HN.out]; exact hlt)
        rw [HN.out] at hro
        have hcell := hS.out.nums.cell hlt
        have j1 : (j : Int) < n := by omega
        have j0 : (0 : Int) ≤ j := by omega
        have HJ := Lib.hid (show wrap64 ((j : Int) + 1) = (j : Int) + 1 from IntWalk.wrap64_in _ (by have := hle.out; omega))
        have ho := HON.out j
        obtain ⟨rv, hrv⟩ : ∃ rv, roleAt id l j = rv := ⟨_, rfl⟩
        rw [hrv] at hro hcell ho
        have HRO := Lib.hid hro
        clear hro hrv hj
        by_cases hr1 : rv = 1
        · have hat : at_ = j := (ho.1 hr1).symm
          have hc0 : cntTo at_ j = 0 := if_neg (by omega)
          have hc1 : cntTo at_ (j + 1) = 1 := if_pos (by omega)
          have HC1 := Lib.hid hc1
          rw [hc0]
          subst hr1
          clear ho hat hc0 hc1
          go_wp2_with fail
          refine HRO.out.mono ?_
          rintro e w5 ⟨rfl, b6⟩
          have HS6 := Lib.hid (hS.out.go b6)
          clear b6
          go_wp2_with fail
          go_roundw
          case rel =>
            rw [HJ.out]
            exact ⟨j + 1, hlt, by rw [Int.natCast_add]; rfl, by rw [HC1.out], HS6⟩
          case measure =>
            rw [HJ.out]
            show n - ((j : Int) + 1).toNat < n - ((j : Int)).toNat
            omega
        · have hat : ¬ at_ = j := fun h => hr1 (ho.2 h.symm)
          have hc1 : cntTo at_ (j + 1) = cntTo at_ j := by unfold cntTo; split <;> split <;> omega
          have HC1 := Lib.hid hc1
          have d5 : (rv == 1) = false := by simpa using hr1
          clear ho hat hc1 hr1
          go_wp2_with fail
          refine HRO.out.mono ?_
          rintro e w5 ⟨rfl, b6⟩
          have HS6 := Lib.hid (hS.out.go b6)
          clear b6
          go_wp2_with fail
          go_roundw
          case rel =>
            rw [HJ.out]
            exact ⟨j + 1, hlt, by rw [Int.natCast_add]; rfl, by rw [HC1.out], HS6⟩
          case measure =>
            rw [HJ.out]
            show n - ((j : Int) + 1).toNat < n - ((j : Int)).toNat
            omega
      · obtain rfl : n = j := by omega
        have y0 : wr.cell? ⟨w2.heap.size, 0, none⟩ = some (.int .i64 bv.root) := hS.out.best.cell 0
        rcases HRT.out with ⟨e1, e2⟩ | ⟨⟨k, hk, e1⟩, e2⟩
        · have e1 : at_ = -1 := e1
          have e2 : bv = ownV id := e2
          have hc : cntTo at_ n = 0 := by rw [e1]; exact if_neg (by omega)
          have hid' : bv.root = id := by rw [e2]; rfl
          rw [hc]
          subst e1
          obtain ⟨r, kk, b, p⟩ := bv
          simp only at hid' y0
          subst hid'
          clear hc e2
          go_wp2_with fail
          go_ret
          exact ⟨rfl, hS.out.bel⟩
        · have e1 : at_ = k := e1
          have e2 : bv.root < id := e2
          have hc : cntTo at_ n = 1 := by rw [e1]; exact if_pos (by omega)
          rw [hc]
          subst e1
          obtain ⟨r, kk, b, p⟩ := bv
          simp only at e2 y0
          have d6 : (r == id) = false := by simpa using Int.ne_of_lt e2
          clear hc e2 hk
          go_wp2_with fail
          go_ret
          exact ⟨rfl, hS.out.bel⟩
  · have d1 : decide ((20 : Int) < n) = true := decide_eq_true (by omega)
    clear hs
    go_enter Try.func9, Try.ntmps9
    go_wp2_with fail
    refine HAL.out.mono ?_
    rintro e w1 ⟨rfl, b1⟩
    go_wp2_with fail
    go_ret
    exact ⟨rfl, b1⟩
set_option maxRecDepth 100000 in
theorem liftedPrioRoles (os : Os) (started : os.Started) (H : Type) (enc : TypeId × Value → H) :
    ReturnsInHanded {} Try.checked os 9 .any (Rows.prioRolesSpec.pre6 enc Try.prog Try.f9 Rows.prioRolesRow.domain false) (Rows.prioRolesSpec.post enc Try.prog Try.f9 false true false false) := by
  refine returnsInHanded_of_change (C := Try.checked) own started (by kernel_rfl) Try.func9
    (ChangeSpec.witness6 (enc := enc) (C := Try.checked) false ⟨#[], #[.int .i64 0, .slice none 0 0], []⟩ 8 (by kernel_rfl) (by kernel_rfl) (by kernel_rfl) (by kernel_rfl)) ?_
  intro W base args ds gs before hval0 hW hcnd _
  have hval : ∀ (j : Nat) t v, Try.f9.params[j]? = some t → args[j]? = some v → Value.okWide Try.prog W .any base t v := hval0
  have hW' := hW
  obtain ⟨p, q, hA0, hV, rfl, hfz, hnd⟩ := hW
  have hA : DataW.TrodAll enc Try.prog W 0 (fun _ => true) true Try.f9.params.toList args.toList ds p := hA0
  rw [Try.params9] at hA hval
  obtain ⟨v0, vs0, d0, ds0, p0, q0, hargs, rfl, rfl, h0, r0⟩ := trodAll_cons hA
  obtain ⟨v1, vs1, d1, ds1, p1, q1, rfl, rfl, rfl, h1, r1⟩ := trodAll_cons r0
  obtain ⟨rfl, rfl, rfl⟩ := trodAll_nil r1
  obtain rfl : args = #[v0, v1] := by cases args; simp_all
  obtain ⟨rfl, rfl⟩ := trodVars_none hV
  obtain ⟨a0, rfl, rfl, rfl, w0⟩ := open_int Try.underlying3 (hval 0 3 v0 rfl rfl) h0
  obtain ⟨a1', len1', cap1', rfl⟩ := okWide_slice Try.underlying57 (hval 1 57 v1 rfl rfl)
  have k1 := h1
  have lt1 : ∀ x ∈ p1, x.block < W.heap.size := by obtain ⟨m, hm⟩ := k1; exact DataW.trod_lt m _ _ _ hm
  obtain ⟨a1, cap1, l1, w1, e1, e2, e3⟩ : ∃ a cap, ∃ l : List Hd, (HdAt W W.heap.size a l ∧ (∀ x ∈ l, x.ok) ∧ (a = none → cap = 0)) ∧ a1' = a ∧ len1' = l.length ∧ cap1' = cap := by
    obtain ⟨fuel, hf⟩ := h1
    obtain ⟨a, cap, l, hcs, q⟩ := open_hds hf
    simp [Value.cells] at hcs
    obtain ⟨rfl, rfl, rfl⟩ := hcs
    exact ⟨_, _, l, q, rfl, rfl, rfl⟩
  subst e1 e2 e3
  clear hA0 hval0
  refine (walkPrioRoles a0 a1' cap1' l1 W w0 w1).mono fun e W' ⟨he, bel⟩ => ?_
  subst he
  exact ⟨_, rfl, _, _, _, [], _, [], hW', trodAll_mk1 (shut_bool Try.underlying4 _), (trodAll_cons_mk (shut_int Try.underlying3 w0) (trodAll_cons_mk (Below.trod laidOut (by kernel_rfl) (of_decide_eq_true (by kernel_rfl)) k1 bel lt1) trodAll_mk0)), rfl, bel.frame _, fun h => by cases h⟩

theorem overPrioRoles : Rows.prioRolesRow.holds Try.pinned (OpenSpec.ofChange Rows.prioRolesSpec) :=
  OpenClaim.holds_of_wide 9 Try.f9 rfl rfl rfl rfl rfl rfl rfl ⟨rfl, rfl, rfl, rfl, rfl⟩ rfl rfl rfl rfl rfl (by kernel_rfl) Try.func9 (by kernel_rfl)
    (of_decide_eq_true (by kernel_rfl)) (by unfold Func.isWrapper; first | (rw [if_pos (by decide +kernel)]; kernel_rfl) | (rw [if_neg (by decide +kernel)]; exact ⟨rfl, rfl⟩))
    (fun os started H enc _ => liftedPrioRoles os started H enc)

/-- The statement. -/
theorem prioRoles_holds : Rows.PrioRolesSaid := overPrioRoles

#print axioms prioRoles_holds
end Go.Proofs.Ytogghcbijdljkaa
