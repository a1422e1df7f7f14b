/- PrioAlone: for every input the law returns true. -/
import Derived.Test.YtogghcbijdljkaaVopen
import Derived.Test.YtogghcbijdljkaaVroles
namespace Go.Proofs.Ytogghcbijdljkaa
open Go.ChangeShapes Go.WideShapes Go.ChangeAt Go.RowKit

def noneH (x : Hd) : Hd := ⟨x.root, x.cost, x.bridge, x.port, x.age, x.way, true⟩
def noneL (l : List Hd) : List Hd := l.map noneH
def leastB (id : Int) (l : List Hd) : Bool := l.all fun x => decide (id ≤ x.root)
theorem noneL_get (l : List Hd) (i : Nat) : useB 0 ((noneL l).getD i hd0) = false ∨ l.length ≤ i := by
  by_cases h : i < l.length
  · left
    unfold noneL
    rw [List.getD_eq_getElem?_getD, List.getElem?_map, List.getElem?_eq_getElem h]
    simp [useB, noneH]
  · exact .inr (by omega)
theorem use_none (id : Int) (l : List Hd) (i : Nat) (h : i < l.length) : useB id ((noneL l).getD i hd0) = false := by
  unfold noneL
  rw [List.getD_eq_getElem?_getD, List.getElem?_map, List.getElem?_eq_getElem h]
  simp [useB, noneH]
theorem best_none (id : Int) (l : List Hd) (j : Nat) (h : j ≤ l.length) : bestTo id (noneL l) j = (ownV id, -1) := by
  induction j with
  | zero => rfl
  | succ j ih =>
    rw [bestTo, ih (by omega)]
    unfold stepB
    rw [if_neg]
    rw [use_none id l j (by omega)]
    simp
theorem role_none (id : Int) (l : List Hd) (i : Nat) (h : i < l.length) : roleAt id (noneL l) i = 2 := by
  unfold roleAt
  rw [best_none id l _ (by simp [noneL]), if_neg (by show ¬ ((i : Int) = -1); omega)]
  unfold roleO
  rw [use_none id l i h]
  simp
theorem best_least (id : Int) (l : List Hd) (hl : leastB id l = true) (j : Nat) (h : j ≤ l.length) : bestTo id l j = (ownV id, -1) := by
  induction j with
  | zero => rfl
  | succ j ih =>
    rw [bestTo, ih (by omega)]
    unfold stepB
    rw [if_neg]
    unfold leastB at hl
    rw [List.all_eq_true] at hl
    have hm : l.getD j hd0 ∈ l := by rw [List.getD_eq_getElem?_getD, List.getElem?_eq_getElem (by omega : j < l.length)]; exact List.getElem_mem _
    have := of_decide_eq_true (hl _ hm)
    omega
theorem least_step (id : Int) (l : List Hd) (j : Nat) (hj : j < l.length) : leastB id (l.take (j + 1)) = (leastB id (l.take j) && decide (id ≤ (l.getD j hd0).root)) := by
  rw [take_one l j hj]
  simp [leastB]
theorem none_step (l : List Hd) (j : Nat) (hj : j < l.length) : noneL (l.take (j + 1)) = noneL (l.take j) ++ [noneH (l.getD j hd0)] := by
  rw [take_one l j hj]
  simp [noneL]
theorem none_len (l : List Hd) (j : Nat) (hj : j ≤ l.length) : (noneL (l.take j)).length = j := by simp [noneL]; omega
theorem NumsAt.cell {w : World} {g n j : Nat} {f : Nat → Int} (h : NumsAt w g n f j) {k : Nat} (hk : k < j) : w.cell? ⟨g, k, none⟩ = some (.int .i64 (f k)) := by
  obtain ⟨cs, hb, _, h2⟩ := h
  rw [hb.cell, h2 k hk]
structure ASt (w wr : World) (gR n g : Nat) (f : Nat → Int) (best : Vec) : Prop where
  nums : NumsAt wr gR n f n
  best : Blk wr g 49 best.arr
  bel : Below w.heap.size w wr
theorem ASt.go {w wr w' : World} {gR n g : Nat} {f : Nat → Int} {best : Vec} (h : ASt w wr gR n g f best) (hb : Below wr.heap.size wr w') : ASt w w' gR n g f best :=
  ⟨h.nums.below hb, h.best.below hb h.best.lt, h.bel.trans (hb.mono h.bel.size)⟩
theorem ASt.drew {w wr : World} {gR n g : Nat} {f : Nat → Int} {best : Vec} (h : ASt w wr gR n g f best) : ASt w wr.drew gR n g f best := ⟨h.nums.drew, h.best, h.bel.drew⟩
set_option maxRecDepth 100000 in
set_option maxHeartbeats 4000000 in
theorem walkPrioAlone (id : Int) (A : Option Addr) (c : Nat) (l : List Hd) (w : World) (_h0 : (Lit.int .i64 id).wf = true) (h1 : HdAt w w.heap.size A l ∧ (∀ x ∈ l, x.ok) ∧ (A = none → c = 0)) :
    Calls Try.prog 11 #[.int .i64 id, .slice A l.length c] w fun e w' => e = .returned (.bool true) ∧ Below w.heap.size w w' := by
  have HAL := Lib.hid (alive_any w)
  have H1 := Lib.hid h1
  obtain ⟨n, hn⟩ : ∃ n, l.length = n := ⟨_, rfl⟩
  have HN := Lib.hid hn
  rw [hn]
  clear h1 hn
  by_cases hs : n ≤ 20
  · have d1 : decide ((20 : Int) < n) = false := decide_eq_false (by omega)
    have hle := Lib.hid hs
    clear hs
    go_enter Try.func11, Try.ntmps11
    go_wp2_with fail
    refine HAL.out.mono ?_
    rintro e w1 ⟨rfl, b1⟩
    have H2 := Lib.hid b1
    clear b1
    go_wp2_with fail
    go_loopw [5, 6, 23] (fun pv lv iv wr => ∃ (j : Nat) (A1 : Option Addr) (c1 : Nat), j ≤ n ∧ iv = .int .i64 j ∧ pv = .slice A1 j c1 ∧ lv = .bool (leastB id (l.take j)) ∧ Hid (OwnH 71 wr w.heap.size A1 c1 (noneL (l.take j)) ∧ Below w.heap.size w wr)) (fun _ _ iv _ => n - (intOf iv).toNat)
    case atStart => exact ⟨0, none, 0, Nat.zero_le _, rfl, rfl, rfl, Lib.hid ⟨World.ownsRow_nil _ _ _ _, H2.out⟩⟩
    case round =>
      obtain ⟨j, A1, c1, hj, rfl, rfl, rfl, hS⟩ := hrel
      by_cases hlt : j < n
      · have hj' : j < l.length := by rw [HN.out]; exact hlt
        have hst := none_step l j hj'
        have hls := least_step id l j hj'
        obtain ⟨b, off, rfl, hbl, hc⟩ := H1.out.1 j hj'
        have hc := hc.below hS.out.2 hbl
        obtain ⟨x, hx⟩ : ∃ x, l.getD j hd0 = x := ⟨_, rfl⟩
        rw [hx] at hc hst hls
        have hlen := none_len l j (by omega)
        obtain ⟨q0, q1, q2, q3, q4, q5, q6⟩ := hc
        obtain ⟨r, k, bb, p, a, cc, nn⟩ := x
        have o1 : OwnH 71 (wr.alloc (.cells (Hd.mk r k bb p a cc true).arr 71)) w.heap.size A1 c1 (noneL (l.take j)) := World.ownsRow.alloc hS.out.1 _
        have o2 : OwnH 71 ((wr.alloc (.cells (Hd.mk r k bb p a cc true).arr 71)).alloc (.cells (Hd.mk r k bb p a cc true).arr 71)) w.heap.size A1 c1 (noneL (l.take j)) := World.ownsRow.alloc o1 _
        have z1 : Blk ((wr.alloc (.cells (Hd.mk r k bb p a cc true).arr 71)).alloc (.cells (Hd.mk r k bb p a cc true).arr 71)) wr.heap.size 71 (Hd.mk r k bb p a cc true).arr := (Blk.new wr _ _).alloc _
        have z2 : Blk ((wr.alloc (.cells (Hd.mk r k bb p a cc true).arr 71)).alloc (.cells (Hd.mk r k bb p a cc true).arr 71)) (wr.heap.size + 1) 71 (Hd.mk r k bb p a cc true).arr := by
          have := Blk.new (wr.alloc (.cells (Hd.mk r k bb p a cc true).arr 71)) 71 (Hd.mk r k bb p a cc true).arr
          rwa [show (wr.alloc (.cells (Hd.mk r k bb p a cc true).arr 71)).heap.size = wr.heap.size + 1 by simp] at this
        have hsz : w.heap.size ≤ ((wr.alloc (.cells (Hd.mk r k bb p a cc true).arr 71)).alloc (.cells (Hd.mk r k bb p a cc true).arr 71)).heap.size := Nat.le_trans hS.out.2.size (bel_alloc2 wr _ _).size
        obtain ⟨a', c', w3, hr, ho3, hg3⟩ := append_hd 57 71 Try.underlying57 hd_info ((wr.alloc (.cells (Hd.mk r k bb p a cc true).arr 71)).alloc (.cells (Hd.mk r k bb p a cc true).arr 71)) w.heap.size A1 c1 j (noneL (l.take j)) hlen o2
          (some ⟨wr.heap.size + 1, 0, none⟩) 1 1 (wr.heap.size + 2) [noneH ⟨r, k, bb, p, a, cc, nn⟩] rfl (fun h => by cases h) (hd_one _ z2 (Nat.lt_succ_self _)) (by rw [hlen]; simp only [List.length_singleton]; have := hle.out; omega) hsz
        have hb3 : Below w.heap.size w w3 := (hS.out.2.trans ((bel_alloc2 wr _ _).mono hS.out.2.size)).trans (by have ho := o2; unfold OwnH at ho; rw [hlen] at ho; exact bel_own ho hg3 (Nat.le_refl _) hsz)
        have z3 : Blk w3 wr.heap.size 71 (Hd.mk r k bb p a cc true).arr := (hg3.block wr.heap.size z1.lt (fun e => by
          have ho := hS.out.1
          unfold OwnH at ho
          rw [hlen] at ho
          exact absurd (World.ownsRow.lt ho wr.heap.size e.symm).2 (Nat.lt_irrefl _))).trans z1
        rw [← hst] at ho3
        have y0 : w3.cell? ⟨wr.heap.size, 0, none⟩ = some (.int .i64 r) := z3.cell 0
        have HR := Lib.hid hr
        have HEND := Lib.hid (And.intro ho3 hb3)
        have HLS := Lib.hid hls
        simp only [Hd.arr] at HR
        have j1 : (j : Int) < n := by omega
        have j0 : (0 : Int) ≤ j := by omega
        have HJ := Lib.hid (show wrap64 ((j : Int) + 1) = (j : Int) + 1 from IntWalk.wrap64_in _ (by have := hle.out; omega))
        clear hj' hst hls hbl hx hlen o1 o2 z1 z2 z3 hsz hr ho3 hg3 hb3
        cases hlb : leastB id (l.take j)
        · have HE := Lib.hid (show leastB id (l.take (j + 1)) = false by rw [HLS.out, hlb]; rfl)
          clear hlb
          go_wp2_with (at_builtin; refine Lib.wpList_append_run _ rfl _ _ _ _ rfl _ _ rfl rfl _ _ HR.out ?_)
          go_roundw
          case rel =>
            rw [HJ.out]
            exact ⟨j + 1, a', c', hlt, by rw [Int.natCast_add]; rfl, rfl, by rw [HE.out], HEND⟩
          case measure =>
            rw [HJ.out]
            show n - ((j : Int) + 1).toNat < n - ((j : Int)).toNat
            omega
        · have HE := Lib.hid (show leastB id (l.take (j + 1)) = decide (id ≤ r) by rw [HLS.out, hlb]; rfl)
          clear hlb
          go_wp2_with (at_builtin; refine Lib.wpList_append_run _ rfl _ _ _ _ rfl _ _ rfl rfl _ _ HR.out ?_)
          go_roundw
          case rel =>
            rw [HJ.out]
            exact ⟨j + 1, a', c', hlt, by rw [Int.natCast_add]; rfl, rfl, by rw [HE.out], HEND⟩
          case measure =>
            rw [HJ.out]
            show n - ((j : Int) + 1).toNat < n - ((j : Int)).toNat
            omega
      · obtain rfl : n = j := by omega
        have htk : l.take n = l := List.take_of_length_le (by rw [HN.out]; exact Nat.le_refl _)
        rw [htk] at hS ⊢
        have hlN : (noneL l).length = n := by unfold noneL; rw [List.length_map]; exact HN.out
        have hokN : ∀ x ∈ noneL l, x.ok := fun x hx => by
          obtain ⟨y, hy, rfl⟩ := List.mem_map.1 hx
          exact H1.out.2.1 y hy
        have hb := roles_any A1 c1 id (noneL l) wr hS.out.1.at_ hokN (by rw [hlN]; have := hle.out; omega)
        rw [hlN, best_none id l n (by rw [HN.out]; exact Nat.le_refl _)] at hb
        have HB := Lib.hid hb
        obtain ⟨lb, hlb⟩ : ∃ lb, leastB id l = lb := ⟨_, rfl⟩
        have HLB := Lib.hid hlb
        rw [hlb]
        simp only [Vec.v, Vec.arr, ownV] at HB
        clear htk hlN hokN hb hlb
        go_wp2_with fail
        refine HB.out.mono ?_
        rintro e w2 ⟨gR, rfl, hnums, hgR, b2⟩
        have h3 : ASt w (w2.alloc (.cells (ownV id).arr 49)) gR n w2.heap.size (roleAt id (noneL l)) (ownV id) :=
          ⟨hnums.below (bel_alloc w2 _), Blk.new w2 _ _, (hS.out.2.trans (b2.mono hS.out.2.size)).alloc (Nat.le_trans hS.out.2.size b2.size) _⟩
        have H3 := Lib.hid h3
        obtain ⟨g, hg⟩ : ∃ g, w2.heap.size = g := ⟨_, rfl⟩
        rw [hg] at H3
        simp only [Vec.arr, ownV] at H3
        clear h3 hnums hgR b2
        go_wp2_with fail
        clear hg
        go_loopw [50] (fun iv wr => ∃ (j : Nat), j ≤ n ∧ iv = .int .i64 j ∧ Hid (ASt w wr gR n g (roleAt id (noneL l)) (ownV id))) (fun iv _ => n - (intOf iv).toNat)
        case atStart => exact ⟨0, Nat.zero_le _, rfl, H3⟩
        case round =>
          obtain ⟨j, hj, rfl, hS3⟩ := hrel
          by_cases hlt : j < n
          · have hcell := hS3.out.nums.cell hlt
            rw [role_none id l j (by rw [HN.out]; exact hlt)] at hcell
            have j1 : (j : Int) < n := by omega
            have j0 : (0 : Int) ≤ j := by omega
            have HJ := Lib.hid (show wrap64 ((j : Int) + 1) = (j : Int) + 1 from IntWalk.wrap64_in _ (by have := hle.out; omega))
            go_wp2_with fail
            go_roundw
            case rel =>
              rw [HJ.out]
              exact ⟨j + 1, hlt, by rw [Int.natCast_add]; rfl, hS3⟩
            case measure =>
              rw [HJ.out]
              show n - ((j : Int) + 1).toNat < n - ((j : Int)).toNat
              omega
          · obtain rfl : n = j := by omega
            have HOW := Lib.hid (fun w => own_any id w)
            simp only [Vec.v, Vec.arr, ownV] at HOW
            have hA0 := hS3.out.drew
            go_wp2_with fail
            go_region_held3 (fun w' => w'.cell? ⟨g, 0, none⟩ = some (.int .i64 id) ∧ w'.cell? ⟨g, 1, none⟩ = some (.int .i64 0) ∧ w'.cell? ⟨g, 2, none⟩ = some (.int .i64 id) ∧ w'.cell? ⟨g, 3, none⟩ = some (.int .i64 0))
              (first | exact ⟨hA0.best.cell 0, hA0.best.cell 1, hA0.best.cell 2, hA0.best.cell 3⟩ | exact ⟨hA1.best.cell 0, hA1.best.cell 1, hA1.best.cell 2, hA1.best.cell 3⟩)
              (first
                | (go_at_call 30; (with_reducible (refine (HOW.out _).mono ?_)); rintro e w3 ⟨rfl, b3⟩; have hA1 := hA0.go b3))
            all_goals
              have HA1 := Lib.hid hA1
              clear hA1 hA0 b3
              have hb := best_any A c id l w3 ((H1.out.1.below HA1.out.bel).more HA1.out.bel.size) H1.out.2.1 (by have := HN.out; have := hle.out; omega)
              rw [HN.out] at hb
              cases lb
              · have HB := Lib.hid hb
                obtain ⟨s, hse⟩ : ∃ s, bestTo id l n = s := ⟨_, rfl⟩
                rw [hse] at HB
                obtain ⟨bv, at_⟩ := s
                simp only [Vec.v, Vec.arr] at HB
                clear hb hse
                go_wp2_with fail
                refine HB.out.mono ?_
                rintro e w4 ⟨rfl, b4⟩
                have hf := ((HA1.out.bel.trans (b4.mono HA1.out.bel.size)).alloc (Nat.le_trans HA1.out.bel.size b4.size) (.cells bv.arr 49)).drew
                simp only [Vec.arr] at hf
                clear b4
                go_wp2_with fail
                go_big_region
                go_wp2_with fail
                go_ret
                exact ⟨rfl, hf⟩
              · rw [best_least id l HLB.out n (by rw [HN.out]; exact Nat.le_refl _)] at hb
                have HB := Lib.hid hb
                simp only [Vec.v, Vec.arr, ownV] at HB
                clear hb
                go_wp2_with fail
                refine HB.out.mono ?_
                rintro e w4 ⟨rfl, b4⟩
                have hf := ((HA1.out.bel.trans (b4.mono HA1.out.bel.size)).alloc (Nat.le_trans HA1.out.bel.size b4.size) (.cells (ownV id).arr 49)).drew
                have hz0 := (Blk.new w4 49 (ownV id).arr).drew
                have HF := Lib.hid hf
                simp only [Vec.arr, ownV] at HF hz0
                clear b4 hf
                go_wp2_with fail
                go_region_held3 (fun w' => w'.cell? ⟨w4.heap.size, 0, none⟩ = some (.int .i64 id) ∧ w'.cell? ⟨w4.heap.size, 1, none⟩ = some (.int .i64 0) ∧ w'.cell? ⟨w4.heap.size, 2, none⟩ = some (.int .i64 id) ∧ w'.cell? ⟨w4.heap.size, 3, none⟩ = some (.int .i64 0))
                  (first | exact ⟨hz0.cell 0, hz0.cell 1, hz0.cell 2, hz0.cell 3⟩ | exact ⟨hz1.cell 0, hz1.cell 1, hz1.cell 2, hz1.cell 3⟩)
                  (first
                    | (go_at_call 30; (with_reducible (refine (HOW.out _).mono ?_)); rintro e w5 ⟨rfl, b5⟩; have hz1 := hz0.below b5 hz0.lt; have hf := HF.out.trans (b5.mono HF.out.size)))
                all_goals
                  go_wp2_with fail
                  go_ret
                  exact ⟨rfl, hf⟩
  · have d1 : decide ((20 : Int) < n) = true := decide_eq_true (by omega)
    clear hs
    go_enter Try.func11, Try.ntmps11
    go_wp2_with fail
    refine HAL.out.mono ?_
    rintro e w1 ⟨rfl, b1⟩
    go_wp2_with fail
    go_ret
    exact ⟨rfl, b1⟩
set_option maxRecDepth 100000 in
theorem liftedPrioAlone (os : Os) (started : os.Started) (H : Type) (enc : TypeId × Value → H) :
    ReturnsInHanded {} Try.checked os 11 .any (Rows.prioAloneSpec.pre6 enc Try.prog Try.f11 Rows.prioAloneRow.domain false) (Rows.prioAloneSpec.post enc Try.prog Try.f11 false true false false) := by
  refine returnsInHanded_of_change (C := Try.checked) own started (by kernel_rfl) Try.func11
    (ChangeSpec.witness6 (enc := enc) (C := Try.checked) false ⟨#[], #[.int .i64 0, .slice none 0 0], []⟩ 8 (by kernel_rfl) (by kernel_rfl) (by kernel_rfl) (by kernel_rfl)) ?_
  intro W base args ds gs before hval0 hW hcnd _
  have hval : ∀ (j : Nat) t v, Try.f11.params[j]? = some t → args[j]? = some v → Value.okWide Try.prog W .any base t v := hval0
  have hW' := hW
  obtain ⟨p, q, hA0, hV, rfl, hfz, hnd⟩ := hW
  have hA : DataW.TrodAll enc Try.prog W 0 (fun _ => true) true Try.f11.params.toList args.toList ds p := hA0
  rw [Try.params11] at hA hval
  obtain ⟨v0, vs0, d0, ds0, p0, q0, hargs, rfl, rfl, h0, r0⟩ := trodAll_cons hA
  obtain ⟨v1, vs1, d1, ds1, p1, q1, rfl, rfl, rfl, h1, r1⟩ := trodAll_cons r0
  obtain ⟨rfl, rfl, rfl⟩ := trodAll_nil r1
  obtain rfl : args = #[v0, v1] := by cases args; simp_all
  obtain ⟨rfl, rfl⟩ := trodVars_none hV
  obtain ⟨a0, rfl, rfl, rfl, w0⟩ := open_int Try.underlying3 (hval 0 3 v0 rfl rfl) h0
  obtain ⟨a1', len1', cap1', rfl⟩ := okWide_slice Try.underlying57 (hval 1 57 v1 rfl rfl)
  have k1 := h1
  have lt1 : ∀ x ∈ p1, x.block < W.heap.size := by obtain ⟨m, hm⟩ := k1; exact DataW.trod_lt m _ _ _ hm
  obtain ⟨a1, cap1, l1, w1, e1, e2, e3⟩ : ∃ a cap, ∃ l : List Hd, (HdAt W W.heap.size a l ∧ (∀ x ∈ l, x.ok) ∧ (a = none → cap = 0)) ∧ a1' = a ∧ len1' = l.length ∧ cap1' = cap := by
    obtain ⟨fuel, hf⟩ := h1
    obtain ⟨a, cap, l, hcs, q⟩ := open_hds hf
    simp [Value.cells] at hcs
    obtain ⟨rfl, rfl, rfl⟩ := hcs
    exact ⟨_, _, l, q, rfl, rfl, rfl⟩
  subst e1 e2 e3
  clear hA0 hval0
  refine (walkPrioAlone a0 a1' cap1' l1 W w0 w1).mono fun e W' ⟨he, bel⟩ => ?_
  subst he
  exact ⟨_, rfl, _, _, _, [], _, [], hW', trodAll_mk1 (shut_bool Try.underlying4 _), (trodAll_cons_mk (shut_int Try.underlying3 w0) (trodAll_cons_mk (Below.trod laidOut (by kernel_rfl) (of_decide_eq_true (by kernel_rfl)) k1 bel lt1) trodAll_mk0)), rfl, bel.frame _, fun h => by cases h⟩

theorem overPrioAlone : Rows.prioAloneRow.holds Try.pinned (OpenSpec.ofChange Rows.prioAloneSpec) :=
  OpenClaim.holds_of_wide 11 Try.f11 rfl rfl rfl rfl rfl rfl rfl ⟨rfl, rfl, rfl, rfl, rfl⟩ rfl rfl rfl rfl rfl (by kernel_rfl) Try.func11 (by kernel_rfl)
    (of_decide_eq_true (by kernel_rfl)) (by unfold Func.isWrapper; first | (rw [if_pos (by decide +kernel)]; kernel_rfl) | (rw [if_neg (by decide +kernel)]; exact ⟨rfl, rfl⟩))
    (fun os started H enc _ => liftedPrioAlone os started H enc)

/-- The statement. -/
theorem prioAlone_holds : Rows.PrioAloneSaid := overPrioAlone

#print axioms prioAlone_holds
end Go.Proofs.Ytogghcbijdljkaa
