/- WheelPops: for every input the law returns true. -/
import Derived.Test.YtogghcbijdljkaaWpops
import Derived.Deep.RegionHeld3
namespace Go.Proofs.Ytogghcbijdljkaa
open Go.ChangeShapes Go.WideShapes Go.ChangeAt Go.RowKit

set_option maxRecDepth 100000 in
set_option maxHeartbeats 8000000 in
theorem walkWheelPops (A : Option Addr) (c : Nat) (s : List Cl) (ticks : Int) (w : World) (h0 : ClAt w w.heap.size A s ∧ (∀ x ∈ s, x.ok) ∧ (A = none → c = 0)) (_h1 : (Lit.int .i64 ticks).wf = true) :
    Calls Try.prog 3 #[.slice A s.length c, .int .i64 ticks] w fun e w' => e = .returned (.bool true) ∧ Below w.heap.size w w' := by
  have HAL := Lib.hid (alive_any w)
  have H0 := Lib.hid h0
  obtain ⟨n, hn⟩ : ∃ n, s.length = n := ⟨_, rfl⟩
  have HN := Lib.hid hn
  rw [hn]
  clear h0 hn
  by_cases hs : (100 : Int) < n
  · have d1 : decide ((100 : Int) < n) = true := decide_eq_true hs
    go_enter Try.func3, Try.ntmps3
    go_wp2_with fail
    refine HAL.out.mono ?_
    rintro e w1 ⟨rfl, b1⟩
    go_wp2_with fail
    go_ret
    exact ⟨rfl, b1⟩
  have d1 : decide ((100 : Int) < n) = false := decide_eq_false hs
  by_cases ha : ticks < 0
  · have d2 : decide (ticks < 0) = true := decide_eq_true ha
    go_enter Try.func3, Try.ntmps3
    go_wp2_with fail
    refine HAL.out.mono ?_
    rintro e w1 ⟨rfl, b1⟩
    go_wp2_with fail
    go_ret
    exact ⟨rfl, b1⟩
  have d2 : decide (ticks < 0) = false := decide_eq_false ha
  by_cases hb : 200 < ticks
  · have d3 : decide (200 < ticks) = true := decide_eq_true hb
    go_enter Try.func3, Try.ntmps3
    go_wp2_with fail
    refine HAL.out.mono ?_
    rintro e w1 ⟨rfl, b1⟩
    go_wp2_with fail
    go_ret
    exact ⟨rfl, b1⟩
  have d3 : decide (200 < ticks) = false := decide_eq_false hb
  obtain ⟨T, rfl⟩ : ∃ T : Nat, ticks = T := ⟨ticks.toNat, by omega⟩
  have HLE := Lib.hid (show n ≤ 100 ∧ T ≤ 200 by omega)
  clear hs ha hb
  go_enter Try.func3, Try.ntmps3
  go_wp2_with fail
  refine HAL.out.mono ?_
  rintro e w1 ⟨rfl, b1⟩
  have HB1 := Lib.hid b1
  clear b1
  go_wp2_with fail
  refine (new_f w w1 HB1.out.size).mono ?_
  rintro e w2 ⟨g, F, rfl, hw1, b2, hf1⟩
  have hbw2 := HB1.out.trans (b2.mono HB1.out.size)
  have hside : Side w (w2.alloc (.cells #[.slice none 0 0, .slice none 0 0] 29)) (w2.alloc (.cells #[.slice none 0 0, .slice none 0 0] 29)).heap.size g [] w2.heap.size [] := by
    have hz := Blk.new w2 29 #[.slice none 0 0, .slice none 0 0]
    refine ⟨F, fun k => k = w2.heap.size, hw1.below (bel_alloc w2 _), ⟨⟨0, none, 0, none, 0, hz, ⟨World.ownsRow_nil _ _ _ _, World.ownsRow_nil _ _ _ _, fun q h => by cases h⟩⟩, rfl, fun B d B' d' hB => ?_, fun k hk => by rw [hk]; exact ⟨hbw2.size, by simp⟩⟩, fun k hk e => by have := (hw1.in_ k hk).2; omega, hbw2.alloc hbw2.size _, fun k hk => Nat.lt_of_lt_of_le (hw1.in_ k hk).2 (bel_alloc w2 _).size⟩
    obtain ⟨rfl, rfl⟩ := ref_inj hz hB
    exact ⟨(fun q h => by cases h), (fun q h => by cases h)⟩
  have HS0 := Lib.hid hside
  obtain ⟨gm, hgm⟩ : ∃ gm, w2.heap.size = gm := ⟨_, rfl⟩
  rw [hgm] at HS0
  clear hw1 b2 hf1 hbw2 hside
  go_wp2_with fail
  clear hgm
  go_loopw [33] (fun iv wr => ∃ (j : Nat), j ≤ n ∧ iv = .int .i64 j ∧ Hid (Side w wr wr.heap.size g (runTo s j) gm (rrunTo s j))) (fun iv _ => n - (intOf iv).toNat)
  case atStart => exact ⟨0, Nat.zero_le _, rfl, HS0⟩
  case round =>
    obtain ⟨j, hj, rfl, hS⟩ := hrel
    by_cases hlt : j < n
    · obtain ⟨bb, off, rfl, hbl, c0, c1, c2⟩ := H0.out.1 j (by rw [HN.out]; exact hlt)
      have hr1 : runTo s (j + 1) = if (s.getD j cl0).n < 0 then runTo s j else putT (runTo s j) (s.getD j cl0).key (s.getD j cl0).n := rfl
      have hr2 : rrunTo s (j + 1) = if (s.getD j cl0).n < 0 then rrunTo s j else stopT (s.getD j cl0).key (rrunTo s j) ++ [⟨(s.getD j cl0).n, (s.getD j cl0).key⟩] := rfl
      obtain ⟨x, hx⟩ : ∃ x, s.getD j cl0 = x := ⟨_, rfl⟩
      rw [hx] at c0 c1 c2 hr1 hr2
      obtain ⟨ck, cy, cn⟩ := x
      have q0 : wr.cell? ⟨bb, off + j * 3, none⟩ = some (.int .i64 ck) := (hS.out.bel.cell (p := ⟨bb, off + j * 3, none⟩) hbl).trans c0
      have q1 : wr.cell? ⟨bb, off + j * 3 + 1, none⟩ = some (.int .i64 cy) := (hS.out.bel.cell (p := ⟨bb, off + j * 3 + 1, none⟩) hbl).trans c1
      have q2 : wr.cell? ⟨bb, off + j * 3 + 2, none⟩ = some (.int .i64 cn) := (hS.out.bel.cell (p := ⟨bb, off + j * 3 + 2, none⟩) hbl).trans c2
      have hfew : (runTo s j).length ≤ 100 := by have := run_length s j; have := HLE.out; omega
      have hfew2 : (rrunTo s j).length ≤ 100 := by rw [(rrun_perm s j).length_eq]; exact hfew
      have zb := Blk.new wr 31 (Cl.mk ck cy cn).arr
      have hS1 := hS.out.below (bel_alloc wr (.cells (Cl.mk ck cy cn).arr 31))
      have hcall := side_set w wr.heap.size g gm (runTo s j) (rrunTo s j) cy cn _ hS1 (by omega)
      simp only [Cl.arr] at hcall
      have HC := Lib.hid hcall
      have HZ := Lib.hid (And.intro zb hfew2)
      have HRN := Lib.hid (And.intro hr1 hr2)
      have j1 : (j : Int) < n := by omega
      have j0 : (0 : Int) ≤ j := by omega
      have HJ := Lib.hid (show wrap64 ((j : Int) + 1) = (j : Int) + 1 from IntWalk.wrap64_in _ (by have := HLE.out; omega))
      clear hr1 hr2 hx hfew hfew2 zb hS1 hcall hbl c0 c1 c2 hj
      go_wp2_with fail
      refine HC.out.mono ?_
      rintro e w4 ⟨⟨v, rfl⟩, ht4, hto4⟩
      have zb4 := HZ.out.1.touch hto4 (Nat.lt_irrefl _)
      have y1 : w4.cell? ⟨wr.heap.size, 1, none⟩ = some (.int .i64 cy) := zb4.cell 1
      have y2 : w4.cell? ⟨wr.heap.size, 2, none⟩ = some (.int .i64 cn) := zb4.cell 2
      have HC2 := Lib.hid (side_rset w w4.heap.size g gm _ (rrunTo s j) cy cn w4 ht4 (by have := HZ.out.2; omega))
      clear ht4 hto4 zb4 q0 q1 q2
      go_wp2_with fail
      refine HC2.out.mono ?_
      rintro e w5 ⟨⟨v2, rfl⟩, ht5⟩
      rw [show (if cn < 0 then runTo s j else putT (runTo s j) cy cn) = runTo s (j + 1) from HRN.out.1.symm, show (if cn < 0 then rrunTo s j else stopT cy (rrunTo s j) ++ [⟨cn, cy⟩]) = rrunTo s (j + 1) from HRN.out.2.symm] at ht5
      have HS5 := Lib.hid ht5
      clear ht5 y1 y2
      go_wp2_with fail
      go_roundw
      case rel =>
        rw [HJ.out]
        exact ⟨j + 1, hlt, by rw [Int.natCast_add]; rfl, HS5⟩
      case measure =>
        rw [HJ.out]
        show n - ((j : Int) + 1).toNat < n - ((j : Int)).toNat
        omega
    · obtain rfl : n = j := by omega
      have hfew : (runTo s n).length ≤ 100 := by have := run_length s n; have := HLE.out; omega
      have hdue : ∀ x ∈ runTo s n, (0 : Int) ≤ x.due := fun x hx => rrun_due s n x ((rrun_perm s n).mem_iff.2 hx)
      have HST : Hid (∃ l m, Side w wr wr.heap.size g l gm m ∧ m.Perm l ∧ l.length ≤ 100 ∧ ∀ x ∈ l, ((0 : Nat) : Int) ≤ x.due) := Lib.hid ⟨_, _, hS.out, rrun_perm s n, hfew, hdue⟩
      clear hfew hdue hS hj hlt
      go_wp2_with fail
      go_loopw [9, 10] (fun nv tv wr => ∃ (t : Nat) (v : Int), t ≤ T + 1 ∧ tv = .int .i64 t ∧ nv = .int .i64 v ∧ Hid (∃ l m, Side w wr wr.heap.size g l gm m ∧ m.Perm l ∧ l.length ≤ 100 ∧ ∀ x ∈ l, (t : Int) ≤ x.due)) (fun _ tv _ => T + 1 - (intOf tv).toNat)
      case atStart => exact ⟨0, 0, Nat.zero_le _, rfl, rfl, HST⟩
      case round =>
        obtain ⟨t, v, ht, rfl, rfl, hR⟩ := hrel
        by_cases htl : t ≤ T
        · obtain ⟨l, m, hs, hpm, hll, hdue⟩ := hR.out
          have hpop := side_pop w wr.heap.size g gm l m t wr hs
          have hsp := pop_split (t : Int) l
          obtain ⟨P, hP⟩ : ∃ P, sortT (lateT (t : Int) l) = P := ⟨_, rfl⟩
          obtain ⟨K, hK⟩ : ∃ K, keepT (t : Int) l = K := ⟨_, rfl⟩
          have hPd : ∀ x ∈ P, x.due = t := fun x hx => by
            have := late_mem (now := (t : Int)) (l := l) (x := x) (by rw [hP]; exact hx)
            have := hdue x this.1
            omega
          have hKd : ∀ x ∈ K, ((t + 1 : Nat) : Int) ≤ x.due := fun x hx => by
            have := keep_mem (now := (t : Int)) (l := l) (x := x) (by rw [hK]; exact hx)
            omega
          rw [hP, hK] at hpop hsp
          have hap : Apart m := (Apart.of_up hs.wheel.up).perm hpm
          have hPK : P.length + K.length ≤ 100 := by have := hsp.length_eq; rw [List.length_append] at this; omega
          obtain ⟨L, hL⟩ : ∃ L, P.length = L := ⟨_, rfl⟩
          rw [hL] at hpop
          have HPOP := Lib.hid hpop
          have HPP := Lib.hid (show (m.Perm (P ++ K) ∧ Apart m) ∧ (∀ x ∈ P, x.due = t) ∧ (∀ x ∈ K, ((t + 1 : Nat) : Int) ≤ x.due) ∧ P.length = L ∧ P.length + K.length ≤ 100 from ⟨⟨hpm.trans hsp, hap⟩, hPd, hKd, hL, hPK⟩)
          have t0 : (0 : Int) ≤ t := by omega
          have t1 : decide ((t : Int) ≤ (T : Int)) = true := decide_eq_true (by omega)
          have HT := Lib.hid (show wrap64 ((t : Int) + 1) = (t : Int) + 1 from IntWalk.wrap64_in _ (by have := HLE.out; omega))
          have HTL := Lib.hid htl
          clear hs hpm hll hdue hpop hsp hP hK hPd hKd hap hPK hL hR ht
          go_wp2_with fail
          refine HPOP.out.mono ?_
          rintro e w6 ⟨gM, rfl, hks, hgM, hs6⟩
          have H6 : Hid (∃ mm, mm.Perm (P.drop 0 ++ K) ∧ Apart mm ∧ Side w w6 w6.heap.size g K gm mm ∧ KeysAt w6 gM P L) := Lib.hid ⟨m, HPP.out.1.1, HPP.out.1.2, hs6, by have := HPP.out.2.2.2.1; rw [← this]; rw [this]; exact hks⟩
          have HGM := Lib.hid hgM
          clear hks hgM hs6
          go_wp2_with fail
          go_loopw [9, 59] (fun nv iv wq => ∃ (i : Nat) (v : Int), i ≤ L ∧ iv = .int .i64 i ∧ nv = .int .i64 v ∧ Hid (∃ mm, mm.Perm (P.drop i ++ K) ∧ Apart mm ∧ Side w wq wq.heap.size g K gm mm ∧ KeysAt wq gM P L)) (fun _ iv _ => L - (intOf iv).toNat)
          case atStart => exact ⟨0, v, Nat.zero_le _, rfl, rfl, H6⟩
          case round =>
            obtain ⟨i, v', hi, rfl, rfl, hQ⟩ := hrel
            by_cases hil : i < L
            · obtain ⟨mm, hmm, hma, hsq, hkq⟩ := hQ.out
              have hiP : i < P.length := by have := HPP.out.2.2.2.1; omega
              obtain ⟨n1, n2, n3⟩ := pop_next hmm hma hiP
              obtain ⟨x, hx⟩ : ∃ x, P.getD i tm0 = x := ⟨_, rfl⟩
              have hxd : x.due = t := HPP.out.2.1 x (by rw [← hx, List.getD_eq_getElem?_getD, List.getElem?_eq_getElem hiP]; exact List.getElem_mem hiP)
              rw [hx] at n1 n2 n3
              have hml : mm.length ≤ 1047000 := by have h1 := hmm.length_eq; rw [List.length_append, List.length_drop] at h1; have := HPP.out.2.2.2.2; omega
              have pk : wr.cell? ⟨gM, i, none⟩ = some (.int .i64 x.key) := by
                obtain ⟨cs, hb, hc1, hc2⟩ := hkq
                rw [hb.cell, hc2 i hil, hx]
              have hdu := side_rdue w wr.heap.size g gm K mm x.key wr hsq hml
              rw [n1, hxd] at hdu
              have HDU := Lib.hid hdu
              have HST := Lib.hid (side_rstop w wr.heap.size g gm K mm x.key wr hsq hml)
              have HNX := Lib.hid (And.intro n2 (And.intro n3 hkq))
              have i1 : (i : Int) < L := by omega
              have i0 : (0 : Int) ≤ i := by omega
              have HI := Lib.hid (show wrap64 ((i : Int) + 1) = (i : Int) + 1 from IntWalk.wrap64_in _ (by have := HPP.out.2.2.2; omega))
              clear hmm hma hsq hkq n1 n2 n3 hx hxd hml hdu hiP hQ hi
              go_wp2_with fail
              refine HDU.out.mono ?_
              rintro e w7 ⟨rfl, rfl⟩
              go_wp2_with fail
              refine HST.out.mono ?_
              rintro e w8 ⟨rfl, hs8, ht8⟩
              have H8 : Hid (∃ mm, mm.Perm (P.drop (i + 1) ++ K) ∧ Apart mm ∧ Side w w8 w8.heap.size g K gm mm ∧ KeysAt w8 gM P L) := Lib.hid ⟨_, HNX.out.1, HNX.out.2.1, hs8, HNX.out.2.2.touch ht8 HGM.out⟩
              clear hs8 ht8
              go_wp2_with fail
              go_roundw
              case rel =>
                rw [HI.out]
                exact ⟨i + 1, _, hil, by rw [Int.natCast_add]; rfl, rfl, H8⟩
              case measure =>
                rw [HI.out]
                show L - ((i : Int) + 1).toNat < L - ((i : Int)).toNat
                omega
            · obtain rfl : L = i := by omega
              obtain ⟨mm, hmm, hma, hsq, hkq⟩ := hQ.out
              have hdrop : P.drop L = [] := List.drop_of_length_le (by have := HPP.out.2.2.2.1; omega)
              rw [hdrop, List.nil_append] at hmm
              have H9 : Hid (∃ l m, Side w wr wr.heap.size g l gm m ∧ m.Perm l ∧ l.length ≤ 100 ∧ ∀ x ∈ l, ((t + 1 : Nat) : Int) ≤ x.due) := Lib.hid ⟨K, mm, hsq, hmm, by have := HPP.out.2.2.2; omega, HPP.out.2.2.1⟩
              clear hmm hma hsq hkq hdrop hQ hi
              go_wp2_with fail
              go_roundw
              case rel =>
                rw [HT.out]
                exact ⟨t + 1, _, Nat.succ_le_succ HTL.out, by rw [Int.natCast_add]; rfl, rfl, H9⟩
              case measure =>
                rw [HT.out]
                have := HTL.out
                show T + 1 - ((t : Int) + 1).toNat < T + 1 - ((t : Int)).toNat
                omega
        · obtain rfl : t = T + 1 := by omega
          obtain ⟨l, m, hs, hpm, hll, hdue⟩ := hR.out
          obtain ⟨lo, hr⟩ := hs.ref
          obtain ⟨_, A1, c1, A2, c2, hbg, _, hkc, hdc⟩ := hr.open_
          obtain ⟨M, hM⟩ : ∃ M, m.length = M := ⟨_, rfl⟩
          rw [hM] at hbg hkc hdc
          have x0 : wr.cell? ⟨gm, 0, none⟩ = some (.slice A1 M c1) := hbg.cell 0
          have x1 : wr.cell? ⟨gm, 1, none⟩ = some (.slice A2 M c2) := hbg.cell 1
          have t1 : decide (((T + 1 : Nat) : Int) ≤ (T : Int)) = false := decide_eq_false (by omega)
          have hall := all_any g l wr.drew (by
            obtain ⟨A, c, hb, ho⟩ := hs.wheel.row
            exact ⟨⟨A, c, hb, ho⟩, hs.wheel.up, hs.wheel.few⟩)
          have hlM : l.length = M := by rw [← hM]; exact hpm.length_eq.symm
          rw [hlM] at hall
          have hd1 : ∀ j, j < M → (T : Int) < (m.getD j tm0).due := fun j hj => by
            have hj' : j < m.length := by omega
            have hmem : m.getD j tm0 ∈ m := by rw [List.getD_eq_getElem?_getD, List.getElem?_eq_getElem hj']; exact List.getElem_mem hj'
            have := hdue _ (hpm.mem_iff.1 hmem)
            omega
          have HALL := Lib.hid hall
          have HD := Lib.hid (And.intro hdc (And.intro hd1 (show M ≤ 100 by omega)))
          have HSD := Lib.hid hs
          have hbg2 := Lib.hid hbg
          clear hs hpm hll hdue hr hkc hdc hbg hM hall hlM hd1 hR ht htl
          go_wp2_with fail
          go_loop [79] (fun iv => ∃ j : Nat, j ≤ M ∧ iv = .int .i64 j) (fun iv => M - (intOf iv).toNat)
          case atStart => exact ⟨0, Nat.zero_le _, rfl⟩
          case round =>
            obtain ⟨j, hj, rfl⟩ := hrel
            by_cases hlt : j < M
            · obtain ⟨bd, rfl, hbd, pd⟩ := HD.out.1 j hlt
              obtain ⟨dv, hdv⟩ : ∃ dv, (m.getD j tm0).due = dv := ⟨_, rfl⟩
              have hgt := HD.out.2.1 j hlt
              rw [hdv] at pd hgt
              have d9 : decide (dv ≤ (T : Int)) = false := decide_eq_false (by omega)
              have j1 : (j : Int) < M := by omega
              have j0 : (0 : Int) ≤ j := by omega
              have HJ := Lib.hid (show wrap64 ((j : Int) + 1) = (j : Int) + 1 from IntWalk.wrap64_in _ (by have := HD.out.2.2; omega))
              clear hbd hdv hgt hj
              go_wp2_with fail
              go_round
              case rel =>
                rw [HJ.out]
                exact ⟨j + 1, hlt, by rw [Int.natCast_add]; rfl⟩
              case measure =>
                rw [HJ.out]
                show M - ((j : Int) + 1).toNat < M - ((j : Int)).toNat
                omega
            · obtain rfl : M = j := by omega
              have hgl := hbg2.out.lt
              clear hj hlt
              go_wp2_with fail
              go_region_held3 (fun w' => w'.cell? ⟨gm, 0, none⟩ = some (.slice A1 M c1))
                (first | exact x0 | exact x9)
                (first
                  | (go_at_call 20; (with_reducible (refine HALL.out.mono ?_)); rintro e w9 ⟨A3, c3, rfl, _, b9⟩; have x9 : w9.cell? ⟨gm, 0, none⟩ = some (.slice A1 M c1) := (b9.cell (p := ⟨gm, 0, none⟩) hgl).trans x0))
              all_goals
                have hf := (HSD.out.bel.drew).trans (b9.mono HSD.out.bel.size)
                clear b9
                go_wp2_with fail
                go_ret
                exact ⟨rfl, hf⟩
set_option maxRecDepth 100000 in
theorem liftedWheelPops (os : Os) (started : os.Started) (H : Type) (enc : TypeId × Value → H) :
    ReturnsInHanded {} Try.checked os 3 .any (Rows.wheelPopsSpec.pre6 enc Try.prog Try.f3 Rows.wheelPopsRow.domain false) (Rows.wheelPopsSpec.post enc Try.prog Try.f3 false true false false) := by
  refine returnsInHanded_of_change (C := Try.checked) own started (by kernel_rfl) Try.func3
    (ChangeSpec.witness6 (enc := enc) (C := Try.checked) false ⟨#[], #[.slice none 0 0, .int .i64 0], []⟩ 8 (by kernel_rfl) (by kernel_rfl) (by kernel_rfl) (by kernel_rfl)) ?_
  intro W base args ds gs before hval0 hW hcnd _
  have hval : ∀ (j : Nat) t v, Try.f3.params[j]? = some t → args[j]? = some v → Value.okWide Try.prog W .any base t v := hval0
  have hW' := hW
  obtain ⟨p, q, hA0, hV, rfl, hfz, hnd⟩ := hW
  have hA : DataW.TrodAll enc Try.prog W 0 (fun _ => true) true Try.f3.params.toList args.toList ds p := hA0
  rw [Try.params3] at hA hval
  obtain ⟨v0, vs0, d0, ds0, p0, q0, hargs, rfl, rfl, h0, r0⟩ := trodAll_cons hA
  obtain ⟨v1, vs1, d1, ds1, p1, q1, rfl, rfl, rfl, h1, r1⟩ := trodAll_cons r0
  obtain ⟨rfl, rfl, rfl⟩ := trodAll_nil r1
  obtain rfl : args = #[v0, v1] := by cases args; simp_all
  obtain ⟨rfl, rfl⟩ := trodVars_none hV
  obtain ⟨a0', len0', cap0', rfl⟩ := okWide_slice Try.underlying22 (hval 0 22 v0 rfl rfl)
  have k0 := h0
  have lt0 : ∀ x ∈ p0, x.block < W.heap.size := by obtain ⟨m, hm⟩ := k0; exact DataW.trod_lt m _ _ _ hm
  obtain ⟨a0, cap0, l0, w0, e1, e2, e3⟩ : ∃ a cap, ∃ l : List Cl, (ClAt W W.heap.size a l ∧ (∀ x ∈ l, x.ok) ∧ (a = none → cap = 0)) ∧ a0' = a ∧ len0' = l.length ∧ cap0' = cap := by
    obtain ⟨fuel, hf⟩ := h0
    obtain ⟨a, cap, l, hcs, q⟩ := open_calls hf
    simp [Value.cells] at hcs
    obtain ⟨rfl, rfl, rfl⟩ := hcs
    exact ⟨_, _, l, q, rfl, rfl, rfl⟩
  subst e1 e2 e3
  obtain ⟨a1, rfl, rfl, rfl, w1⟩ := open_int Try.underlying3 (hval 1 3 v1 rfl rfl) h1
  clear hA0 hval0
  refine (walkWheelPops a0' cap0' l0 a1 W w0 w1).mono fun e W' ⟨he, bel⟩ => ?_
  subst he
  exact ⟨_, rfl, _, _, _, [], _, [], hW', trodAll_mk1 (shut_bool Try.underlying4 _), (trodAll_cons_mk (Below.trod laidOut (by kernel_rfl) (of_decide_eq_true (by kernel_rfl)) k0 bel lt0) (trodAll_cons_mk (shut_int Try.underlying3 w1) trodAll_mk0)), rfl, bel.frame _, fun h => by cases h⟩

theorem overWheelPops : Rows.wheelPopsRow.holds Try.pinned (OpenSpec.ofChange Rows.wheelPopsSpec) :=
  OpenClaim.holds_of_wide 3 Try.f3 rfl rfl rfl rfl rfl rfl rfl ⟨rfl, rfl, rfl, rfl, rfl⟩ rfl rfl rfl rfl rfl (by kernel_rfl) Try.func3 (by kernel_rfl)
    (of_decide_eq_true (by kernel_rfl)) (by unfold Func.isWrapper; first | (rw [if_pos (by decide +kernel)]; kernel_rfl) | (rw [if_neg (by decide +kernel)]; exact ⟨rfl, rfl⟩))
    (fun os started H enc _ => liftedWheelPops os started H enc)

/-- The statement. -/
theorem wheelPops_holds : Rows.WheelPopsSaid := overWheelPops

#print axioms wheelPops_holds
end Go.Proofs.Ytogghcbijdljkaa
