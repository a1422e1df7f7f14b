/- WheelOne: for every input the law returns true. -/
import Derived.Test.YtogghcbijdljkaaWcalls
namespace Go.Proofs.Ytogghcbijdljkaa
open Go.ChangeShapes Go.WideShapes Go.ChangeAt Go.RowKit

theorem put_put (l : List Tm) (key a b : Int) : putT (putT l key a) key b = putT l key b := by
  induction l with
  | nil => simp [putT]
  | cons x l ih =>
    by_cases h1 : x.key < key
    · simp [putT, h1, ih]
    · by_cases h2 : x.key = key
      · simp [putT, h2]
      · simp [putT, h1, h2]
theorem due_putb (l : List Tm) (key b : Int) : dueT (putT l key b) key = b := by
  induction l with
  | nil => simp [putT, dueT]
  | cons x l ih =>
    by_cases h1 : x.key < key
    · have h2 : ¬ x.key = key := by omega
      simp [putT, dueT, h1, h2, ih]
    · by_cases h2 : x.key = key
      · simp [putT, dueT, h2]
      · simp [putT, dueT, h1, h2]
/-- Two wheels that lie apart, each one's blocks below a bound. -/
def TwoW (w0 w : World) (M M' g g' : Nat) (l l' : List Tm) : Prop := ∃ F F', WheelF w0 w g l F ∧ WheelF w0 w g' l' F' ∧ (∀ k, F k → ¬ F' k) ∧ Below w0.heap.size w0 w ∧ (∀ k, F k → k < M) ∧ (∀ k, F' k → k < M')
theorem TwoW.below {w0 w w' : World} {M M' g g' : Nat} {l l' : List Tm} (h : TwoW w0 w M M' g g' l l') (hb : Below w.heap.size w w') : TwoW w0 w' M M' g g' l l' := by
  obtain ⟨F, F', h1, h2, h3, h4, h5, h6⟩ := h
  exact ⟨F, F', h1.below hb, h2.below hb, h3, h4.trans (hb.mono h4.size), h5, h6⟩
theorem TwoW.swap {w0 w : World} {M M' g g' : Nat} {l l' : List Tm} (h : TwoW w0 w M M' g g' l l') : TwoW w0 w M' M g' g l' l := by
  obtain ⟨F, F', h1, h2, h3, h4, h5, h6⟩ := h
  exact ⟨F', F, h2, h1, fun k h5 h6 => h3 k h6 h5, h4, h6, h5⟩
theorem TwoW.reset {w0 w : World} {M M' g g' : Nat} {l l' : List Tm} (h : TwoW w0 w M M' g g' l l') : TwoW w0 w w.heap.size w.heap.size g g' l l' := by
  obtain ⟨F, F', h1, h2, h3, h4, _, _⟩ := h
  exact ⟨F, F', h1, h2, h3, h4, fun k hk => (h1.in_ k hk).2, fun k hk => (h2.in_ k hk).2⟩
theorem TwoW.bel {w0 w : World} {M M' g g' : Nat} {l l' : List Tm} (h : TwoW w0 w M M' g g' l l') : Below w0.heap.size w0 w := by
  obtain ⟨_, _, _, _, _, h4, _, _⟩ := h
  exact h4
theorem TwoW.at1 {w0 w : World} {M M' g g' : Nat} {l l' : List Tm} (h : TwoW w0 w M M' g g' l l') : WheelAt w g l := by
  obtain ⟨_, _, h1, _⟩ := h
  exact h1.at_
/-- A script's call at a wheel, whatever its number is. -/
theorem call_two (w0 : World) (M M' g g' : Nat) (l l' : List Tm) (key due : Int) (w : World) (h : TwoW w0 w M M' g g' l l') (hfew : l.length < 1048000) :
    Calls Try.prog 15 #[.pointer (some ⟨g, 0, none⟩), .int .i64 key, .int .i64 due] w fun e w' => (∃ v, e = .returned (.int .i64 v)) ∧ TwoW w0 w' w'.heap.size M' g g' (if due < 0 then l else putT l key due) l' ∧ Touch (fun k => k < M) w w' := by
  obtain ⟨F, F', h1, h2, h3, h4, h5, h6⟩ := h
  by_cases hd : due < 0
  · rw [if_pos hd]
    refine (set_neg g key due w hd).mono fun e w' hh => ?_
    obtain ⟨he, rfl⟩ := hh
    exact ⟨⟨_, he⟩, ⟨F, F', h1, h2, h3, h4, fun k hk => (h1.in_ k hk).2, h6⟩, Touch.refl _ _⟩
  · rw [if_neg hd]
    refine (set_f w0 g l F key due w h1 h4.size (by omega) hfew).mono fun e w' hh => ?_
    obtain ⟨he, F2, k1, ht, hf⟩ := hh
    refine ⟨⟨_, he⟩, ⟨F2, F', k1, h2.keep ht (fun k hk hF => h3 k hF hk), fun k hk hk' => ?_, h4.trans (ht.below h4.size fun k hk => (h1.in_ k hk).1), fun k hk => (k1.in_ k hk).2, h6⟩, ht.mono fun k _ hk => h5 k hk⟩
    rcases hf k hk with e | e
    · exact h3 k e hk'
    · have := (h2.in_ k hk').2
      omega
theorem run_next (s : List Cl) (j : Nat) : runTo s (j + 1) = if (s.getD j cl0).n < 0 then runTo s j else putT (runTo s j) (s.getD j cl0).key (s.getD j cl0).n := rfl
set_option maxRecDepth 100000 in
set_option maxHeartbeats 4000000 in
theorem walkWheelOne (A : Option Addr) (c : Nat) (s : List Cl) (key a b : Int) (w : World) (h0 : ClAt w w.heap.size A s ∧ (∀ x ∈ s, x.ok) ∧ (A = none → c = 0)) (_h1 : (Lit.int .i64 key).wf = true) (_h2 : (Lit.int .i64 a).wf = true) (_h3 : (Lit.int .i64 b).wf = true) :
    Calls Try.prog 5 #[.slice A s.length c, .int .i64 key, .int .i64 a, .int .i64 b] w fun e w' => e = .returned (.bool true) ∧ Below w.heap.size w w' := by
  have HAL := Lib.hid (alive_any w)
  have H0 := Lib.hid h0
  obtain ⟨n, hn⟩ : ∃ n, s.length = n := ⟨_, rfl⟩
  have HN := Lib.hid hn
  rw [hn]
  clear h0 hn
  by_cases hs : (100 : Int) < n
  · have d1 : decide ((100 : Int) < n) = true := decide_eq_true hs
    go_enter Try.func5, Try.ntmps5
    go_wp2_with fail
    refine HAL.out.mono ?_
    rintro e w1 ⟨rfl, b1⟩
    go_wp2_with fail
    go_ret
    exact ⟨rfl, b1⟩
  have d1 : decide ((100 : Int) < n) = false := decide_eq_false hs
  by_cases ha : a < 0
  · have d2 : decide (a < 0) = true := decide_eq_true ha
    go_enter Try.func5, Try.ntmps5
    go_wp2_with fail
    refine HAL.out.mono ?_
    rintro e w1 ⟨rfl, b1⟩
    go_wp2_with fail
    go_ret
    exact ⟨rfl, b1⟩
  have d2 : decide (a < 0) = false := decide_eq_false ha
  by_cases hb : b < 0
  · have d3 : decide (b < 0) = true := decide_eq_true hb
    go_enter Try.func5, Try.ntmps5
    go_wp2_with fail
    refine HAL.out.mono ?_
    rintro e w1 ⟨rfl, b1⟩
    go_wp2_with fail
    go_ret
    exact ⟨rfl, b1⟩
  have d3 : decide (b < 0) = false := decide_eq_false hb
  have HLE := Lib.hid (show n ≤ 100 ∧ ¬ a < 0 ∧ ¬ b < 0 by omega)
  clear hs ha hb
  go_enter Try.func5, Try.ntmps5
  go_wp2_with fail
  refine HAL.out.mono ?_
  rintro e w1 ⟨rfl, b1⟩
  have HB1 := Lib.hid b1
  clear b1
  go_wp2_with fail
  refine (new_f w w1 HB1.out.size).mono ?_
  rintro e w2 ⟨g, F, rfl, hw1, b2, hf1⟩
  have HW2 := Lib.hid (And.intro hw1 (And.intro b2 hf1))
  clear hw1 b2 hf1
  go_wp2_with fail
  refine (new_f w w2 (Nat.le_trans HB1.out.size HW2.out.2.1.size)).mono ?_
  rintro e w3 ⟨g', F', rfl, hw3, b3, hf3⟩
  have htwo : TwoW w w3 w3.heap.size w3.heap.size g g' [] [] :=
    ⟨F, F', HW2.out.1.below b3, hw3, fun k hk hk' => by have h1 := (HW2.out.1.in_ k hk).2; have h2 := hf3 k hk'; omega, (HB1.out.trans (HW2.out.2.1.mono HB1.out.size)).trans (b3.mono (Nat.le_trans HB1.out.size HW2.out.2.1.size)), fun k hk => Nat.lt_of_lt_of_le (HW2.out.1.in_ k hk).2 b3.size, fun k hk => (hw3.in_ k hk).2⟩
  have HT := Lib.hid htwo
  clear hw3 b3 hf3 htwo
  go_wp2_with fail
  go_loopw [33] (fun iv wr => ∃ (j : Nat), j ≤ n ∧ iv = .int .i64 j ∧ Hid (TwoW w wr wr.heap.size wr.heap.size g g' (runTo s j) (runTo s j))) (fun iv _ => n - (intOf iv).toNat)
  case atStart => exact ⟨0, Nat.zero_le _, rfl, HT⟩
  case round =>
    obtain ⟨j, hj, rfl, hS⟩ := hrel
    by_cases hlt : j < n
    · obtain ⟨bb, off, rfl, hbl, c0, c1, c2⟩ := H0.out.1 j (by rw [HN.out]; exact hlt)
      have hrn := run_next s j
      obtain ⟨x, hx⟩ : ∃ x, s.getD j cl0 = x := ⟨_, rfl⟩
      rw [hx] at c0 c1 c2 hrn
      obtain ⟨ck, cy, cn⟩ := x
      have q0 : wr.cell? ⟨bb, off + j * 3, none⟩ = some (.int .i64 ck) := (hS.out.bel.cell (p := ⟨bb, off + j * 3, none⟩) hbl).trans c0
      have q1 : wr.cell? ⟨bb, off + j * 3 + 1, none⟩ = some (.int .i64 cy) := (hS.out.bel.cell (p := ⟨bb, off + j * 3 + 1, none⟩) hbl).trans c1
      have q2 : wr.cell? ⟨bb, off + j * 3 + 2, none⟩ = some (.int .i64 cn) := (hS.out.bel.cell (p := ⟨bb, off + j * 3 + 2, none⟩) hbl).trans c2
      have hfew : (runTo s j).length < 1048000 := by have := run_length s j; have := HLE.out; omega
      have zb := Blk.new wr 31 (Cl.mk ck cy cn).arr
      have hS1 := hS.out.below (bel_alloc wr (.cells (Cl.mk ck cy cn).arr 31))
      have hcall := call_two w wr.heap.size wr.heap.size g g' (runTo s j) (runTo s j) cy cn _ hS1 hfew
      simp only [Cl.arr] at hcall
      have HC := Lib.hid hcall
      have HZ := Lib.hid (And.intro zb hfew)
      have HRN := Lib.hid hrn
      have j1 : (j : Int) < n := by omega
      have j0 : (0 : Int) ≤ j := by omega
      have HJ := Lib.hid (show wrap64 ((j : Int) + 1) = (j : Int) + 1 from IntWalk.wrap64_in _ (by have := HLE.out; omega))
      clear hrn hx hfew zb hS1 hcall hbl c0 c1 c2 hj
      go_wp2_with fail
      refine HC.out.mono ?_
      rintro e w4 ⟨⟨v, rfl⟩, ht4, hto4⟩
      have zb4 := HZ.out.1.touch hto4 (Nat.lt_irrefl _)
      have y1 : w4.cell? ⟨wr.heap.size, 1, none⟩ = some (.int .i64 cy) := zb4.cell 1
      have y2 : w4.cell? ⟨wr.heap.size, 2, none⟩ = some (.int .i64 cn) := zb4.cell 2
      have hcall := call_two w wr.heap.size w4.heap.size g' g (runTo s j) _ cy cn w4 ht4.swap HZ.out.2
      have HC2 := Lib.hid hcall
      clear hcall ht4 hto4 zb4 q0 q1 q2
      go_wp2_with fail
      refine HC2.out.mono ?_
      rintro e w5 ⟨⟨v2, rfl⟩, ht5, _⟩
      have ht6 := ht5.swap.reset
      rw [show (if cn < 0 then runTo s j else putT (runTo s j) cy cn) = runTo s (j + 1) from HRN.out.symm] at ht6
      have HS5 := Lib.hid ht6
      clear ht5 ht6 y1 y2
      go_wp2_with fail
      go_roundw
      case rel =>
        rw [HJ.out]
        exact ⟨j + 1, hlt, by rw [Int.natCast_add]; rfl, HS5⟩
      case measure =>
        rw [HJ.out]
        show n - ((j : Int) + 1).toNat < n - ((j : Int)).toNat
        omega
    · obtain rfl : n = j := by omega
      have hfew : (runTo s n).length < 1047000 := by have := run_length s n; have := HLE.out; omega
      obtain ⟨l0, hl0⟩ : ∃ l0, runTo s n = l0 := ⟨_, rfl⟩
      rw [hl0] at hS hfew
      have HF := Lib.hid hfew
      clear hfew hl0 hj hlt
      go_wp2_with fail
      refine (call_two w _ _ g g' l0 l0 key a wr hS.out (by have := HF.out; omega)).mono ?_
      rw [if_neg (show ¬ a < 0 by have := HLE.out; omega)]
      rintro e w4 ⟨⟨v, rfl⟩, ht4, _⟩
      have H4 := Lib.hid ht4
      clear ht4
      go_wp2_with fail
      refine (call_two w _ _ g g' _ l0 key b w4 H4.out (by have := HF.out; have := put_len l0 key a; omega)).mono ?_
      rw [if_neg (show ¬ b < 0 by have := HLE.out; omega), put_put]
      rintro e w5 ⟨⟨v, rfl⟩, ht5, _⟩
      have H5 := Lib.hid ht5.swap
      clear ht5
      go_wp2_with fail
      refine (call_two w _ _ g' g l0 _ key b w5 H5.out (by have := HF.out; omega)).mono ?_
      rw [if_neg (show ¬ b < 0 by have := HLE.out; omega)]
      rintro e w6 ⟨⟨v, rfl⟩, ht6, _⟩
      have hdp := due_putb l0 key b
      obtain ⟨L, hL⟩ : ∃ L, putT l0 key b = L := ⟨_, rfl⟩
      rw [hL] at ht6 hdp
      have H6 := Lib.hid ht6.swap.reset
      have HDP := Lib.hid hdp
      have hLn : (sortT L).length ≤ 1048000 := by rw [sortT_length, ← hL]; have := HF.out; have := put_len l0 key b; omega
      have HLN := Lib.hid hLn
      obtain ⟨m, hm⟩ : ∃ m, L.length = m := ⟨_, rfl⟩
      have HM := Lib.hid (show (sortT L).length = m by rw [sortT_length]; exact hm)
      have ha6 := all_any g L w6 H6.out.at1
      rw [hm] at ha6
      have HA6 := Lib.hid ha6
      clear ht6 hdp hLn ha6
      go_wp2_with fail
      refine HA6.out.mono ?_
      rintro e w7 ⟨A1, c1, rfl, ho7, b7⟩
      have h7 := H6.out.below b7
      have ha7 := all_any g' L w7 h7.swap.at1
      rw [hm] at ha7
      have HA7 := Lib.hid ha7
      have H7 := Lib.hid (And.intro h7 (And.intro ho7.at_ (hm)))
      clear h7 ho7 b7 ha7 hL
      go_wp2_with fail
      refine HA7.out.mono ?_
      rintro e w8 ⟨A2, c2, rfl, ho8, b8⟩
      have h8 := H7.out.1.below b8
      have hd8 := due_any g L key w8 h8.at1
      rw [HDP.out] at hd8
      have HD8 := Lib.hid hd8
      have H8 := Lib.hid (And.intro h8 (And.intro ((H7.out.2.1.below b8).more b8.size) ho8.at_))
      clear h8 ho8 b8 hd8 hm
      go_wp2_with fail
      refine HD8.out.mono ?_
      rintro e w9 ⟨rfl, b9⟩
      have H9 : Hid (TmAt w9 w9.heap.size A1 (sortT L) ∧ TmAt w9 w9.heap.size A2 (sortT L) ∧ Below w.heap.size w w9) := Lib.hid ⟨(H8.out.2.1.below b9).more b9.size, (H8.out.2.2.below b9).more b9.size, H8.out.1.bel.trans (b9.mono H8.out.1.bel.size)⟩
      clear b9
      go_wp2_with fail
      go_loopw [80] (fun iv wr => ∃ (j : Nat), j ≤ m ∧ iv = .int .i64 j ∧ Hid (TmAt wr wr.heap.size A1 (sortT L) ∧ TmAt wr wr.heap.size A2 (sortT L) ∧ Below w.heap.size w wr)) (fun iv _ => m - (intOf iv).toNat)
      case atStart => exact ⟨0, Nat.zero_le _, rfl, H9⟩
      case round =>
        obtain ⟨j, hj, rfl, hR⟩ := hrel
        by_cases hlt : j < m
        · obtain ⟨b1, o1, rfl, _, p0, p1⟩ := hR.out.1 j (by rw [HM.out]; exact hlt)
          obtain ⟨b2, o2, rfl, _, r0, r1⟩ := hR.out.2.1 j (by rw [HM.out]; exact hlt)
          obtain ⟨x, hx⟩ : ∃ x, (sortT L).getD j tm0 = x := ⟨_, rfl⟩
          rw [hx] at p0 p1 r0 r1
          obtain ⟨xd, xk⟩ := x
          simp only at p0 p1 r0 r1
          have j1 : (j : Int) < m := by omega
          have j0 : (0 : Int) ≤ j := by omega
          have HJ := Lib.hid (show wrap64 ((j : Int) + 1) = (j : Int) + 1 from IntWalk.wrap64_in _ (by have := HLN.out; have := HM.out; omega))
          have HR2 : Hid (TmAt wr.drew wr.drew.heap.size (some ⟨b1, o1, none⟩) (sortT L) ∧ TmAt wr.drew wr.drew.heap.size (some ⟨b2, o2, none⟩) (sortT L) ∧ Below w.heap.size w wr.drew) := Lib.hid ⟨hR.out.1, hR.out.2.1, hR.out.2.2.drew⟩
          clear hx hj
          go_wp2_with fail
          go_big_region
          go_wp2_with fail
          go_roundw
          case rel =>
            rw [HJ.out]
            exact ⟨j + 1, hlt, by rw [Int.natCast_add]; rfl, HR2⟩
          case measure =>
            rw [HJ.out]
            show m - ((j : Int) + 1).toNat < m - ((j : Int)).toNat
            omega
        · obtain rfl : m = j := by omega
          go_wp2_with fail
          go_ret
          exact ⟨rfl, hR.out.2.2⟩
set_option maxRecDepth 100000 in
theorem liftedWheelOne (os : Os) (started : os.Started) (H : Type) (enc : TypeId × Value → H) :
    ReturnsInHanded {} Try.checked os 5 .any (Rows.wheelOneSpec.pre6 enc Try.prog Try.f5 Rows.wheelOneRow.domain false) (Rows.wheelOneSpec.post enc Try.prog Try.f5 false true false false) := by
  refine returnsInHanded_of_change (C := Try.checked) own started (by kernel_rfl) Try.func5
    (ChangeSpec.witness6 (enc := enc) (C := Try.checked) false ⟨#[], #[.slice none 0 0, .int .i64 0, .int .i64 0, .int .i64 0], []⟩ 8 (by kernel_rfl) (by kernel_rfl) (by kernel_rfl) (by kernel_rfl)) ?_
  intro W base args ds gs before hval0 hW hcnd _
  have hval : ∀ (j : Nat) t v, Try.f5.params[j]? = some t → args[j]? = some v → Value.okWide Try.prog W .any base t v := hval0
  have hW' := hW
  obtain ⟨p, q, hA0, hV, rfl, hfz, hnd⟩ := hW
  have hA : DataW.TrodAll enc Try.prog W 0 (fun _ => true) true Try.f5.params.toList args.toList ds p := hA0
  rw [Try.params5] at hA hval
  obtain ⟨v0, vs0, d0, ds0, p0, q0, hargs, rfl, rfl, h0, r0⟩ := trodAll_cons hA
  obtain ⟨v1, vs1, d1, ds1, p1, q1, rfl, rfl, rfl, h1, r1⟩ := trodAll_cons r0
  obtain ⟨v2, vs2, d2, ds2, p2, q2, rfl, rfl, rfl, h2, r2⟩ := trodAll_cons r1
  obtain ⟨v3, vs3, d3, ds3, p3, q3, rfl, rfl, rfl, h3, r3⟩ := trodAll_cons r2
  obtain ⟨rfl, rfl, rfl⟩ := trodAll_nil r3
  obtain rfl : args = #[v0, v1, v2, v3] := by cases args; simp_all
  obtain ⟨rfl, rfl⟩ := trodVars_none hV
  obtain ⟨a0', len0', cap0', rfl⟩ := okWide_slice Try.underlying22 (hval 0 22 v0 rfl rfl)
  have k0 := h0
  have lt0 : ∀ x ∈ p0, x.block < W.heap.size := by obtain ⟨m, hm⟩ := k0; exact DataW.trod_lt m _ _ _ hm
  obtain ⟨a0, cap0, l0, w0, e1, e2, e3⟩ : ∃ a cap, ∃ l : List Cl, (ClAt W W.heap.size a l ∧ (∀ x ∈ l, x.ok) ∧ (a = none → cap = 0)) ∧ a0' = a ∧ len0' = l.length ∧ cap0' = cap := by
    obtain ⟨fuel, hf⟩ := h0
    obtain ⟨a, cap, l, hcs, q⟩ := open_calls hf
    simp [Value.cells] at hcs
    obtain ⟨rfl, rfl, rfl⟩ := hcs
    exact ⟨_, _, l, q, rfl, rfl, rfl⟩
  subst e1 e2 e3
  obtain ⟨a1, rfl, rfl, rfl, w1⟩ := open_int Try.underlying3 (hval 1 3 v1 rfl rfl) h1
  obtain ⟨a2, rfl, rfl, rfl, w2⟩ := open_int Try.underlying3 (hval 2 3 v2 rfl rfl) h2
  obtain ⟨a3, rfl, rfl, rfl, w3⟩ := open_int Try.underlying3 (hval 3 3 v3 rfl rfl) h3
  clear hA0 hval0
  refine (walkWheelOne a0' cap0' l0 a1 a2 a3 W w0 w1 w2 w3).mono fun e W' ⟨he, bel⟩ => ?_
  subst he
  exact ⟨_, rfl, _, _, _, [], _, [], hW', trodAll_mk1 (shut_bool Try.underlying4 _), (trodAll_cons_mk (Below.trod laidOut (by kernel_rfl) (of_decide_eq_true (by kernel_rfl)) k0 bel lt0) (trodAll_cons_mk (shut_int Try.underlying3 w1) (trodAll_cons_mk (shut_int Try.underlying3 w2) (trodAll_cons_mk (shut_int Try.underlying3 w3) trodAll_mk0)))), rfl, bel.frame _, fun h => by cases h⟩

theorem overWheelOne : Rows.wheelOneRow.holds Try.pinned (OpenSpec.ofChange Rows.wheelOneSpec) :=
  OpenClaim.holds_of_wide 5 Try.f5 rfl rfl rfl rfl rfl rfl rfl ⟨rfl, rfl, rfl, rfl, rfl⟩ rfl rfl rfl rfl rfl (by kernel_rfl) Try.func5 (by kernel_rfl)
    (of_decide_eq_true (by kernel_rfl)) (by unfold Func.isWrapper; first | (rw [if_pos (by decide +kernel)]; kernel_rfl) | (rw [if_neg (by decide +kernel)]; exact ⟨rfl, rfl⟩))
    (fun os started H enc _ => liftedWheelOne os started H enc)

/-- The statement. -/
theorem wheelOne_holds : Rows.WheelOneSaid := overWheelOne

#print axioms wheelOne_holds
end Go.Proofs.Ytogghcbijdljkaa
