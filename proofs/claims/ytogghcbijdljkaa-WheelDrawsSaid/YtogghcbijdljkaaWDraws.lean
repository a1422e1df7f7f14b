/- WheelDraws: for every input the law returns true. -/
import Derived.Test.YtogghcbijdljkaaWalive
import Derived.Test.YtogghcbijdljkaaFrame
namespace Go.Proofs.Ytogghcbijdljkaa
open Go.ChangeShapes Go.WideShapes Go.ChangeAt Go.RowKit
open Go.ChangeMaps (open_string shut_string)
set_option maxRecDepth 100000

theorem wf_in' {n : Int} (h : (Lit.int .i64 n).wf = true) : -9223372036854775808 ≤ n ∧ n ≤ 9223372036854775807 := by
  simp [Lit.wf, IntKind.min, IntKind.max, IntKind.signed, IntKind.bits] at h
  omega
theorem row_in {w : World} {A : Option Addr} {n c i : Nat} {zs : List Int} (h : IsRow .i64 w A n c zs) (hi : i < n) : zs.getD i 0 < 9223372036854775808 := by
  rcases h with ⟨_, rfl, _⟩ | ⟨x, _, hl, _, hz, _, _, hw⟩
  · omega
  · have hi' : i < zs.length := by omega
    have := (wf_in' (hw (zs.getD i 0) (by rw [List.getD_eq_getElem?_getD, List.getElem?_eq_getElem hi']; simp))).2
    omega
/-- A row of the arguments that isn't empty, as a list. -/
theorem row_list {w : World} {A : Option Addr} {n c : Nat} {zs : List Int} (h : IsRow .i64 w A n c zs) (h0 : 0 < n) :
    ∃ l : List Int, ∃ b off, A = some ⟨b, off, none⟩ ∧ b < w.heap.size ∧ l.length = n ∧ ∀ j, j < n → w.cell? ⟨b, off + j, none⟩ = some (.int .i64 (l.getD j 0)) := by
  have hle := h.len_le
  obtain ⟨b, off, rfl, hb, _⟩ := h.at_ (i := 0) h0
  refine ⟨zs.take n, b, off, rfl, hb, by rw [List.length_take]; omega, fun j hj => ?_⟩
  obtain ⟨b', off', e, hl, q⟩ := h.at_ (i := j) hj
  injection e with e
  injection e with e1 e2
  subst e1 e2
  rw [q, List.getD_eq_getElem?_getD, List.getD_eq_getElem?_getD, List.getElem?_take, if_pos hj]
theorem nextV_nil (k : Nat) (b : Int) : nextV [] k b = 0 := by unfold nextV; rw [if_pos (.inr rfl)]
theorem nextK_nil (k : Nat) (b : Int) : nextK [] k b = k := by unfold nextK; rw [if_pos (.inr rfl)]
theorem nextV_pos {l : List Int} {n : Nat} (hl : l.length = n) (hn : 0 < n) (k : Nat) {b : Int} (hb : 0 < b) (hb2 : b < 9223372036854775808) : nextV l k b = wrap64 ((IntKind.u64.wrap (l.getD k 0)).tmod b) := by
  unfold nextV
  have hu : 0 ≤ IntKind.u64.wrap (l.getD k 0) := by rw [IntKind.wrap_u64]; exact Int.emod_nonneg _ (by decide)
  have h1 := Int.emod_nonneg (IntKind.u64.wrap (l.getD k 0)) (show b ≠ 0 by omega)
  have h2 := Int.emod_lt_of_pos (IntKind.u64.wrap (l.getD k 0)) hb
  rw [if_neg (fun e => e.elim (by omega) (fun e => by subst e; simp at hl; omega)), Int.tmod_eq_emod_of_nonneg hu]
  exact (IntWalk.wrap64_in _ (by omega)).symm
theorem nextK_pos {l : List Int} {n : Nat} (hl : l.length = n) (hn : 0 < n) (K : Nat) {b : Int} (hb : 0 < b) : nextK l (K % n) b = (K + 1) % n := by
  unfold nextK
  rw [if_neg (fun e => e.elim (by omega) (fun e => by subst e; simp at hl; omega)), hl, Nat.mod_add_mod]
set_option maxHeartbeats 8000000 in
theorem walkWheelDraws (A : Option Addr) (n c : Nat) (zs : List Int) (A1 : Option Addr) (n1 c1 : Nat) (ys : List Int) (x : Int) (w : World) (h0 : IsRow .i64 w A n c zs) (h1 : IsRow .i64 w A1 n1 c1 ys) (_h2 : (Lit.int .i64 x).wf = true) :
    Calls Try.prog 4 #[.slice A n c, .slice A1 n1 c1, .int .i64 x] w fun e w' => e = .returned (.bool true) ∧ Below w.heap.size w w' := by
  have HAL := Lib.hid (alive_any w)
  by_cases g1 : (100 : Int) < n
  · have d1 : decide ((100 : Int) < n) = true := decide_eq_true g1
    go_enter Try.func4, Try.ntmps4
    go_wp2_with fail
    refine HAL.out.mono ?_
    rintro e w1 ⟨rfl, b1⟩
    go_wp2_with fail
    go_ret
    exact ⟨rfl, b1⟩
  have d1 : decide ((100 : Int) < n) = false := decide_eq_false g1
  by_cases g2 : (200 : Int) < n1
  · have d2 : decide ((200 : Int) < n1) = true := decide_eq_true g2
    go_enter Try.func4, Try.ntmps4
    go_wp2_with fail
    refine HAL.out.mono ?_
    rintro e w1 ⟨rfl, b1⟩
    go_wp2_with fail
    go_ret
    exact ⟨rfl, b1⟩
  have d2 : decide ((200 : Int) < n1) = false := decide_eq_false g2
  have HG := Lib.hid (show n ≤ 100 ∧ n1 ≤ 200 by omega)
  have H1 := Lib.hid h1
  clear g1 g2 h1
  by_cases e0 : n = 0
  · subst e0
    clear h0
    go_enter Try.func4, Try.ntmps4
    go_wp2_with fail
    refine HAL.out.mono ?_
    rintro e w1 ⟨rfl, b1⟩
    have HB1 := Lib.hid b1
    clear b1
    go_wp2_with fail
    have hdr := draw_any A c [] w1 (.inl rfl) (by decide)
    refine hdr.mono ?_
    rintro e w2 ⟨g, rfl, hg, hd, b2⟩
    have H2 := Lib.hid (And.intro hd (And.intro (HB1.out.trans (b2.mono HB1.out.size)) (Nat.le_trans HB1.out.size hg)))
    clear hdr hg hd b2
    go_wp2_with fail
    go_loopw [30] (fun iv wr => ∃ j : Nat, j ≤ n1 ∧ iv = .int .i64 j ∧ Hid (DrawAt wr g [] 0 ∧ Below w.heap.size w wr)) (fun iv _ => n1 - (intOf iv).toNat)
    case atStart => exact ⟨0, Nat.zero_le _, rfl, Lib.hid ⟨H2.out.1, H2.out.2.1⟩⟩
    case round =>
      obtain ⟨j, hj, rfl, hS⟩ := hrel
      by_cases hlt : j < n1
      · obtain ⟨b1, off1, rfl, hb1, q1⟩ := H1.out.at_ hlt
        have hbi := row_in H1.out hlt
        obtain ⟨b, hb⟩ : ∃ b, ys.getD j 0 = b := ⟨_, rfl⟩
        rw [hb] at q1 hbi
        have p1 : wr.cell? ⟨b1, off1 + j, none⟩ = some (.int .i64 b) := (hS.out.2.cell (p := ⟨b1, off1 + j, none⟩) hb1).trans q1
        have j1 : (j : Int) < n1 := by omega
        have j0 : (0 : Int) ≤ j := by omega
        have HJ := Lib.hid (show wrap64 ((j : Int) + 1) = (j : Int) + 1 from IntWalk.wrap64_in _ (by have := HG.out; omega))
        have hnx : Calls Try.prog 22 #[.pointer (some ⟨g, 0, none⟩), .int .i64 b] wr fun e w' => e = .returned (.int .i64 0) ∧ DrawAt w' g [] 0 ∧ Touch (fun j => j = g) wr w' := by
          by_cases e1 : b < 1
          · exact (next_low g b wr e1).mono fun _ _ ⟨he, hw⟩ => ⟨he, by rw [hw]; exact hS.out.1, by rw [hw]; exact Touch.refl _ _⟩
          · have := next_any g [] 0 b wr hS.out.1 e1 hbi
            rw [nextV_nil, nextK_nil] at this
            exact this
        have HNX := Lib.hid hnx
        clear hj q1 hb1 hb hbi hnx
        go_wp2_with fail
        refine HNX.out.mono ?_
        rintro e w3 ⟨rfl, hd3, ht3⟩
        have HS3 := Lib.hid (show DrawAt w3 g [] 0 ∧ Below w.heap.size w w3 from ⟨hd3, hS.out.2.trans (ht3.below hS.out.2.size (fun k hk => by rw [hk]; exact H2.out.2.2))⟩)
        clear hd3 ht3
        go_wp2_with fail
        go_roundw
        case rel =>
          rw [HJ.out]
          exact ⟨j + 1, hlt, by rw [Int.natCast_add]; rfl, HS3⟩
        case measure =>
          rw [HJ.out]
          show n1 - ((j : Int) + 1).toNat < n1 - ((j : Int)).toNat
          omega
      · obtain rfl : n1 = j := by omega
        obtain ⟨xx, hxx⟩ : ∃ xx, min (max x 0) 1048576 = xx := ⟨_, rfl⟩
        have hji := jitter_any g [] 0 x xx wr hS.out.1 hxx
        rw [nextV_nil, nextK_nil, Int.add_zero] at hji
        have HJI := Lib.hid hji
        have HJN := Lib.hid (fun w => jitter_none x xx w hxx)
        have HX := Lib.hid (show 0 ≤ xx ∧ xx ≤ 1048576 by omega)
        have hx2 : max (min x 1048576) 0 = xx := by omega
        have HX2 := Lib.hid hx2
        clear hji hxx hx2
        go_wp2_with fail
        rw [HX2.out]
        refine HJI.out.mono ?_
        rintro e w3 ⟨rfl, hd3, ht3⟩
        have HF := Lib.hid (hS.out.2.trans (ht3.below hS.out.2.size (fun k hk => by rw [hk]; exact H2.out.2.2)))
        clear hd3 ht3
        have x0 : 0 ≤ xx := HX.out.1
        have x1 : xx ≤ 1048576 := HX.out.2
        go_wp2_with fail
        refine (next_none 9 w3).mono ?_
        rintro e w4 ⟨rfl, rfl⟩
        go_wp2_with fail
        refine (HJN.out _).mono ?_
        rintro e w5 ⟨rfl, rfl⟩
        go_wp2_with fail
        go_ret
        exact ⟨rfl, HF.out⟩
  · obtain ⟨l, b2, off2, hA, hb2, hl, hrow⟩ := row_list h0 (by omega)
    subst hA
    have hn0 : 0 < n := by omega
    have e4 : decide ((0 : Int) < n) = true := decide_eq_true (by omega)
    have HR := Lib.hid (And.intro hl (And.intro hb2 (And.intro hrow hn0)))
    clear h0 hl hb2 hrow hn0 e0
    go_enter Try.func4, Try.ntmps4
    go_wp2_with fail
    refine HAL.out.mono ?_
    rintro e w1 ⟨rfl, b1⟩
    have HB1 := Lib.hid b1
    clear b1
    go_wp2_with fail
    have hdr := draw_any (some ⟨b2, off2, none⟩) c l w1 (.inr ⟨b2, off2, rfl, fun j hj => (HB1.out.cell (p := ⟨b2, off2 + j, none⟩) HR.out.2.1).trans (HR.out.2.2.1 j (by have := HR.out.1; omega))⟩) (by have := HR.out.1; have := HG.out; omega)
    rw [HR.out.1] at hdr
    refine hdr.mono ?_
    rintro e w2 ⟨g, rfl, hg, hd, b3⟩
    have H2 := Lib.hid (And.intro hd (And.intro (HB1.out.trans (b3.mono HB1.out.size)) (Nat.le_trans HB1.out.size hg)))
    clear hdr hg hd b3
    go_wp2_with fail
    go_loopw [8, 30] (fun kv iv wr => ∃ (j K : Nat), j ≤ n1 ∧ K ≤ j ∧ iv = .int .i64 j ∧ kv = .int .i64 K ∧ Hid (DrawAt wr g l (K % n) ∧ Below w.heap.size w wr)) (fun _ iv _ => n1 - (intOf iv).toNat)
    case atStart => exact ⟨0, 0, Nat.zero_le _, Nat.le_refl _, rfl, rfl, Lib.hid ⟨by rw [Nat.zero_mod]; exact H2.out.1, H2.out.2.1⟩⟩
    case round =>
      obtain ⟨j, K, hj, hK, rfl, rfl, hS⟩ := hrel
      have n0 : ¬ (n : Int) = 0 := by have := HR.out.2.2.2; omega
      have e9 : decide ((n : Int) = 0) = false := decide_eq_false n0
      have K0 : (0 : Int) ≤ K := by omega
      have hm := Nat.mod_lt K HR.out.2.2.2
      have hmc : ((K : Int) % (n : Int)) = ((K % n : Nat) : Int) := (Int.natCast_emod K n).symm
      obtain ⟨kk, hkk⟩ : ∃ kk, K % n = kk := ⟨_, rfl⟩
      have HKK := Lib.hid hkk
      rw [hkk] at hm hmc hS
      have m1 : (kk : Int) < n := by omega
      have m0 : (0 : Int) ≤ kk := by omega
      have q2 := (hS.out.2.cell (p := ⟨b2, off2 + kk, none⟩) HR.out.2.1).trans (HR.out.2.2.1 kk hm)
      clear hkk
      by_cases hlt : j < n1
      · obtain ⟨b1, off1, rfl, hb1, q1⟩ := H1.out.at_ hlt
        have hbi := row_in H1.out hlt
        obtain ⟨b, hb⟩ : ∃ b, ys.getD j 0 = b := ⟨_, rfl⟩
        rw [hb] at q1 hbi
        have p1 : wr.cell? ⟨b1, off1 + j, none⟩ = some (.int .i64 b) := (hS.out.2.cell (p := ⟨b1, off1 + j, none⟩) hb1).trans q1
        have j1 : (j : Int) < n1 := by omega
        have j0 : (0 : Int) ≤ j := by omega
        have HJ := Lib.hid (show wrap64 ((j : Int) + 1) = (j : Int) + 1 from IntWalk.wrap64_in _ (by have := HG.out; omega))
        have HK := Lib.hid (show wrap64 ((K : Int) + 1) = (K : Int) + 1 ∧ K ≤ j from ⟨IntWalk.wrap64_in _ (by have := HG.out; omega), hK⟩)
        by_cases e1 : b < 1
        · have e2 : decide ((0 : Int) < b) = false := decide_eq_false (by omega)
          clear hj hK q1 hb1 hb hbi hm
          go_wp2_with fail
          refine (next_low g b wr e1).mono ?_
          rintro e w3 ⟨rfl, rfl⟩
          go_wp2_with fail
          go_roundw
          case rel =>
            rw [HJ.out]
            exact ⟨j + 1, K, hlt, Nat.le_succ_of_le HK.out.2, by rw [Int.natCast_add]; rfl, rfl, by rw [HKK.out]; exact hS⟩
          case measure =>
            rw [HJ.out]
            show n1 - ((j : Int) + 1).toNat < n1 - ((j : Int)).toNat
            omega
        · have e2 : decide ((0 : Int) < b) = true := decide_eq_true (by omega)
          have hb0 : (0 : Int) < b := by omega
          have hnx := next_any g l kk b wr hS.out.1 e1 hbi
          rw [nextV_pos HR.out.1 HR.out.2.2.2 _ hb0 hbi, ← HKK.out, nextK_pos HR.out.1 HR.out.2.2.2 K hb0, HKK.out] at hnx
          obtain ⟨v, hv⟩ : ∃ v, l.getD kk 0 = v := ⟨_, rfl⟩
          rw [hv] at hnx q2
          have HNX := Lib.hid hnx
          clear hj hK q1 hb1 hb hnx e1 hv hm
          go_wp2_with fail
          refine HNX.out.mono ?_
          rintro e w3 ⟨rfl, hd3, ht3⟩
          have HS3 := Lib.hid (show DrawAt w3 g l ((K + 1) % n) ∧ Below w.heap.size w w3 from ⟨hd3, hS.out.2.trans (ht3.below hS.out.2.size (fun k hk => by rw [hk]; exact H2.out.2.2))⟩)
          clear hd3 ht3
          go_wp2_with fail
          go_roundw
          case rel =>
            rw [HJ.out, HK.out.1]
            exact ⟨j + 1, K + 1, hlt, Nat.succ_le_succ HK.out.2, by rw [Int.natCast_add]; rfl, by rw [Int.natCast_add]; rfl, HS3⟩
          case measure =>
            rw [HJ.out]
            show n1 - ((j : Int) + 1).toNat < n1 - ((j : Int)).toNat
            omega
      · obtain rfl : n1 = j := by omega
        obtain ⟨xx, hxx⟩ : ∃ xx, min (max x 0) 1048576 = xx := ⟨_, rfl⟩
        have x0 : 0 ≤ xx := by omega
        have x1 : xx ≤ 1048576 := by omega
        have hji := jitter_any g l kk x xx wr hS.out.1 hxx
        rw [nextV_pos HR.out.1 HR.out.2.2.2 kk (show 0 < xx / 2 + 1 by omega) (by omega)] at hji
        obtain ⟨v, hv⟩ : ∃ v, l.getD kk 0 = v := ⟨_, rfl⟩
        rw [hv] at hji q2
        have hyr := nextV_in l kk (xx / 2 + 1) (show 0 < xx / 2 + 1 by omega)
        rw [nextV_pos HR.out.1 HR.out.2.2.2 kk (show 0 < xx / 2 + 1 by omega) (by omega), hv] at hyr
        obtain ⟨y, hy⟩ : ∃ y, wrap64 ((IntKind.u64.wrap v).tmod (xx / 2 + 1)) = y := ⟨_, rfl⟩
        rw [hy] at hji hyr
        have y0 : 0 ≤ y := hyr.1
        have y1 : y ≤ xx / 2 := by omega
        have HJI := Lib.hid hji
        have HJN := Lib.hid (fun w => jitter_none x xx w hxx)
        have hx2 : max (min x 1048576) 0 = xx := by omega
        have HX2 := Lib.hid hx2
        have hw1 : wrap64 (xx + y) = xx + y := IntWalk.wrap64_in _ (by omega)
        clear hji hxx hx2 hyr hm hv hj hK
        go_wp2_with fail
        rw [HX2.out]
        refine HJI.out.mono ?_
        rintro e w3 ⟨rfl, hd3, ht3⟩
        have HF := Lib.hid (hS.out.2.trans (ht3.below hS.out.2.size (fun k hk => by rw [hk]; exact H2.out.2.2)))
        have q3 : w3.cell? ⟨b2, off2 + kk, none⟩ = some (.int .i64 v) := ((ht3.below (B := w.heap.size) hS.out.2.size (fun k hk => by rw [hk]; exact H2.out.2.2)).cell (p := ⟨b2, off2 + kk, none⟩) HR.out.2.1).trans q2
        clear hd3 ht3 q2
        go_wp2_with fail
        refine (next_none 9 w3).mono ?_
        rintro e w4 ⟨rfl, rfl⟩
        go_wp2_with fail
        refine (HJN.out _).mono ?_
        rintro e w5 ⟨rfl, rfl⟩
        go_wp2_with fail
        go_ret
        exact ⟨rfl, HF.out⟩
set_option maxRecDepth 100000 in
theorem liftedWheelDraws (os : Os) (started : os.Started) (H : Type) (enc : TypeId × Value → H) :
    ReturnsInHanded {} Try.checked os 4 .any (Rows.wheelDrawsSpec.pre6 enc Try.prog Try.f4 Rows.wheelDrawsRow.domain false) (Rows.wheelDrawsSpec.post enc Try.prog Try.f4 false true false false) := by
  refine returnsInHanded_of_change (C := Try.checked) own started (by kernel_rfl) Try.func4
    (ChangeSpec.witness6 (enc := enc) (C := Try.checked) false ⟨#[], #[.slice none 0 0, .slice none 0 0, .int .i64 0], []⟩ 8 (by kernel_rfl) (by kernel_rfl) (by kernel_rfl) (by kernel_rfl)) ?_
  intro W base args ds gs before hval0 hW hcnd _
  have hval : ∀ (j : Nat) t v, Try.f4.params[j]? = some t → args[j]? = some v → Value.okWide Try.prog W .any base t v := hval0
  have hW' := hW
  obtain ⟨p, q, hA0, hV, rfl, hfz, hnd⟩ := hW
  have hA : DataW.TrodAll enc Try.prog W 0 (fun _ => true) true Try.f4.params.toList args.toList ds p := hA0
  rw [Try.params4] at hA hval
  obtain ⟨v0, vs0, d0, ds0, p0, q0, hargs, rfl, rfl, h0, r0⟩ := trodAll_cons hA
  obtain ⟨v1, vs1, d1, ds1, p1, q1, rfl, rfl, rfl, h1, r1⟩ := trodAll_cons r0
  obtain ⟨v2, vs2, d2, ds2, p2, q2, rfl, rfl, rfl, h2, r2⟩ := trodAll_cons r1
  obtain ⟨rfl, rfl, rfl⟩ := trodAll_nil r2
  obtain rfl : args = #[v0, v1, v2] := by cases args; simp_all
  obtain ⟨rfl, rfl⟩ := trodVars_none hV
  obtain ⟨a0, len0, cap0, rfl⟩ := okWide_slice Try.underlying27 (hval 0 27 v0 rfl rfl)
  have k0 := h0
  have lt0 : ∀ x ∈ p0, x.block < W.heap.size := by obtain ⟨m, hm⟩ := k0; exact DataW.trod_lt m _ _ _ hm
  obtain ⟨z0, w0⟩ : ∃ zs, IsRow .i64 W a0 len0 cap0 zs := by
    obtain ⟨fuel, hf⟩ := h0
    rcases open_ints Try.underlying27 Try.underlying3 (by kernel_rfl) hf with ⟨hcs, _⟩ | ⟨x, l, c, zs, hcs, _, hl, hm, hz, _, hcell, hwz⟩
    · simp [Value.cells] at hcs
      obtain ⟨rfl, rfl, rfl⟩ := hcs
      exact ⟨[], .inl ⟨rfl, rfl, rfl, rfl⟩⟩
    · simp [Value.cells] at hcs
      obtain ⟨rfl, rfl, rfl⟩ := hcs
      exact ⟨zs, .inr ⟨_, rfl, hl, hm, by simpa using hz, cell_lt hcell (by simpa using hz), hcell, hwz⟩⟩
  obtain ⟨a1, len1, cap1, rfl⟩ := okWide_slice Try.underlying27 (hval 1 27 v1 rfl rfl)
  have k1 := h1
  have lt1 : ∀ x ∈ p1, x.block < W.heap.size := by obtain ⟨m, hm⟩ := k1; exact DataW.trod_lt m _ _ _ hm
  obtain ⟨z1, w1⟩ : ∃ zs, IsRow .i64 W a1 len1 cap1 zs := by
    obtain ⟨fuel, hf⟩ := h1
    rcases open_ints Try.underlying27 Try.underlying3 (by kernel_rfl) hf with ⟨hcs, _⟩ | ⟨x, l, c, zs, hcs, _, hl, hm, hz, _, hcell, hwz⟩
    · simp [Value.cells] at hcs
      obtain ⟨rfl, rfl, rfl⟩ := hcs
      exact ⟨[], .inl ⟨rfl, rfl, rfl, rfl⟩⟩
    · simp [Value.cells] at hcs
      obtain ⟨rfl, rfl, rfl⟩ := hcs
      exact ⟨zs, .inr ⟨_, rfl, hl, hm, by simpa using hz, cell_lt hcell (by simpa using hz), hcell, hwz⟩⟩
  obtain ⟨a2, rfl, rfl, rfl, w2⟩ := open_int Try.underlying3 (hval 2 3 v2 rfl rfl) h2
  clear hA0 hval0
  refine (walkWheelDraws a0 len0 cap0 z0 a1 len1 cap1 z1 a2 W w0 w1 w2).mono fun e W' ⟨he, bel⟩ => ?_
  subst he
  exact ⟨_, rfl, _, _, _, [], _, [], hW', trodAll_mk1 (shut_bool Try.underlying4 _), (trodAll_cons_mk (Below.trod laidOut (by kernel_rfl) (of_decide_eq_true (by kernel_rfl)) k0 bel lt0) (trodAll_cons_mk (Below.trod laidOut (by kernel_rfl) (of_decide_eq_true (by kernel_rfl)) k1 bel lt1) (trodAll_cons_mk (shut_int Try.underlying3 w2) trodAll_mk0))), rfl, bel.frame _, fun h => by cases h⟩

theorem overWheelDraws : Rows.wheelDrawsRow.holds Try.pinned (OpenSpec.ofChange Rows.wheelDrawsSpec) :=
  OpenClaim.holds_of_wide 4 Try.f4 rfl rfl rfl rfl rfl rfl rfl ⟨rfl, rfl, rfl, rfl, rfl⟩ rfl rfl rfl rfl rfl (by kernel_rfl) Try.func4 (by kernel_rfl)
    (of_decide_eq_true (by kernel_rfl)) (by unfold Func.isWrapper; first | (rw [if_pos (by decide +kernel)]; kernel_rfl) | (rw [if_neg (by decide +kernel)]; exact ⟨rfl, rfl⟩))
    (fun os started H enc _ => liftedWheelDraws os started H enc)

/-- The statement. -/
theorem wheelDraws_holds : Rows.WheelDrawsSaid := overWheelDraws

#print axioms wheelDraws_holds
end Go.Proofs.Ytogghcbijdljkaa
