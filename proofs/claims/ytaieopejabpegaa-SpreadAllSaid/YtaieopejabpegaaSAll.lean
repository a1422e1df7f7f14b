/- The statement SpreadAll: All answers what is registered somewhere, or named, in order, each once; Members the ports at which one is. Its condition: Wants' contract. -/
import Derived.Test.YtaieopejabpegaaSWants
import Derived.Test.YtaieopejabpegaaSnAll
import Derived.Deep.RegionHeld3
import Derived.Deep.DeepCutAuto
import Derived.Deep.CutBlock
import Derived.BigQuiet
namespace Go.Proofs.Ytaieopejabpegaa
open Go.RowKit
set_option maxRecDepth 100000

theorem has_of (A : Option Addr) (c n : Nat) (l : List At) (x : At) (V : World) (hA : AtsAt V V.heap.size A l) (hn : l.length = n) (hl : n ≤ 1048576) :
    Calls Try.prog 14 #[.agg #[.bool false, .slice A n c, .slice none 0 0], .agg #[.int .i64 x.t, .int .i64 x.v]] V fun e w' => e = .returned (.bool (decide (x ∈ l))) ∧ Below V.heap.size V w' := by
  subst hn
  exact dhas_any ⟨false, A, c, l, none, 0, []⟩ x V ⟨hA, IntAt.nil _ _ _⟩ hl
theorem up_less {l : List At} (h : l.Pairwise ltA) {i : Nat} (hi : i + 1 < l.length) : lessB (l.getD i at0).t (l.getD i at0).v (l.getD (i + 1) at0).t (l.getD (i + 1) at0).v = true := by
  have h := List.pairwise_iff_getElem.1 h i (i + 1) (by omega) hi (by omega)
  rw [List.getD_eq_getElem?_getD, List.getD_eq_getElem?_getD, List.getElem?_eq_getElem hi, List.getElem?_eq_getElem (by omega : i < l.length)]
  simp only [Option.getD_some]
  unfold ltA at h
  unfold lessB
  rcases h with h | ⟨h, h2⟩
  · rw [decide_eq_true h]; rfl
  · rw [decide_eq_true h, decide_eq_true h2]; simp
theorem getD_mem {l : List At} {i : Nat} (h : i < l.length) : l.getD i at0 ∈ l := by
  rw [List.getD_eq_getElem?_getD, List.getElem?_eq_getElem h]
  exact List.getElem_mem h
set_option maxHeartbeats 16000000 in
theorem walkAll (HWI : WantsIs) (A A2 : Option Addr) (c c2 : Nat) (l : List Vx) (more : List At) (a : At) (w : World) (hA : VxAt w w.heap.size A l) (hl : l.length * 56 ≤ 140737488351232) (hM : AtsAt w w.heap.size A2 more) (hc2 : more.length ≤ c2 ∧ (A2 = none → c2 = 0)) (hxc : ∀ k, k < l.length → ((l.getD k vx0).A = none → (l.getD k vx0).c = 0)) :
    Calls Try.prog 4 #[.slice A l.length c, .slice A2 more.length c2, .agg #[.int .i64 a.t, .int .i64 a.v]] w fun e w' => e = .returned (.bool true) ∧ Below w.heap.size w w' := by
  obtain ⟨n, hn⟩ : ∃ n, l.length = n := ⟨_, rfl⟩
  obtain ⟨m, hmm⟩ : ∃ m, more.length = m := ⟨_, rfl⟩
  have HPL := Lib.hid (fun (V : World) (hV : Below w.heap.size w V) => splain_any A c l V ((hA.below hV).more hV.size) hl)
  have HALL := Lib.hid (fun (V : World) (hV : Below w.heap.size w V) h20 h40 hx => sall_any A A2 c c2 l more V ((hA.below hV).more hV.size) ((hM.below hV).more hV.size) hc2 h20 h40 hx hxc)
  have HMEM := Lib.hid (fun (V : World) (hV : Below w.heap.size w V) h20 hx => smem_any A c l a V ((hA.below hV).more hV.size) h20 hx)
  have HHM := Lib.hid (fun (V : World) (hV : Below w.heap.size w V) (h40 : m ≤ 40) (x : At) => has_of A2 c2 m more x V ((hM.below hV).more hV.size) hmm (by omega))
  have HMA := Lib.hid hM
  have HN := Lib.hid (And.intro hn hmm)
  rw [hn] at HPL HALL HMEM
  rw [hmm] at HALL
  rw [hn, hmm]
  have HB0 := Lib.hid (box1 w a)
  clear hA hl hM hc2 hxc hn hmm
  go_enter Try.func4, Try.ntmps4
  go_wp2_with fail
  refine (salive_any HWI _).mono ?_
  rintro e v1 ⟨rfl, b1⟩
  have HB1 := Lib.hid (HB0.out.below b1)
  clear b1
  have HP1 := Lib.hid (HPL.out v1 HB1.out.1)
  have a0 := HB1.out.2.cell 0
  have a1 := HB1.out.2.cell 1
  go_wp2_with fail
  refine HP1.out.mono ?_
  rintro e v2 ⟨(⟨z, rfl⟩ | ⟨Am, cm, rfl, hm, hcm, h20, hsm⟩), b2⟩
  · have HE := Lib.hid (HB1.out.below b2)
    clear b2 a0 a1
    go_wp2_with fail
    go_ret
    exact ⟨rfl, HE.out.1⟩
  have HB2 := Lib.hid (HB1.out.below b2)
  have HM := Lib.hid (And.intro hm (And.intro h20 (fun k hk => (hsm k hk).1)))
  clear b2 hm hcm h20 hsm a0 a1
  by_cases d40 : 40 < m
  · have d40' : (40 : Int) < m := by omega
    have HE := Lib.hid HB2.out.1
    go_wp2_with fail
    go_ret
    exact ⟨rfl, HE.out⟩
  have d40' : ¬ (40 : Int) < m := by omega
  have d40i : (m : Int) ≤ 40 := by omega
  have H40 := Lib.hid (show m ≤ 40 by omega)
  have HW2 := Lib.hid (HALL.out v2 HB2.out.1 HM.out.2.1 H40.out HM.out.2.2)
  clear d40
  go_wp2_with fail
  refine HW2.out.mono ?_
  rintro e v3 ⟨A3, c3, rfl, h3, b3⟩
  obtain ⟨R, hR⟩ : ∃ R, allA (rowsT l more n) = R := ⟨_, rfl⟩
  have hrl := rowsT_len l more (fun k hk => HM.out.2.2 k (by rw [← HN.out.1]; exact hk)) n (by rw [HN.out.1]; exact Nat.le_refl _)
  have hup := allA_up (rowsT l more n)
  have hme := fun x => allA_mem (rowsT l more n) x
  have hle := allA_len (rowsT l more n)
  rw [hR] at h3 hup hme hle ⊢
  obtain ⟨r, hr⟩ : ∃ r, R.length = r := ⟨_, rfl⟩
  have HRR := Lib.hid (And.intro hr (And.intro hup (And.intro hme (show r ≤ 1048576 by have := HN.out; have := HM.out.2.1; have := H40.out; omega))))
  rw [hr]
  have H3 := Lib.hid h3
  have HB3 := Lib.hid (HB2.out.below b3)
  have HM3 := Lib.hid ((HM.out.1.below b3).more b3.size)
  have HHR := Lib.hid (fun (V : World) (hV : Below v3.heap.size v3 V) (x : At) => has_of A3 c3 r R x V ((h3.below hV).more hV.size) hr HRR.out.2.2.2)
  clear h3 b3 hR hrl hup hme hle hr d40' d40i
  go_wp2_with fail
  go_loopw [41] (fun iv wr => ∃ j : Nat, j ≤ r ∧ iv = .int .i64 j ∧ Hid (Box1 w wr a ∧ Below v3.heap.size v3 wr)) (fun iv _ => r - (intOf iv).toNat)
  case atStart => exact ⟨0, Nat.zero_le _, rfl, Lib.hid ⟨HB3.out, Below.refl _ _⟩⟩
  case round =>
    obtain ⟨j, hj, rfl, HS⟩ := hrel
    by_cases hlt : j < r
    · have j1 : (j : Int) < r := by omega
      have j0 : (0 : Int) ≤ j := by omega
      have HLT := Lib.hid hlt
      have HJ := Lib.hid (show wrap64 ((j : Int) + 1) = (j : Int) + 1 from IntWalk.wrap64_in _ (by have := HRR.out.2.2.2; omega))
      obtain ⟨b, off, eA, hbl, c0, c1⟩ := H3.out j (by rw [HRR.out.1]; exact hlt)
      have q0 := (HS.out.2.cell (p := ⟨b, off + j * 2, none⟩) hbl).trans c0
      have q1 := (HS.out.2.cell (p := ⟨b, off + j * 2 + 1, none⟩) hbl).trans c1
      obtain ⟨x, hx⟩ : ∃ x, R.getD j at0 = x := ⟨_, rfl⟩
      rw [hx] at q0 q1
      have HX := Lib.hid hx
      have HXR := Lib.hid (show x ∈ rowsT l more n from (HRR.out.2.2.1 x).1 (by rw [← hx]; exact getD_mem (by rw [HRR.out.1]; exact hlt)))
      subst eA
      have HBL := Lib.hid hbl
      obtain ⟨wo, ho⟩ : ∃ wo, wo = wr := ⟨_, rfl⟩
      subst ho
      have bx := bel_alloc wo (.cells #[.int .i64 x.t, .int .i64 x.v] 24)
      have kx := Blk.new wo 24 #[.int .i64 x.t, .int .i64 x.v]
      have HW := Lib.hid (And.intro (HS.out.1.below bx) (And.intro (HS.out.2.trans (bx.mono HS.out.2.size)) kx))
      clear hj hlt hbl c0 c1 hx bx kx
      go_upto_region 10 with fail
      obtain ⟨W, hW⟩ : ∃ W, wo.alloc (.cells #[.int .i64 x.t, .int .i64 x.v] 24) = W := ⟨_, rfl⟩
      rw [hW] at HW ⊢
      clear hW q0 q1
      go_cut [57] (fun bv wx => bv = .bool false ∧ Hid (Below W.heap.size W wx))
      case first =>
        by_cases hj0 : 0 < j
        · obtain ⟨i, hi⟩ : ∃ i, j - 1 = i := ⟨_, rfl⟩
          have iw : wrap64 ((j : Int) - 1) = (i : Int) := (IntWalk.wrap64_in _ (by have := HRR.out.2.2.2; omega)).trans (by omega)
          have iw2 : IntKind.i64.wrap ((j : Int) - 1) = (i : Int) := by rw [show (j : Int) - 1 = i by omega]; exact wrap_in (by omega) (by have := HRR.out.2.2.2; omega)
          have i0 : (0 : Int) ≤ i := by omega
          have i1 : (i : Int) < r := by have := HLT.out; omega
          have hj0i : (0 : Int) < j := by omega
          obtain ⟨b', off', eA, hbl, c0, c1⟩ := H3.out i (by rw [HRR.out.1]; have := HLT.out; omega)
          injection eA with eA
          injection eA with e1 e2
          subst e1 e2
          have hless := up_less HRR.out.2.1 (i := i) (by rw [HRR.out.1]; have := HLT.out; omega)
          rw [show i + 1 = j by omega, HX.out] at hless
          obtain ⟨y, hy⟩ : ∃ y, R.getD i at0 = y := ⟨_, rfl⟩
          rw [hy] at c0 c1 hless
          have HLE := Lib.hid (fun (V : World) => (by have h := dless_any y.t y.v x.t x.v V; rw [hless] at h; exact h : Calls Try.prog 13 #[.agg #[.int .i64 y.t, .int .i64 y.v], .agg #[.int .i64 x.t, .int .i64 x.v]] V fun e w' => e = .returned (.bool true) ∧ Below V.heap.size V w'))
          have sD : W.drew.cell? ⟨b, off + i * 2, none⟩ = some (.int .i64 y.t) ∧ W.drew.cell? ⟨b, off + i * 2 + 1, none⟩ = some (.int .i64 y.v) ∧ W.drew.cell? ⟨wo.heap.size, 0, none⟩ = some (.int .i64 x.t) ∧ W.drew.cell? ⟨wo.heap.size, 1, none⟩ = some (.int .i64 x.v) :=
            ⟨(HW.out.2.1.cell (p := ⟨b, off + i * 2, none⟩) hbl).trans c0, (HW.out.2.1.cell (p := ⟨b, off + i * 2 + 1, none⟩) hbl).trans c1, HW.out.2.2.cell 0, HW.out.2.2.cell 1⟩
          have HKE := Lib.hid (fun (V : World) (hV : Below W.drew.heap.size W.drew V) => And.intro ((hV.cell (p := ⟨b, off + i * 2, none⟩) (Nat.lt_of_lt_of_le hbl HW.out.2.1.size)).trans sD.1) (And.intro ((hV.cell (p := ⟨b, off + i * 2 + 1, none⟩) (Nat.lt_of_lt_of_le hbl HW.out.2.1.size)).trans sD.2.1) (And.intro ((hV.cell (p := ⟨wo.heap.size, 0, none⟩) HW.out.2.2.lt).trans sD.2.2.1) ((hV.cell (p := ⟨wo.heap.size, 1, none⟩) HW.out.2.2.lt).trans sD.2.2.2))))
          clear hi hbl c0 c1 hless hy
          go_region_held3 (fun w' => w'.cell? ⟨b, off + i * 2, none⟩ = some (.int .i64 y.t) ∧ w'.cell? ⟨b, off + i * 2 + 1, none⟩ = some (.int .i64 y.v) ∧ w'.cell? ⟨wo.heap.size, 0, none⟩ = some (.int .i64 x.t) ∧ w'.cell? ⟨wo.heap.size, 1, none⟩ = some (.int .i64 x.v))
            (first
              | (with_reducible exact sD)
              | (with_reducible exact s6)
              | fail)
            (first
              | (go_at_call 13; (with_reducible (refine (HLE.out _).mono ?_)); rintro e w6 ⟨rfl, b6⟩; have s6 := HKE.out w6 b6))
          have HE := Lib.hid (show Below W.heap.size W w6 from (Below.refl _ _).drew.trans b6)
          clear s6 b6 sD
          go_wp2_with fail
          go_meet
          exact ⟨rfl, HE⟩
        · have hj0i : ¬ (0 : Int) < j := by omega
          have hj0b : decide (0 < j) = false := decide_eq_false hj0
          have hj0c : decide ((0 : Int) < j) = false := decide_eq_false hj0i
          go_quiet (fail)
          go_wp2_with fail
          go_meet
          exact ⟨rfl, Lib.hid (bel_drewN (Below.refl _ _) nq)⟩
      case rest =>
        obtain ⟨rfl, hwc⟩ := hcut
        have hbc := hwc.out
        have HWC1 := Lib.hid (And.intro (HW.out.1.below hbc) (And.intro (HW.out.2.1.trans (hbc.mono HW.out.2.1.size)) (HW.out.2.2.below hbc HW.out.2.2.lt)))
        have HH1 := Lib.hid (HHM.out wc HWC1.out.1.1 H40.out x)
        have x0 := HWC1.out.2.2.cell 0
        have x1 := HWC1.out.2.2.cell 1
        clear hbc hwc
        go_wp2_with fail
        refine HH1.out.mono ?_
        rintro e w7 ⟨rfl, b7⟩
        have HW7 := Lib.hid (And.intro (HWC1.out.1.below b7) (And.intro (HWC1.out.2.1.trans (b7.mono HWC1.out.2.1.size)) (HWC1.out.2.2.below b7 HWC1.out.2.2.lt)))
        clear b7 x0 x1
        go_wp2_with fail
        go_loopw [12, 64] (fun bv iv wr => ∃ k : Nat, k ≤ n ∧ iv = .int .i64 k ∧ bv = .bool (decide (x ∈ rowsT l more k)) ∧ Hid (Box1 w wr a ∧ Below v3.heap.size v3 wr ∧ Blk wr wo.heap.size 24 #[.int .i64 x.t, .int .i64 x.v])) (fun _ iv _ => n - (intOf iv).toNat)
        case atStart => exact ⟨0, Nat.zero_le _, rfl, rfl, HW7⟩
        case round =>
          obtain ⟨k, hk, rfl, rfl, HS2⟩ := hrel
          by_cases hlt : k < n
          · have k1 : (k : Int) < n := by omega
            have k0 : (0 : Int) ≤ k := by omega
            have HLK := Lib.hid hlt
            have HK := Lib.hid (show wrap64 ((k : Int) + 1) = (k : Int) + 1 from IntWalk.wrap64_in _ (by have := HM.out.2.1; omega))
            obtain ⟨⟨bm, om, eA, hbl, hc⟩, hr⟩ := HM3.out k (by rw [HN.out.1]; exact hlt)
            have hc := hc.below HS2.out.2.1 hbl
            have HST := Lib.hid (show (x ∈ rowsT l more (k + 1)) ↔ x ∈ rowsT l more k ∨ x ∈ (l.getD k vx0).xs from List.mem_append)
            have hxl := HM.out.2.2 k hlt
            obtain ⟨y, hy⟩ : ∃ y, l.getD k vx0 = y := ⟨_, rfl⟩
            rw [hy] at hc hr HST hxl
            have hR := fun (V : World) (hV : Below v3.heap.size v3 V) => dhas_any y x V (Vx.rows_more (Vx.rows_below hr hV) hV.size) (by omega)
            obtain ⟨q0, q1, q2⟩ := hc
            obtain ⟨xop, xA, xc, xs, xA', xc', xbs⟩ := y
            obtain ⟨xk, hxk⟩ : ∃ xk, xs.length = xk := ⟨_, rfl⟩
            obtain ⟨xm, hxm⟩ : ∃ xm, xbs.length = xm := ⟨_, rfl⟩
            simp only [hxk, hxm] at q0 q1 q2
            simp only [Vx.cells, hxk, hxm] at hR
            obtain ⟨hv, hhv⟩ : ∃ hv, decide (x ∈ xs) = hv := ⟨_, rfl⟩
            have hR : ∀ (V : World) (hV : Below v3.heap.size v3 V), Calls Try.prog 14 #[.agg #[.bool xop, .slice xA xk xc, .slice xA' xm xc'], .agg #[.int .i64 x.t, .int .i64 x.v]] V fun e w' => e = .returned (.bool hv) ∧ Below V.heap.size V w' := fun V hV => by
              have h := hR V hV
              unfold hasV Vx.v at h
              simp only [hhv] at h
              exact h
            have HR := Lib.hid hR
            have HHV := Lib.hid hhv
            have bv := bel_alloc wr (.cells #[.bool xop, .slice xA xk xc, .slice xA' xm xc'] 38)
            have HB5 := Lib.hid (And.intro (HS2.out.1.below bv) (And.intro (HS2.out.2.1.trans (bv.mono HS2.out.2.1.size)) (HS2.out.2.2.alloc (.cells #[.bool xop, .slice xA xk xc, .slice xA' xm xc'] 38))))
            have x0 := fun o => (HS2.out.2.2.alloc o).cell 0
            have x1 := fun o => (HS2.out.2.2.alloc o).cell 1
            obtain ⟨bi, hbi⟩ : ∃ bi, decide (x ∈ rowsT l more k) = bi := ⟨_, rfl⟩
            have HBI := Lib.hid hbi
            rw [hbi]
            subst eA
            clear hk hlt hbl hr hxl hy hxk hxm hR hhv hbi bv
            cases bi with
            | true =>
              have HE := Lib.hid (show decide (x ∈ rowsT l more (k + 1)) = true from decide_eq_true (HST.out.2 (.inl (of_decide_eq_true HBI.out))))
              go_wp2_with fail
              go_roundw
              case rel =>
                rw [HK.out]
                exact ⟨k + 1, HLK.out, by rw [Int.natCast_add]; rfl, by rw [HE.out], HB5⟩
              case measure =>
                rw [HK.out]
                show n - ((k : Int) + 1).toNat < n - ((k : Int)).toNat
                have := HLK.out
                omega
            | false =>
              have HE := Lib.hid (show decide (x ∈ rowsT l more (k + 1)) = hv from by
                rw [← HHV.out]
                refine decide_eq_decide.2 (HST.out.trans ⟨fun h => h.elim (fun h => absurd h (of_decide_eq_false HBI.out)) id, .inr⟩))
              go_wp2_with fail
              refine (HR.out _ HB5.out.2.1).mono ?_
              rintro e w8 ⟨rfl, b8⟩
              have HB8 := Lib.hid (show Box1 w w8 a ∧ Below v3.heap.size v3 w8 ∧ Blk w8 wo.heap.size 24 #[.int .i64 x.t, .int .i64 x.v] from And.intro (HB5.out.1.below b8) (And.intro (HB5.out.2.1.trans (b8.mono HB5.out.2.1.size)) (HB5.out.2.2.below b8 HB5.out.2.2.lt)))
              clear b8 x0 x1 q0 q1 q2
              go_wp2_with fail
              go_roundw
              case rel =>
                rw [HK.out]
                exact ⟨k + 1, HLK.out, by rw [Int.natCast_add]; rfl, by rw [HE.out], HB8⟩
              case measure =>
                rw [HK.out]
                show n - ((k : Int) + 1).toNat < n - ((k : Int)).toNat
                have := HLK.out
                omega
          · obtain rfl : n = k := by omega
            clear hk hlt
            rw [decide_eq_true HXR.out]
            go_wp2_with fail
            go_roundw
            case rel =>
              rw [HJ.out]
              exact ⟨j + 1, HLT.out, by rw [Int.natCast_add]; rfl, Lib.hid ⟨HS2.out.1, HS2.out.2.1⟩⟩
            case measure =>
              rw [HJ.out]
              show r - ((j : Int) + 1).toNat < r - ((j : Int)).toNat
              have := HLT.out
              omega
    · obtain rfl : j = r := by omega
      clear hj hlt
      have HS1 := Lib.hid HS.out
      clear HS
      go_wp2_with fail
      obtain ⟨wo, ho⟩ : ∃ wo, wo = wr := ⟨_, rfl⟩
      subst ho
      go_loopw [15, 80] (fun pv iv wr => ∃ (k m1 : Nat) (A1 : Option Addr) (c1 : Nat), k ≤ n ∧ iv = .int .i64 k ∧ pv = .slice A1 m1 c1 ∧ Hid (m1 = (memT l a k).length ∧ OwnJ wr v3.heap.size A1 c1 (memT l a k) ∧ Box1 w wr a ∧ Below v3.heap.size v3 wr)) (fun _ iv _ => n - (intOf iv).toNat)
      case atStart => exact ⟨0, 0, none, 0, Nat.zero_le _, rfl, rfl, Lib.hid ⟨rfl, World.ownsRow_nil _ _ _ _, HS1.out⟩⟩
      case round =>
        obtain ⟨k, m1, A1, c1, hk, rfl, rfl, HS⟩ := hrel
        by_cases hlt : k < n
        · have k1 : (k : Int) < n := by omega
          have k0 : (0 : Int) ≤ k := by omega
          have HLK := Lib.hid hlt
          have HK := Lib.hid (show wrap64 ((k : Int) + 1) = (k : Int) + 1 from IntWalk.wrap64_in _ (by have := HM.out.2.1; omega))
          obtain ⟨⟨bm, om, eA, hbl, hc⟩, hr⟩ := HM3.out k (by rw [HN.out.1]; exact hlt)
          have hc := hc.below HS.out.2.2.2 hbl
          have HST := Lib.hid (show memT l a (k + 1) = if a ∈ (l.getD k vx0).xs then memT l a k ++ [(k : Int)] else memT l a k from rfl)
          have HIN := Lib.hid (show ∀ x, x ∈ (l.getD k vx0).xs → x ∈ R from fun x hx => (HRR.out.2.2.1 x).2 ((rowsT_mem l more n x).2 (.inr ⟨k, hlt, hx⟩)))
          have hxl := HM.out.2.2 k hlt
          obtain ⟨y, hy⟩ : ∃ y, l.getD k vx0 = y := ⟨_, rfl⟩
          rw [hy] at hc hr HST hxl HIN
          have hR := fun (V : World) (hV : Below v3.heap.size v3 V) => dhas_any y a V (Vx.rows_more (Vx.rows_below hr hV) hV.size) (by omega)
          obtain ⟨q0, q1, q2⟩ := hc
          obtain ⟨xop, xA, xc, xs, xA', xc', xbs⟩ := y
          have HXS := Lib.hid (fun (V : World) (hV : Below v3.heap.size v3 V) => ((show AtsAt v3 v3.heap.size xA xs from hr.1).below hV))
          obtain ⟨xk, hxk⟩ : ∃ xk, xs.length = xk := ⟨_, rfl⟩
          obtain ⟨xm, hxm⟩ : ∃ xm, xbs.length = xm := ⟨_, rfl⟩
          simp only [hxk, hxm] at q0 q1 q2
          simp only [Vx.cells, hxk, hxm] at hR
          have HXK := Lib.hid (And.intro hxk (show xk ≤ 40 by rw [← hxk]; exact hxl))
          obtain ⟨hv, hhv⟩ : ∃ hv, decide (a ∈ xs) = hv := ⟨_, rfl⟩
          have hR : ∀ (V : World) (hV : Below v3.heap.size v3 V), Calls Try.prog 14 #[.agg #[.bool xop, .slice xA xk xc, .slice xA' xm xc'], .agg #[.int .i64 a.t, .int .i64 a.v]] V fun e w' => e = .returned (.bool hv) ∧ Below V.heap.size V w' := fun V hV => by
            have h := hR V hV
            unfold hasV Vx.v at h
            simp only [hhv] at h
            exact h
          have HR := Lib.hid hR
          have HHV := Lib.hid hhv
          obtain ⟨wp, hwp⟩ : ∃ wp, wp = wr := ⟨_, rfl⟩
          subst hwp
          have bv := bel_alloc wp (.cells #[.bool xop, .slice xA xk xc, .slice xA' xm xc'] 38)
          have HB5 := Lib.hid (show OwnJ (wp.alloc (.cells #[.bool xop, .slice xA xk xc, .slice xA' xm xc'] 38)) v3.heap.size A1 c1 (memT l a k) ∧ Box1 w (wp.alloc (.cells #[.bool xop, .slice xA xk xc, .slice xA' xm xc'] 38)) a ∧ Below v3.heap.size v3 (wp.alloc (.cells #[.bool xop, .slice xA xk xc, .slice xA' xm xc'] 38)) ∧ Blk (wp.alloc (.cells #[.bool xop, .slice xA xk xc, .slice xA' xm xc'] 38)) wp.heap.size 38 #[.bool xop, .slice xA xk xc, .slice xA' xm xc'] from
            ⟨World.ownsRow.alloc HS.out.2.1 _, HS.out.2.2.1.below bv, HS.out.2.2.2.trans (bv.mono HS.out.2.2.2.size), Blk.new _ _ _⟩)
          have HM1 := Lib.hid HS.out.1
          have x0 := fun o => (HS.out.2.2.1.2.alloc o).cell 0
          have x1 := fun o => (HS.out.2.2.1.2.alloc o).cell 1
          subst eA
          clear hk hlt hbl hr hxl hy hxk hxm hR hhv bv HS
          go_wp2_with fail
          refine (HR.out _ HB5.out.2.2.1).mono ?_
          rintro e w8 ⟨rfl, b8⟩
          have HB8 := Lib.hid (show OwnJ w8 v3.heap.size A1 c1 (memT l a k) ∧ Box1 w w8 a ∧ Below v3.heap.size v3 w8 ∧ Blk w8 wp.heap.size 38 #[.bool xop, .slice xA xk xc, .slice xA' xm xc'] from
            ⟨own_heap HB5.out.1 fun q hq => b8.block q (World.ownsRow.lt HB5.out.1 q hq).2, HB5.out.2.1.below b8, HB5.out.2.2.1.trans (b8.mono HB5.out.2.2.1.size), HB5.out.2.2.2.below b8 HB5.out.2.2.2.lt⟩)
          clear b8 x0 x1 q0 q1 q2
          go_upto_if 87 with fail
          go_cut [15] (fun pv wx => ∃ (m2 : Nat) (A4 : Option Addr) (c4 : Nat), pv = .slice A4 m2 c4 ∧ Hid (m2 = (memT l a (k + 1)).length ∧ OwnJ wx v3.heap.size A4 c4 (memT l a (k + 1)) ∧ Box1 w wx a ∧ Below v3.heap.size v3 wx ∧ Blk wx wp.heap.size 38 #[.bool xop, .slice xA xk xc, .slice xA' xm xc']))
          case first =>
            cases hv with
            | false =>
              have HE := Lib.hid (show memT l a (k + 1) = memT l a k from HST.out.trans (if_neg (of_decide_eq_false HHV.out)))
              go_wp2_with fail
              go_meet
              exact ⟨m1, A1, c1, rfl, Lib.hid ⟨by rw [HE.out]; exact HM1.out, by rw [HE.out]; exact HB8.out.1, HB8.out.2⟩⟩
            | true =>
              have HE := Lib.hid (show memT l a (k + 1) = memT l a k ++ [(k : Int)] from HST.out.trans (if_pos (of_decide_eq_true HHV.out)))
              have hml := memT_len l a k
              have hb4 := bel_alloc w8 (.cells #[.int .i64 (k : Int)] 3)
              have hbx := Blk.new w8 3 #[.int .i64 (k : Int)]
              have hown : OwnJ (w8.alloc (.cells #[.int .i64 (k : Int)] 3)) v3.heap.size A1 c1 (memT l a k) := World.ownsRow.alloc HB8.out.1 _
              obtain ⟨a', c', w', hrun, ho', hg⟩ := append_j (w8.alloc (.cells #[.int .i64 (k : Int)] 3)) v3.heap.size A1 c1 m1 (memT l a k) HM1.out.symm hown (some ⟨w8.heap.size, 0, none⟩) 1 1 (w8.alloc (.cells #[.int .i64 (k : Int)] 3)).heap.size [(k : Int)] rfl (fun h => by cases h)
                (fun q hq => by
                  obtain rfl : q = 0 := by have : q < 1 := hq; omega
                  exact ⟨w8.heap.size, 0, rfl, hbx.lt, hbx.cell 0⟩) (by have := HN.out; have := HM.out.2.1; have := HLK.out; show (memT l a k).length + 1 ≤ _; omega) (Nat.le_trans HB8.out.2.2.1.size hb4.size)
              have hown' := hown
              unfold OwnJ at hown'
              rw [← HM1.out] at hown'
              have hblk := blk_grown (HB8.out.2.2.2.alloc (.cells #[.int .i64 (k : Int)] 3)) hown' (by decide) hg
              have hbel : Below v3.heap.size w8 w' := (hb4.mono HB8.out.2.2.1.size).trans (bel_own hown' hg (Nat.le_refl _) (Nat.le_trans HB8.out.2.2.1.size hb4.size))
              have hwl : w.heap.size < v3.heap.size := HB3.out.2.lt
              have HF := Lib.hid (show m1 + 1 = (memT l a (k + 1)).length ∧ OwnJ w' v3.heap.size a' c' (memT l a (k + 1)) ∧ Box1 w w' a ∧ Below v3.heap.size v3 w' ∧ Blk w' wp.heap.size 38 #[.bool xop, .slice xA xk xc, .slice xA' xm xc'] from ⟨by rw [HE.out, List.length_append, HM1.out]; rfl, by rw [HE.out]; exact ho', ⟨HB8.out.2.1.1.trans (hbel.mono (Nat.le_of_lt hwl)), HB8.out.2.1.2.below hbel hwl⟩, HB8.out.2.2.1.trans hbel, hblk⟩)
              have HRU := Lib.hid hrun
              clear hml hb4 hbx hown hown' hblk hbel hwl hrun ho' hg
              go_wp2_with (at_builtin; refine Lib.wpList_append_run _ rfl _ _ _ _ rfl _ _ rfl rfl _ _ HRU.out ?_)
              go_meet
              exact ⟨m1 + 1, a', c', rfl, HF⟩
          case rest =>
            obtain ⟨m2, A4, c4, rfl, HC4⟩ := hcut
            have y0 := HC4.out.2.2.2.2.cell 0
            have y1 := HC4.out.2.2.2.2.cell 1
            have y2 := HC4.out.2.2.2.2.cell 2
            go_wp2_with fail
            clear y0 y1 y2
            go_loopw [95] (fun iv wr => ∃ q : Nat, q ≤ xk ∧ iv = .int .i64 q ∧ Hid (Below wc.heap.size wc wr)) (fun iv _ => xk - (intOf iv).toNat)
            case atStart => exact ⟨0, Nat.zero_le _, rfl, Lib.hid (Below.refl _ _)⟩
            case round =>
              obtain ⟨q, hq, rfl, HQ⟩ := hrel
              by_cases hqt : q < xk
              · have q1 : (q : Int) < xk := by omega
                have q0 : (0 : Int) ≤ q := by omega
                have HLQ := Lib.hid hqt
                have HQJ := Lib.hid (show wrap64 ((q : Int) + 1) = (q : Int) + 1 from IntWalk.wrap64_in _ (by have := HXK.out.2; omega))
                have hb3 : Below v3.heap.size v3 wr := HC4.out.2.2.2.1.trans (HQ.out.mono HC4.out.2.2.2.1.size)
                obtain ⟨bs, os, eS, hbl, s0, s1⟩ := HXS.out wr hb3 q (by rw [HXK.out.1]; exact hqt)
                obtain ⟨x, hx⟩ : ∃ x, xs.getD q at0 = x := ⟨_, rfl⟩
                rw [hx] at s0 s1
                have hxr : x ∈ R := HIN.out x (by show x ∈ xs; rw [← hx]; exact getD_mem (by rw [HXK.out.1]; exact hqt))
                have bx := bel_alloc wr (.cells #[.int .i64 x.t, .int .i64 x.v] 24)
                have h7 := HHR.out (wr.alloc (.cells #[.int .i64 x.t, .int .i64 x.v] 24)) (hb3.trans (bx.mono hb3.size)) x
                rw [decide_eq_true hxr] at h7
                have H7 := Lib.hid h7
                have HBX := Lib.hid (HQ.out.trans (bx.mono HQ.out.size))
                subst eS
                clear hq hqt hb3 hbl hx hxr bx h7
                go_wp2_with fail
                refine H7.out.mono ?_
                rintro e w9 ⟨rfl, b9⟩
                have HB9 := Lib.hid (HBX.out.trans (b9.mono HBX.out.size))
                clear b9 s0 s1
                go_wp2_with fail
                go_roundw
                case rel =>
                  rw [HQJ.out]
                  exact ⟨q + 1, HLQ.out, by rw [Int.natCast_add]; rfl, HB9⟩
                case measure =>
                  rw [HQJ.out]
                  show xk - ((q : Int) + 1).toNat < xk - ((q : Int)).toNat
                  have := HLQ.out
                  omega
              · obtain rfl : xk = q := by omega
                clear hq hqt
                have HEND := Lib.hid (show OwnJ wr v3.heap.size A4 c4 (memT l a (k + 1)) ∧ Box1 w wr a ∧ Below v3.heap.size v3 wr from ⟨own_heap HC4.out.2.1 fun q hq => HQ.out.block q (World.ownsRow.lt HC4.out.2.1 q hq).2, HC4.out.2.2.1.below HQ.out, HC4.out.2.2.2.1.trans (HQ.out.mono HC4.out.2.2.2.1.size)⟩)
                go_wp2_with fail
                go_roundw
                case rel =>
                  rw [HK.out]
                  exact ⟨k + 1, m2, A4, c4, HLK.out, by rw [Int.natCast_add]; rfl, rfl, Lib.hid ⟨HC4.out.1, HEND.out⟩⟩
                case measure =>
                  rw [HK.out]
                  show n - ((k : Int) + 1).toNat < n - ((k : Int)).toNat
                  have := HLK.out
                  omega
        · obtain rfl : n = k := by omega
          clear hk hlt
          go_wp2_with fail
          obtain ⟨wp, hwp⟩ : ∃ wp, wp = wr := ⟨_, rfl⟩
          subst hwp
          go_loopw [108] (fun iv wr => ∃ q : Nat, q ≤ m ∧ iv = .int .i64 q ∧ Hid (Below wp.heap.size wp wr)) (fun iv _ => m - (intOf iv).toNat)
          case atStart => exact ⟨0, Nat.zero_le _, rfl, Lib.hid (Below.refl _ _)⟩
          case round =>
            obtain ⟨q, hq, rfl, HQ⟩ := hrel
            by_cases hqt : q < m
            · have q1 : (q : Int) < m := by omega
              have q0 : (0 : Int) ≤ q := by omega
              have HLQ := Lib.hid hqt
              have HQJ := Lib.hid (show wrap64 ((q : Int) + 1) = (q : Int) + 1 from IntWalk.wrap64_in _ (by have := H40.out; omega))
              have hb3 : Below v3.heap.size v3 wr := HS.out.2.2.2.trans (HQ.out.mono HS.out.2.2.2.size)
              have hbw : Below w.heap.size w wr := HB3.out.1.trans (hb3.mono HB3.out.1.size)
              obtain ⟨bs, os, eS, hbl, s0, s1⟩ := (HMA.out.below hbw) q (by rw [HN.out.2]; exact hqt)
              obtain ⟨x, hx⟩ : ∃ x, more.getD q at0 = x := ⟨_, rfl⟩
              rw [hx] at s0 s1
              have hxr : x ∈ R := (HRR.out.2.2.1 x).2 ((rowsT_mem l more n x).2 (.inl (by rw [← hx]; exact getD_mem (by rw [HN.out.2]; exact hqt))))
              have bx := bel_alloc wr (.cells #[.int .i64 x.t, .int .i64 x.v] 24)
              have h7 := HHR.out (wr.alloc (.cells #[.int .i64 x.t, .int .i64 x.v] 24)) (hb3.trans (bx.mono hb3.size)) x
              rw [decide_eq_true hxr] at h7
              have H7 := Lib.hid h7
              have HBX := Lib.hid (HQ.out.trans (bx.mono HQ.out.size))
              subst eS
              clear hq hqt hb3 hbw hbl hx hxr bx h7
              go_wp2_with fail
              refine H7.out.mono ?_
              rintro e w9 ⟨rfl, b9⟩
              have HB9 := Lib.hid (HBX.out.trans (b9.mono HBX.out.size))
              clear b9 s0 s1
              go_wp2_with fail
              go_roundw
              case rel =>
                (try rw [HQJ.out])
                exact ⟨q + 1, HLQ.out, by rw [Int.natCast_add]; rfl, HB9⟩
              case measure =>
                (try rw [HQJ.out])
                show m - ((q : Int) + 1).toNat < m - ((q : Int)).toNat
                have := HLQ.out
                omega
            · obtain rfl : m = q := by omega
              clear hq hqt
              have hbx := HS.out.2.2.1.below HQ.out
              have hml := memT_len l a n
              have hmm := HMEM.out wr hbx.1 HM.out.2.1 HM.out.2.2
              have HW9 := Lib.hid (show IntAt wr wr.heap.size A1 (memT l a n) from ((HS.out.2.1.at_).below HQ.out).more HQ.out.size)
              have HMM := Lib.hid hmm
              have HBX := Lib.hid hbx
              have HML := Lib.hid (show (memT l a n).length ≤ 1048576 by have := HM.out.2.1; omega)
              have x0 := hbx.2.cell 0
              have x1 := hbx.2.cell 1
              clear hbx hml hmm
              go_wp2_with fail
              refine HMM.out.mono ?_
              rintro e w10 ⟨A9, c9, rfl, h9, b9⟩
              have hsame := sames_any (c := c9) (c' := c1) (w := w10) (l := memT l a n) (l' := memT l a n) rfl HS.out.1.symm HML.out h9 ((HW9.out.below b9).more b9.size)
              rw [decide_eq_true rfl] at hsame
              have HSA := Lib.hid hsame
              have HB10 := Lib.hid (HBX.out.1.trans (b9.mono HBX.out.1.size))
              clear h9 b9 hsame x0 x1
              go_wp2_with fail
              refine HSA.out.mono ?_
              rintro e w11 ⟨rfl, b11⟩
              have HB11 := Lib.hid (HB10.out.trans (b11.mono HB10.out.size))
              clear b11
              go_wp2_with fail
              go_ret
              exact ⟨rfl, HB11.out⟩
end Go.Proofs.Ytaieopejabpegaa
