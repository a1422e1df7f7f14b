/- Run answers the cells, one by one, of any table; a row of events in two parts comes to the same (P13.1). No condition. -/
import Derived.Test.YtkdnngcmiggoeaaJeq
import Derived.Deep.RegionLaw
namespace Go.Proofs.Ytkdnngcmiggoeaa
open Go.ChangeShapes Go.WideShapes Go.ChangeAt Go.RowKit
set_option maxRecDepth 100000

set_option maxHeartbeats 8000000 in
theorem walkTableRuns (A : Option Addr) (cap : Nat) (t : Tb) (s : Int) (A2 : Option Addr) (len2 cap2 : Nat) (zs : List Int) (cut : Int) (w : World) (ht : TbAt w w.heap.size A t ∧ t.length ≤ maxLen ∧ ∀ r ∈ t, r.length ≤ maxLen) (hs : (Lit.int .i64 s).wf = true) (hz : IsRow .i64 w A2 len2 cap2 zs) (hcut : (Lit.int .i64 cut).wf = true) :
    Calls Try.prog 6 #[.slice A t.length cap, .int .i64 s, .slice A2 len2 cap2, .int .i64 cut] w fun e w' => e = .returned (.bool true) ∧ Below w.heap.size w w' := by
  obtain ⟨hev, hlen, hnone⟩ := hz.ev
  obtain ⟨es, hes⟩ : ∃ es, zs.take len2 = es := ⟨_, rfl⟩
  rw [hes] at hev hlen
  have hcap : len2 ≤ cap2 := by
    rcases hz with ⟨_, h, _, _⟩ | ⟨_, _, h, _⟩
    · omega
    · exact h
  have hadr : cap2 = 0 ∨ ∃ b off, A2 = some ⟨b, off, none⟩ := by
    rcases hz with ⟨_, _, h, _⟩ | ⟨⟨b, off, spot⟩, hx, _, _, hl, _, hc, _⟩
    · exact .inl h
    · by_cases h0 : cap2 = 0
      · exact .inl h0
      · have h1 := hc 0 (by omega)
        have hspot : spot = none := by simpa [Addr.add] using World.cell?_spot h1
        subst hspot
        exact .inr ⟨b, off, hx⟩
  have HZ := Lib.hid (And.intro hev (And.intro hlen hnone))
  have HT := Lib.hid ht
  obtain ⟨n, hn⟩ : ∃ n, t.length = n := ⟨_, rfl⟩
  have HN := Lib.hid hn
  have hgr := fun (w0 : World) (b : Below w.heap.size w w0) => great13_any w0 A cap t (HT.out.1.keep b b.size) HT.out.2.1
  have hat := fun (s e : Int) (w0 : World) (b : Below w.heap.size w w0) => at_any A cap t s e w0 (HT.out.1.keep b b.size)
  rw [hn] at hgr hat ⊢
  have HG := Lib.hid hgr
  have HAT := Lib.hid hat
  clear hz hes hev hlen hnone ht hgr hat hn
  go_enter Try.func6, Try.ntmps6
  go_wp2_with fail
  refine (alive13_any w).mono ?_
  rintro e w1 ⟨rfl, b1⟩
  go_wp2_with fail
  refine (HG.out w1 b1).mono ?_
  rintro e w2 ⟨rfl, b2⟩
  have b02 := b1.trans (b2.mono b1.size)
  cases hgt : greatT t with
  | true =>
    go_wp2_with fail
    go_ret
    exact ⟨rfl, b02⟩
  | false =>
    by_cases hl : len2 > 60
    · go_wp2_with fail
      go_ret
      exact ⟨rfl, b02⟩
    by_cases hc0 : cut < 0
    · go_wp2_with fail
      go_ret
      exact ⟨rfl, b02⟩
    by_cases hc1 : cut > (len2 : Int)
    · go_wp2_with fail
      go_ret
      exact ⟨rfl, b02⟩
    obtain ⟨cn, rfl⟩ : ∃ cn : Nat, cut = cn := ⟨cut.toNat, by omega⟩
    have hcn : cn ≤ len2 := by omega
    have HR := Lib.hid (show Calls Try.prog 27 #[.slice A n cap, .int .i64 s, .slice A2 len2 cap2] w2 fun e w' => ∃ A' c', e = .returned (.slice A' (runT t s es).length c') ∧ OwnC w' w2.heap.size A' c' (runT t s es) ∧ Below w2.heap.size w2 w' by
      have := run_any w2 A cap t s A2 cap2 es (HT.out.1.keep b02 b02.size) ((HZ.out.1.below b02).more b02.size) (by rw [HZ.out.2.1]; omega)
      rw [HZ.out.2.1, HN.out] at this
      exact this)
    have B02 := Lib.hid b02
    clear b1 b2 b02
    go_wp2_with fail
    refine HR.out.mono ?_
    rintro e w3 ⟨A3, c3, rfl, o3, b3⟩
    obtain ⟨C, hC⟩ : ∃ C, runT t s es = C := ⟨_, rfl⟩
    rw [hC] at o3 ⊢
    obtain ⟨m, hm⟩ : ∃ m, C.length = m := ⟨_, rfl⟩
    rw [hm]
    have hm60 : m ≤ 60 := by
      have := runT_le t s es
      rw [hC, hm, HZ.out.2.1] at this
      omega
    have HC := Lib.hid (And.intro hC (And.intro hm (And.intro o3.cells (B02.out.trans (b3.mono B02.out.size)))))
    clear hC hm o3 b3
    go_wp2_with fail
    go_loopw [10, 11, 46] (fun sv nv iv wr => ∃ (j k : Nat) (s1 : Int), j ≤ len2 ∧ k ≤ 60 ∧ iv = .int .i64 j ∧ sv = .int .i64 s1 ∧ nv = .int .i64 k ∧ Hid (endT t s (es.take j) = s1 ∧ (runT t s (es.take j)).length = k ∧ Below w3.heap.size w3 wr)) (fun _ _ iv _ => len2 - (intOf iv).toNat)
    case atStart => exact ⟨0, 0, s, Nat.zero_le _, by omega, rfl, rfl, rfl, Lib.hid ⟨rfl, rfl, Below.refl _ _⟩⟩
    case round =>
      obtain ⟨j, k, s1, hj, hk, rfl, rfl, rfl, hS⟩ := hrel
      have bW := HC.out.2.2.2.trans (hS.out.2.2.mono HC.out.2.2.2.size)
      by_cases hlt : j < len2
      · have j1 : (j : Int) < len2 := by omega
        have j0 : (0 : Int) ≤ j := by omega
        have HJ := Lib.hid (show wrap64 ((j : Int) + 1) = (j : Int) + 1 from IntWalk.wrap64_in _ (by omega))
        obtain ⟨b, off, rfl, hbl, p⟩ := HZ.out.1 j (by rw [HZ.out.2.1]; exact hlt)
        obtain ⟨ev, hev⟩ : ∃ ev, es.getD j 0 = ev := ⟨_, rfl⟩
        rw [hev] at p
        have q := (bW.cell (p := ⟨b, off + j, none⟩) hbl).trans p
        have hc := HAT.out s1 ev wr bW
        clear p hbl bW
        cases hce : cellT t s1 ev with
        | none =>
          rw [atV_none hce] at hc
          have HX := Lib.hid (run_none (t := t) (s := s) (es := es) (j := j) (by rw [HZ.out.2.1]; exact hlt) (by rw [hS.out.1, hev]; exact hce))
          have HA := Lib.hid hc
          clear hc hce hev
          go_wp2_with fail
          refine HA.out.mono ?_
          rintro r w5 ⟨rfl, b5⟩
          have HB := Lib.hid (hS.out.2.2.trans (b5.mono hS.out.2.2.size))
          clear b5
          go_wp2_with fail
          go_roundw
          case rel =>
            try rw [HJ.out]
            exact ⟨j + 1, k, s1, hlt, hk, by rw [Int.natCast_add]; rfl, rfl, rfl, Lib.hid ⟨by rw [HX.out.2, hS.out.1], by rw [HX.out.1, hS.out.2.1], HB.out.alloc HB.out.size _⟩⟩
          case measure =>
            try rw [HJ.out]
            show len2 - ((j : Int) + 1).toNat < len2 - ((j : Int)).toNat
            omega
        | some x =>
          rw [atV_some hce] at hc
          obtain ⟨x0, x1⟩ := x
          have HX := Lib.hid (run_some (t := t) (s := s) (es := es) (j := j) (by rw [HZ.out.2.1]; exact hlt) (c := (x0, x1)) (by rw [hS.out.1, hev]; exact hce))
          obtain ⟨g1, g2⟩ := run_at (t := t) (s := s) (es := es) (j := j) (by rw [HZ.out.2.1]; exact hlt) (c := (x0, x1)) (by rw [hS.out.1, hev]; exact hce)
          rw [HC.out.1, HC.out.2.1, hS.out.2.1] at g1
          rw [HC.out.1, hS.out.2.1] at g2
          have HA := Lib.hid hc
          have HK := Lib.hid (show wrap64 ((k : Int) + 1) = (k : Int) + 1 from IntWalk.wrap64_in _ (by omega))
          obtain ⟨g, off2, rfl, hbl, p0, p1⟩ := HC.out.2.2.1 k (by rw [HC.out.2.1]; exact g1)
          rw [g2] at p0 p1
          have k1 : (k : Int) < m := by omega
          have k0 : (0 : Int) ≤ k := by omega
          have k2 : ¬ ((k : Int) ≥ m) := by omega
          have k3 : decide ((m : Int) ≤ k) = false := decide_eq_false (by omega)
          have k4 : decide (m ≤ k) = false := decide_eq_false (by omega)
          have k5 : decide ((k : Int) ≥ m) = false := decide_eq_false (by omega)
          have hbl3 : g < w3.heap.size := hbl
          clear hc hce hev g2
          go_wp2_with fail
          refine HA.out.mono ?_
          rintro r w5 ⟨rfl, b5⟩
          have b35 := hS.out.2.2.trans (b5.mono hS.out.2.2.size)
          have q0 : (w5.alloc (.cells #[.int .i64 x0, .int .i64 x1] 56)).cell? ⟨g, off2 + k * 2, none⟩ = some (.int .i64 x0) := ((b35.alloc b35.size _).cell (p := ⟨g, off2 + k * 2, none⟩) hbl3).trans p0
          have q1 : (w5.alloc (.cells #[.int .i64 x0, .int .i64 x1] 56)).cell? ⟨g, off2 + k * 2 + 1, none⟩ = some (.int .i64 x1) := ((b35.alloc b35.size _).cell (p := ⟨g, off2 + k * 2 + 1, none⟩) hbl3).trans p1
          have r0 : (w5.alloc (.cells #[.int .i64 x0, .int .i64 x1] 56)).cell? ⟨w5.heap.size, 0, none⟩ = some (.int .i64 x0) := (Blk.new w5 56 #[.int .i64 x0, .int .i64 x1]).cell 0
          have r1 : (w5.alloc (.cells #[.int .i64 x0, .int .i64 x1] 56)).cell? ⟨w5.heap.size, 1, none⟩ = some (.int .i64 x1) := (Blk.new w5 56 #[.int .i64 x0, .int .i64 x1]).cell 1
          have HB := Lib.hid (b35.alloc b35.size (.cells #[.int .i64 x0, .int .i64 x1] 56))
          have hne : ∀ w, (binOp .neq 56 (.agg #[.int .i64 x0, .int .i64 x1]) (.agg #[.int .i64 x0, .int .i64 x1])).run Try.prog w = .ok (.bool false) w := fun w => by rw [neq_ce]; simp
          clear b5 b35 p0 p1 hbl hbl3
          go_wp2_with fail
          go_big_region
          go_wp2_with fail
          go_roundw
          case rel =>
            try rw [HJ.out]
            try rw [HK.out]
            exact ⟨j + 1, k + 1, x0, hlt, by omega, by rw [Int.natCast_add]; rfl, rfl, by rw [Int.natCast_add]; rfl, Lib.hid ⟨HX.out.2, by rw [HX.out.1, List.length_append, hS.out.2.1]; rfl, bel_dr HB.out⟩⟩
          case measure =>
            try rw [HJ.out]
            show len2 - ((j : Int) + 1).toNat < len2 - ((j : Int)).toNat
            omega
      · obtain rfl : len2 = j := by omega
        have hkm : m = k := by
          have h1 := hS.out.2.1
          rw [List.take_of_length_le (by rw [HZ.out.2.1]; exact Nat.le_refl _), HC.out.1, HC.out.2.1] at h1
          exact h1
        subst hkm
        go_wp2_with fail
        obtain ⟨A5r, B5r⟩ : (∃ A', True) ∧ True := ⟨⟨0, trivial⟩, trivial⟩
        have HRa := Lib.hid (show Calls Try.prog 27 #[.slice A n cap, .int .i64 s, .slice A2 cn cap2] wr fun e w' => ∃ A' c', e = .returned (.slice A' (runT t s (es.take cn)).length c') ∧ OwnC w' wr.heap.size A' c' (runT t s (es.take cn)) ∧ Below wr.heap.size wr w' by
          have hll : (es.take cn).length = cn := by rw [List.length_take, HZ.out.2.1]; omega
          have := run_any wr A cap t s A2 cap2 (es.take cn) (HT.out.1.keep bW bW.size) (fun k hk => by
            rw [hll] at hk
            obtain ⟨b, off, e, hb, hc⟩ := HZ.out.1 k (by rw [HZ.out.2.1]; omega)
            exact ⟨b, off, e, Nat.lt_of_lt_of_le hb bW.size, by rw [bW.cell (p := ⟨b, off + k, none⟩) hb, hc, List.getD_eq_getElem?_getD, List.getD_eq_getElem?_getD, List.getElem?_take_of_lt hk]⟩) (by rw [hll]; omega)
          rw [hll, HN.out] at this
          exact this)
        have BW := Lib.hid bW
        clear bW A5r B5r
        refine HRa.out.mono ?_
        rintro e w5 ⟨A5, c5, rfl, o5, b5⟩
        obtain ⟨P, hP⟩ : ∃ P, runT t s (es.take cn) = P := ⟨_, rfl⟩
        have hend := end_last t s (es.take cn)
        obtain ⟨sm, hsm⟩ : ∃ sm, endT t s (es.take cn) = sm := ⟨_, rfl⟩
        have hPR : C = P ++ runT t sm (es.drop cn) := by rw [← hP, ← hsm, ← HC.out.1, take_drop_run t s es cn]
        rw [hP, hsm] at hend
        rw [hP] at o5 ⊢
        obtain ⟨p, hp⟩ : ∃ p, P.length = p := ⟨_, rfl⟩
        rw [hp] at hend ⊢
        have hp60 : p ≤ 60 := by
          have := congrArg List.length hPR
          rw [HC.out.2.1, List.length_append, hp] at this
          omega
        rcases hend with ⟨hPn, hss⟩ | ⟨hp0, hlast⟩
        · have hp0 : ¬ ((p : Int) > 0) := by rw [hPn] at hp; simp at hp; omega
          have hp1 : p = 0 := by omega
          subst hp1
          subst hss
          go_wp2_with fail
          have hn5 := (own_cap (show w5.ownsRow wr.heap.size 56 2 (.slice A5 P.length c5) P.length (cesL P) from o5)).2
          have b6 := bel_dr (bel_alloc w5 (.cells #[] 56))
          obtain ⟨a1, c1, w6, h1, o6, g6⟩ := append_ce (w5.alloc (.cells #[] 56)).drew w5.heap.size (some ⟨w5.heap.size, 0, none⟩) 0 0 [] rfl (own_empty w5 w5.heap.size 2 56 (Nat.le_refl _)) A5 0 c5 P hp hn5 ((o5.cells.below b6).more b6.size) (by rw [List.length_nil]; omega) b6.size
          have b56 : Below w5.heap.size w5 w6 := b6.trans (bel_own (own_empty w5 w5.heap.size 2 56 (Nat.le_refl _)) g6 (Nat.le_refl _) b6.size)
          rw [Nat.zero_add] at h1
          rw [List.nil_append] at o6
          have bW5 := BW.out.trans (b5.mono BW.out.size)
          have bW6 := bW5.trans (b56.mono bW5.size)
          obtain ⟨Q, hQ⟩ : ∃ Q, runT t sm (es.drop cn) = Q := ⟨_, rfl⟩
          rw [hQ] at hPR
          obtain ⟨q, hq⟩ : ∃ q, Q.length = q := ⟨_, rfl⟩
          have hq60 : 0 + q = m := by
            have := congrArg List.length hPR
            rw [HC.out.2.1, List.length_append, hp, hq] at this
            omega
          have HRb := Lib.hid (show ∀ A9 c9, (∀ k, k < len2 - cn → ∃ b off, A9 = some ⟨b, off, none⟩ ∧ b < w.heap.size ∧ w.cell? ⟨b, off + k, none⟩ = some (.int .i64 ((es.drop cn).getD k 0))) → Calls Try.prog 27 #[.slice A n cap, .int .i64 sm, .slice A9 (len2 - cn) c9] w6 fun e w' => ∃ A' c', e = .returned (.slice A' q c') ∧ OwnC w' w6.heap.size A' c' Q ∧ Below w6.heap.size w6 w' by
            intro A9 c9 h9
            have hll : (es.drop cn).length = len2 - cn := by rw [List.length_drop, HZ.out.2.1]
            have := run_any w6 A cap t sm A9 c9 (es.drop cn) (HT.out.1.keep bW6 bW6.size) (fun k hk => by
              rw [hll] at hk
              obtain ⟨b, off, e, hb, hc⟩ := h9 k hk
              exact ⟨b, off, e, Nat.lt_of_lt_of_le hb bW6.size, by rw [bW6.cell (p := ⟨b, off + k, none⟩) hb, hc]⟩) (by rw [hll]; omega)
            rw [hll, HN.out, hQ, hq] at this
            exact this)
          have HJ := Lib.hid (fun (w7 : World) (A7 : Option Addr) (c7 : Nat) (o7 : OwnC w7 w6.heap.size A7 c7 Q) (b7 : Below w6.heap.size w6 w7) => (show ∃ a2 c2 w8, (Builtin.append_ #[54, 54] 54 #[.slice a1 0 c1, .slice A7 q c7]).run Try.prog w7 = .ok (.slice a2 m c2) w8 ∧ OwnC w8 w5.heap.size a2 c2 C ∧ Below w.heap.size w w8 ∧ CrAt w8 w8.heap.size A3 C by
            have hn7 := (own_cap (show w7.ownsRow w6.heap.size 56 2 (.slice A7 Q.length c7) Q.length (cesL Q) from o7)).2
            have o6' : OwnC w7 w5.heap.size a1 c1 P := own_heap o6 fun k hk => b7.block k (World.ownsRow.lt o6 k hk).2
            have hs : w5.heap.size ≤ w7.heap.size := Nat.le_trans b56.size b7.size
            obtain ⟨a2, c2, w8, h2, o8, g8⟩ := append_ce w7 w5.heap.size a1 c1 0 P hp o6' A7 q c7 Q hq hn7 o7.cells (by rw [hp]; omega) hs
            have o6'' := o6'
            unfold OwnC at o6''
            rw [hp] at o6''
            have b58 : Below w5.heap.size w5 w8 := (b56.trans (b7.mono b56.size)).trans (bel_own o6'' g8 (Nat.le_refl _) hs)
            have b38 : Below w3.heap.size w3 w8 := ((hS.out.2.2.trans (b5.mono hS.out.2.2.size))).trans (b58.mono (Nat.le_trans hS.out.2.2.size b5.size))
            rw [hq60] at h2
            exact ⟨a2, c2, w8, h2, by rw [hPR]; exact o8, bW5.trans (b58.mono bW5.size), (HC.out.2.2.1.below b38).more b38.size⟩))
          have H1 := Lib.hid h1
          clear h1 o6 g6 b56 bW5 bW6 b6 hn5 b5 hPR hQ hq
          by_cases hck : cap2 = cn
          · have HRc := Lib.hid (HRb.out A2 0 (fun k hk => absurd hk (by omega)))
            clear HRb
            go_region_law ((first
              | (refine step_append_run rfl (.tmp 93) (.tmp 94) 54 54 rfl _ _ (by simp [Act.eval]) (by simp [Act.eval]) H1.out ?_)
              | (go_simp; go_at_call 27; (with_reducible (refine HRc.out.mono ?_)); rintro e w7 ⟨A7, c7, rfl, o7, b7⟩; obtain ⟨a2, c2, w8, h2, o8, b8, hA8⟩ := HJ.out _ _ _ o7 b7)
              | (refine step_append_run rfl (.tmp 95) (.tmp 101) 54 54 rfl _ _ (by simp [Act.eval]) (by simp [Act.eval]) h2 ?_)))
            all_goals
              have HE := Lib.hid (And.intro o8.cells (And.intro b8 hA8))
              clear o7 b7 h2 o8 b8 hA8
              go_wp2_with fail
              go_loopw [105] (fun iv wq => ∃ i : Nat, i ≤ m ∧ iv = .int .i64 i ∧ Hid (Below w8.heap.size w8 wq)) (fun iv _ => m - (intOf iv).toNat)
              case atStart => exact ⟨0, Nat.zero_le _, rfl, Lib.hid (Below.refl _ _)⟩
              case round =>
                obtain ⟨i, hi, rfl, hQ⟩ := hrel
                by_cases hil : i < m
                · obtain ⟨ga, oa, ea, hba, pa0, pa1⟩ := HE.out.2.2 i (by rw [HC.out.2.1]; exact hil)
                  obtain ⟨gb, ob, eb, hbb, pb0, pb1⟩ := HE.out.1 i (by rw [HC.out.2.1]; exact hil)
                  subst ea eb
                  obtain ⟨x, hx⟩ : ∃ x, C.getD i ce0 = x := ⟨_, rfl⟩
                  rw [hx] at pa0 pa1 pb0 pb1
                  obtain ⟨x0, x1⟩ := x
                  have qa0 : wr.cell? ⟨ga, oa + i * 2, none⟩ = some (.int .i64 x0) := (hQ.out.cell (p := ⟨ga, oa + i * 2, none⟩) hba).trans pa0
                  have qa1 : wr.cell? ⟨ga, oa + i * 2 + 1, none⟩ = some (.int .i64 x1) := (hQ.out.cell (p := ⟨ga, oa + i * 2 + 1, none⟩) hba).trans pa1
                  have qb0 : wr.cell? ⟨gb, ob + i * 2, none⟩ = some (.int .i64 x0) := (hQ.out.cell (p := ⟨gb, ob + i * 2, none⟩) hbb).trans pb0
                  have qb1 : wr.cell? ⟨gb, ob + i * 2 + 1, none⟩ = some (.int .i64 x1) := (hQ.out.cell (p := ⟨gb, ob + i * 2 + 1, none⟩) hbb).trans pb1
                  have i1 : (i : Int) < m := by omega
                  have i0 : (0 : Int) ≤ i := by omega
                  have i3 : decide ((m : Int) ≤ i) = false := decide_eq_false (by omega)
                  have i4 : decide (m ≤ i) = false := decide_eq_false (by omega)
                  have i5 : decide ((i : Int) ≥ m) = false := decide_eq_false (by omega)
                  have HI := Lib.hid (show wrap64 ((i : Int) + 1) = (i : Int) + 1 from IntWalk.wrap64_in _ (by omega))
                  have hne : ∀ w, (binOp .neq 56 (.agg #[.int .i64 x0, .int .i64 x1]) (.agg #[.int .i64 x0, .int .i64 x1])).run Try.prog w = .ok (.bool false) w := fun w => by rw [neq_ce]; simp
                  have HQD := Lib.hid (bel_dr hQ.out)
                  clear pa0 pa1 pb0 pb1 hba hbb hx
                  go_wp2_with fail
                  go_big_region
                  go_wp2_with fail
                  go_roundw
                  case rel =>
                    try rw [HI.out]
                    exact ⟨i + 1, hil, by rw [Int.natCast_add]; rfl, HQD⟩
                  case measure =>
                    try rw [HI.out]
                    show m - ((i : Int) + 1).toNat < m - ((i : Int)).toNat
                    omega
                · obtain rfl : m = i := by omega
                  go_wp2_with fail
                  go_ret
                  exact ⟨rfl, HE.out.2.1.trans (hQ.out.mono HE.out.2.1.size)⟩
          · rcases hadr with h0 | ⟨b2, off2, rfl⟩
            · omega
            have HRc := Lib.hid (HRb.out (some ⟨b2, off2 + cn, none⟩) (cap2 - cn) (fun k hk => by
              obtain ⟨b', off', e, hb, hc⟩ := HZ.out.1 (cn + k) (by rw [HZ.out.2.1]; omega)
              injection e with e
              injection e with e1 e2
              subst e1 e2
              refine ⟨b2, off2 + cn, rfl, hb, ?_⟩
              rw [show off2 + cn + k = off2 + (cn + k) by omega, hc, List.getD_eq_getElem?_getD, List.getD_eq_getElem?_getD, List.getElem?_drop]))
            clear HRb
            have nc1 : (cn : Int) ≤ cap2 := by omega
            have nc2 : cn ≤ cap2 := by omega
            go_region_law ((first
              | (refine step_append_run rfl (.tmp 93) (.tmp 94) 54 54 rfl _ _ (by simp [Act.eval]) (by simp [Act.eval]) H1.out ?_)
              | (go_simp; go_at_call 27; (with_reducible (refine HRc.out.mono ?_)); rintro e w7 ⟨A7, c7, rfl, o7, b7⟩; obtain ⟨a2, c2, w8, h2, o8, b8, hA8⟩ := HJ.out _ _ _ o7 b7)
              | (refine step_append_run rfl (.tmp 95) (.tmp 101) 54 54 rfl _ _ (by simp [Act.eval]) (by simp [Act.eval]) h2 ?_)))
            all_goals
              have HE := Lib.hid (And.intro o8.cells (And.intro b8 hA8))
              clear o7 b7 h2 o8 b8 hA8
              go_wp2_with fail
              go_loopw [105] (fun iv wq => ∃ i : Nat, i ≤ m ∧ iv = .int .i64 i ∧ Hid (Below w8.heap.size w8 wq)) (fun iv _ => m - (intOf iv).toNat)
              case atStart => exact ⟨0, Nat.zero_le _, rfl, Lib.hid (Below.refl _ _)⟩
              case round =>
                obtain ⟨i, hi, rfl, hQ⟩ := hrel
                by_cases hil : i < m
                · obtain ⟨ga, oa, ea, hba, pa0, pa1⟩ := HE.out.2.2 i (by rw [HC.out.2.1]; exact hil)
                  obtain ⟨gb, ob, eb, hbb, pb0, pb1⟩ := HE.out.1 i (by rw [HC.out.2.1]; exact hil)
                  subst ea eb
                  obtain ⟨x, hx⟩ : ∃ x, C.getD i ce0 = x := ⟨_, rfl⟩
                  rw [hx] at pa0 pa1 pb0 pb1
                  obtain ⟨x0, x1⟩ := x
                  have qa0 : wr.cell? ⟨ga, oa + i * 2, none⟩ = some (.int .i64 x0) := (hQ.out.cell (p := ⟨ga, oa + i * 2, none⟩) hba).trans pa0
                  have qa1 : wr.cell? ⟨ga, oa + i * 2 + 1, none⟩ = some (.int .i64 x1) := (hQ.out.cell (p := ⟨ga, oa + i * 2 + 1, none⟩) hba).trans pa1
                  have qb0 : wr.cell? ⟨gb, ob + i * 2, none⟩ = some (.int .i64 x0) := (hQ.out.cell (p := ⟨gb, ob + i * 2, none⟩) hbb).trans pb0
                  have qb1 : wr.cell? ⟨gb, ob + i * 2 + 1, none⟩ = some (.int .i64 x1) := (hQ.out.cell (p := ⟨gb, ob + i * 2 + 1, none⟩) hbb).trans pb1
                  have i1 : (i : Int) < m := by omega
                  have i0 : (0 : Int) ≤ i := by omega
                  have i3 : decide ((m : Int) ≤ i) = false := decide_eq_false (by omega)
                  have i4 : decide (m ≤ i) = false := decide_eq_false (by omega)
                  have i5 : decide ((i : Int) ≥ m) = false := decide_eq_false (by omega)
                  have HI := Lib.hid (show wrap64 ((i : Int) + 1) = (i : Int) + 1 from IntWalk.wrap64_in _ (by omega))
                  have hne : ∀ w, (binOp .neq 56 (.agg #[.int .i64 x0, .int .i64 x1]) (.agg #[.int .i64 x0, .int .i64 x1])).run Try.prog w = .ok (.bool false) w := fun w => by rw [neq_ce]; simp
                  have HQD := Lib.hid (bel_dr hQ.out)
                  clear pa0 pa1 pb0 pb1 hba hbb hx
                  go_wp2_with fail
                  go_big_region
                  go_wp2_with fail
                  go_roundw
                  case rel =>
                    try rw [HI.out]
                    exact ⟨i + 1, hil, by rw [Int.natCast_add]; rfl, HQD⟩
                  case measure =>
                    try rw [HI.out]
                    show m - ((i : Int) + 1).toNat < m - ((i : Int)).toNat
                    omega
                · obtain rfl : m = i := by omega
                  go_wp2_with fail
                  go_ret
                  exact ⟨rfl, HE.out.2.1.trans (hQ.out.mono HE.out.2.1.size)⟩
        · obtain ⟨p', rfl⟩ : ∃ p', p = p' + 1 := ⟨p - 1, by omega⟩
          have hpg : ((p' + 1 : Nat) : Int) > 0 := by omega
          obtain ⟨g5, e5, hb5, hc5⟩ := own_at (show w5.ownsRow wr.heap.size 56 2 (.slice A5 P.length c5) P.length (cesL P) from o5) (by omega)
          have q5 : w5.cell? ⟨g5, p' * 2, none⟩ = some (.int .i64 sm) := by
            have := hc5 (p' * 2) _ (cesL_at P p' (by omega)).1
            rw [Nat.add_sub_cancel] at hlast
            rwa [hlast] at this
          subst e5
          clear hc5
          go_wp2_with fail
          have hn5 := (own_cap (show w5.ownsRow wr.heap.size 56 2 (.slice (some ⟨g5, 0, none⟩) P.length c5) P.length (cesL P) from o5)).2
          have b6 := bel_dr (bel_alloc w5 (.cells #[] 56))
          obtain ⟨a1, c1, w6, h1, o6, g6⟩ := append_ce (w5.alloc (.cells #[] 56)).drew w5.heap.size (some ⟨w5.heap.size, 0, none⟩) 0 0 [] rfl (own_empty w5 w5.heap.size 2 56 (Nat.le_refl _)) (some ⟨g5, 0, none⟩) (p' + 1) c5 P hp hn5 ((o5.cells.below b6).more b6.size) (by rw [List.length_nil]; omega) b6.size
          have b56 : Below w5.heap.size w5 w6 := b6.trans (bel_own (own_empty w5 w5.heap.size 2 56 (Nat.le_refl _)) g6 (Nat.le_refl _) b6.size)
          rw [Nat.zero_add] at h1
          rw [List.nil_append] at o6
          have bW5 := BW.out.trans (b5.mono BW.out.size)
          have bW6 := bW5.trans (b56.mono bW5.size)
          obtain ⟨Q, hQ⟩ : ∃ Q, runT t sm (es.drop cn) = Q := ⟨_, rfl⟩
          rw [hQ] at hPR
          obtain ⟨q, hq⟩ : ∃ q, Q.length = q := ⟨_, rfl⟩
          have hq60 : (p' + 1) + q = m := by
            have := congrArg List.length hPR
            rw [HC.out.2.1, List.length_append, hp, hq] at this
            omega
          have HRb := Lib.hid (show ∀ A9 c9, (∀ k, k < len2 - cn → ∃ b off, A9 = some ⟨b, off, none⟩ ∧ b < w.heap.size ∧ w.cell? ⟨b, off + k, none⟩ = some (.int .i64 ((es.drop cn).getD k 0))) → Calls Try.prog 27 #[.slice A n cap, .int .i64 sm, .slice A9 (len2 - cn) c9] w6 fun e w' => ∃ A' c', e = .returned (.slice A' q c') ∧ OwnC w' w6.heap.size A' c' Q ∧ Below w6.heap.size w6 w' by
            intro A9 c9 h9
            have hll : (es.drop cn).length = len2 - cn := by rw [List.length_drop, HZ.out.2.1]
            have := run_any w6 A cap t sm A9 c9 (es.drop cn) (HT.out.1.keep bW6 bW6.size) (fun k hk => by
              rw [hll] at hk
              obtain ⟨b, off, e, hb, hc⟩ := h9 k hk
              exact ⟨b, off, e, Nat.lt_of_lt_of_le hb bW6.size, by rw [bW6.cell (p := ⟨b, off + k, none⟩) hb, hc]⟩) (by rw [hll]; omega)
            rw [hll, HN.out, hQ, hq] at this
            exact this)
          have HJ := Lib.hid (fun (w7 : World) (A7 : Option Addr) (c7 : Nat) (o7 : OwnC w7 w6.heap.size A7 c7 Q) (b7 : Below w6.heap.size w6 w7) => (show ∃ a2 c2 w8, (Builtin.append_ #[54, 54] 54 #[.slice a1 (p' + 1) c1, .slice A7 q c7]).run Try.prog w7 = .ok (.slice a2 m c2) w8 ∧ OwnC w8 w5.heap.size a2 c2 C ∧ Below w.heap.size w w8 ∧ CrAt w8 w8.heap.size A3 C by
            have hn7 := (own_cap (show w7.ownsRow w6.heap.size 56 2 (.slice A7 Q.length c7) Q.length (cesL Q) from o7)).2
            have o6' : OwnC w7 w5.heap.size a1 c1 P := own_heap o6 fun k hk => b7.block k (World.ownsRow.lt o6 k hk).2
            have hs : w5.heap.size ≤ w7.heap.size := Nat.le_trans b56.size b7.size
            obtain ⟨a2, c2, w8, h2, o8, g8⟩ := append_ce w7 w5.heap.size a1 c1 (p' + 1) P hp o6' A7 q c7 Q hq hn7 o7.cells (by rw [hp]; omega) hs
            have o6'' := o6'
            unfold OwnC at o6''
            rw [hp] at o6''
            have b58 : Below w5.heap.size w5 w8 := (b56.trans (b7.mono b56.size)).trans (bel_own o6'' g8 (Nat.le_refl _) hs)
            have b38 : Below w3.heap.size w3 w8 := ((hS.out.2.2.trans (b5.mono hS.out.2.2.size))).trans (b58.mono (Nat.le_trans hS.out.2.2.size b5.size))
            rw [hq60] at h2
            exact ⟨a2, c2, w8, h2, by rw [hPR]; exact o8, bW5.trans (b58.mono bW5.size), (HC.out.2.2.1.below b38).more b38.size⟩))
          have H1 := Lib.hid h1
          clear h1 o6 g6 b56 bW5 bW6 b6 hn5 b5 hPR hQ hq
          by_cases hck : cap2 = cn
          · have HRc := Lib.hid (HRb.out A2 0 (fun k hk => absurd hk (by omega)))
            clear HRb
            go_region_law ((first
              | (refine step_append_run rfl (.tmp 93) (.tmp 94) 54 54 rfl _ _ (by simp [Act.eval]) (by simp [Act.eval]) H1.out ?_)
              | (go_simp; go_at_call 27; (with_reducible (refine HRc.out.mono ?_)); rintro e w7 ⟨A7, c7, rfl, o7, b7⟩; obtain ⟨a2, c2, w8, h2, o8, b8, hA8⟩ := HJ.out _ _ _ o7 b7)
              | (refine step_append_run rfl (.tmp 95) (.tmp 101) 54 54 rfl _ _ (by simp [Act.eval]) (by simp [Act.eval]) h2 ?_)))
            all_goals
              have HE := Lib.hid (And.intro o8.cells (And.intro b8 hA8))
              clear o7 b7 h2 o8 b8 hA8
              go_wp2_with fail
              go_loopw [105] (fun iv wq => ∃ i : Nat, i ≤ m ∧ iv = .int .i64 i ∧ Hid (Below w8.heap.size w8 wq)) (fun iv _ => m - (intOf iv).toNat)
              case atStart => exact ⟨0, Nat.zero_le _, rfl, Lib.hid (Below.refl _ _)⟩
              case round =>
                obtain ⟨i, hi, rfl, hQ⟩ := hrel
                by_cases hil : i < m
                · obtain ⟨ga, oa, ea, hba, pa0, pa1⟩ := HE.out.2.2 i (by rw [HC.out.2.1]; exact hil)
                  obtain ⟨gb, ob, eb, hbb, pb0, pb1⟩ := HE.out.1 i (by rw [HC.out.2.1]; exact hil)
                  subst ea eb
                  obtain ⟨x, hx⟩ : ∃ x, C.getD i ce0 = x := ⟨_, rfl⟩
                  rw [hx] at pa0 pa1 pb0 pb1
                  obtain ⟨x0, x1⟩ := x
                  have qa0 : wr.cell? ⟨ga, oa + i * 2, none⟩ = some (.int .i64 x0) := (hQ.out.cell (p := ⟨ga, oa + i * 2, none⟩) hba).trans pa0
                  have qa1 : wr.cell? ⟨ga, oa + i * 2 + 1, none⟩ = some (.int .i64 x1) := (hQ.out.cell (p := ⟨ga, oa + i * 2 + 1, none⟩) hba).trans pa1
                  have qb0 : wr.cell? ⟨gb, ob + i * 2, none⟩ = some (.int .i64 x0) := (hQ.out.cell (p := ⟨gb, ob + i * 2, none⟩) hbb).trans pb0
                  have qb1 : wr.cell? ⟨gb, ob + i * 2 + 1, none⟩ = some (.int .i64 x1) := (hQ.out.cell (p := ⟨gb, ob + i * 2 + 1, none⟩) hbb).trans pb1
                  have i1 : (i : Int) < m := by omega
                  have i0 : (0 : Int) ≤ i := by omega
                  have i3 : decide ((m : Int) ≤ i) = false := decide_eq_false (by omega)
                  have i4 : decide (m ≤ i) = false := decide_eq_false (by omega)
                  have i5 : decide ((i : Int) ≥ m) = false := decide_eq_false (by omega)
                  have HI := Lib.hid (show wrap64 ((i : Int) + 1) = (i : Int) + 1 from IntWalk.wrap64_in _ (by omega))
                  have hne : ∀ w, (binOp .neq 56 (.agg #[.int .i64 x0, .int .i64 x1]) (.agg #[.int .i64 x0, .int .i64 x1])).run Try.prog w = .ok (.bool false) w := fun w => by rw [neq_ce]; simp
                  have HQD := Lib.hid (bel_dr hQ.out)
                  clear pa0 pa1 pb0 pb1 hba hbb hx
                  go_wp2_with fail
                  go_big_region
                  go_wp2_with fail
                  go_roundw
                  case rel =>
                    try rw [HI.out]
                    exact ⟨i + 1, hil, by rw [Int.natCast_add]; rfl, HQD⟩
                  case measure =>
                    try rw [HI.out]
                    show m - ((i : Int) + 1).toNat < m - ((i : Int)).toNat
                    omega
                · obtain rfl : m = i := by omega
                  go_wp2_with fail
                  go_ret
                  exact ⟨rfl, HE.out.2.1.trans (hQ.out.mono HE.out.2.1.size)⟩
          · rcases hadr with h0 | ⟨b2, off2, rfl⟩
            · omega
            have HRc := Lib.hid (HRb.out (some ⟨b2, off2 + cn, none⟩) (cap2 - cn) (fun k hk => by
              obtain ⟨b', off', e, hb, hc⟩ := HZ.out.1 (cn + k) (by rw [HZ.out.2.1]; omega)
              injection e with e
              injection e with e1 e2
              subst e1 e2
              refine ⟨b2, off2 + cn, rfl, hb, ?_⟩
              rw [show off2 + cn + k = off2 + (cn + k) by omega, hc, List.getD_eq_getElem?_getD, List.getD_eq_getElem?_getD, List.getElem?_drop]))
            clear HRb
            have nc1 : (cn : Int) ≤ cap2 := by omega
            have nc2 : cn ≤ cap2 := by omega
            go_region_law ((first
              | (refine step_append_run rfl (.tmp 93) (.tmp 94) 54 54 rfl _ _ (by simp [Act.eval]) (by simp [Act.eval]) H1.out ?_)
              | (go_simp; go_at_call 27; (with_reducible (refine HRc.out.mono ?_)); rintro e w7 ⟨A7, c7, rfl, o7, b7⟩; obtain ⟨a2, c2, w8, h2, o8, b8, hA8⟩ := HJ.out _ _ _ o7 b7)
              | (refine step_append_run rfl (.tmp 95) (.tmp 101) 54 54 rfl _ _ (by simp [Act.eval]) (by simp [Act.eval]) h2 ?_)))
            all_goals
              have HE := Lib.hid (And.intro o8.cells (And.intro b8 hA8))
              clear o7 b7 h2 o8 b8 hA8
              go_wp2_with fail
              go_loopw [105] (fun iv wq => ∃ i : Nat, i ≤ m ∧ iv = .int .i64 i ∧ Hid (Below w8.heap.size w8 wq)) (fun iv _ => m - (intOf iv).toNat)
              case atStart => exact ⟨0, Nat.zero_le _, rfl, Lib.hid (Below.refl _ _)⟩
              case round =>
                obtain ⟨i, hi, rfl, hQ⟩ := hrel
                by_cases hil : i < m
                · obtain ⟨ga, oa, ea, hba, pa0, pa1⟩ := HE.out.2.2 i (by rw [HC.out.2.1]; exact hil)
                  obtain ⟨gb, ob, eb, hbb, pb0, pb1⟩ := HE.out.1 i (by rw [HC.out.2.1]; exact hil)
                  subst ea eb
                  obtain ⟨x, hx⟩ : ∃ x, C.getD i ce0 = x := ⟨_, rfl⟩
                  rw [hx] at pa0 pa1 pb0 pb1
                  obtain ⟨x0, x1⟩ := x
                  have qa0 : wr.cell? ⟨ga, oa + i * 2, none⟩ = some (.int .i64 x0) := (hQ.out.cell (p := ⟨ga, oa + i * 2, none⟩) hba).trans pa0
                  have qa1 : wr.cell? ⟨ga, oa + i * 2 + 1, none⟩ = some (.int .i64 x1) := (hQ.out.cell (p := ⟨ga, oa + i * 2 + 1, none⟩) hba).trans pa1
                  have qb0 : wr.cell? ⟨gb, ob + i * 2, none⟩ = some (.int .i64 x0) := (hQ.out.cell (p := ⟨gb, ob + i * 2, none⟩) hbb).trans pb0
                  have qb1 : wr.cell? ⟨gb, ob + i * 2 + 1, none⟩ = some (.int .i64 x1) := (hQ.out.cell (p := ⟨gb, ob + i * 2 + 1, none⟩) hbb).trans pb1
                  have i1 : (i : Int) < m := by omega
                  have i0 : (0 : Int) ≤ i := by omega
                  have i3 : decide ((m : Int) ≤ i) = false := decide_eq_false (by omega)
                  have i4 : decide (m ≤ i) = false := decide_eq_false (by omega)
                  have i5 : decide ((i : Int) ≥ m) = false := decide_eq_false (by omega)
                  have HI := Lib.hid (show wrap64 ((i : Int) + 1) = (i : Int) + 1 from IntWalk.wrap64_in _ (by omega))
                  have hne : ∀ w, (binOp .neq 56 (.agg #[.int .i64 x0, .int .i64 x1]) (.agg #[.int .i64 x0, .int .i64 x1])).run Try.prog w = .ok (.bool false) w := fun w => by rw [neq_ce]; simp
                  have HQD := Lib.hid (bel_dr hQ.out)
                  clear pa0 pa1 pb0 pb1 hba hbb hx
                  go_wp2_with fail
                  go_big_region
                  go_wp2_with fail
                  go_roundw
                  case rel =>
                    try rw [HI.out]
                    exact ⟨i + 1, hil, by rw [Int.natCast_add]; rfl, HQD⟩
                  case measure =>
                    try rw [HI.out]
                    show m - ((i : Int) + 1).toNat < m - ((i : Int)).toNat
                    omega
                · obtain rfl : m = i := by omega
                  go_wp2_with fail
                  go_ret
                  exact ⟨rfl, HE.out.2.1.trans (hQ.out.mono HE.out.2.1.size)⟩
set_option maxRecDepth 100000 in
theorem liftedTableRuns (os : Os) (started : os.Started) (H : Type) (enc : TypeId × Value → H) :
    ReturnsInHanded {} Try.checked os 6 .any (Rows.tableRunsSpec.pre6 enc Try.prog Try.f6 Rows.tableRunsRow.domain false) (Rows.tableRunsSpec.post enc Try.prog Try.f6 false true false false) := by
  refine returnsInHanded_of_change (C := Try.checked) own started (by kernel_rfl) Try.func6
    (ChangeSpec.witness6 (enc := enc) (C := Try.checked) false ⟨#[], #[.slice none 0 0, .int .i64 0, .slice none 0 0, .int .i64 0], []⟩ 8 (by kernel_rfl) (by kernel_rfl) (by kernel_rfl) (by kernel_rfl)) ?_
  intro W base args ds gs before hval0 hW hcnd _
  have hval : ∀ (j : Nat) t v, Try.f6.params[j]? = some t → args[j]? = some v → Value.okWide Try.prog W .any base t v := hval0
  have hW' := hW
  obtain ⟨p, q, hA0, hV, rfl, hfz, hnd⟩ := hW
  have hA : DataW.TrodAll enc Try.prog W 0 (fun _ => true) true Try.f6.params.toList args.toList ds p := hA0
  rw [Try.params6] at hA hval
  obtain ⟨v0, vs0, d0, ds0, p0, q0, hargs, rfl, rfl, h0, r0⟩ := trodAll_cons hA
  obtain ⟨v1, vs1, d1, ds1, p1, q1, rfl, rfl, rfl, h1, r1⟩ := trodAll_cons r0
  obtain ⟨v2, vs2, d2, ds2, p2, q2, rfl, rfl, rfl, h2, r2⟩ := trodAll_cons r1
  obtain ⟨v3, vs3, d3, ds3, p3, q3, rfl, rfl, rfl, h3, r3⟩ := trodAll_cons r2
  obtain ⟨rfl, rfl, rfl⟩ := trodAll_nil r3
  obtain rfl : args = #[v0, v1, v2, v3] := by cases args; simp_all
  obtain ⟨rfl, rfl⟩ := trodVars_none hV
  obtain ⟨a0', len0', cap0', rfl⟩ := okWide_slice Try.underlying50 (hval 0 50 v0 rfl rfl)
  have k0 := h0
  have lt0 : ∀ x ∈ p0, x.block < W.heap.size := by obtain ⟨m, hm⟩ := k0; exact DataW.trod_lt m _ _ _ hm
  obtain ⟨a0, cap0, l0, w0, e1, e2, e3⟩ : ∃ a cap, ∃ l : Tb, (TbAt W W.heap.size a l ∧ l.length ≤ maxLen ∧ ∀ r ∈ l, r.length ≤ maxLen) ∧ a0' = a ∧ len0' = l.length ∧ cap0' = cap := by
    obtain ⟨fuel, hf⟩ := h0
    obtain ⟨a, cap, l, hcs, q⟩ := open_table hf
    simp [Value.cells] at hcs
    obtain ⟨rfl, rfl, rfl⟩ := hcs
    exact ⟨_, _, l, q, rfl, rfl, rfl⟩
  subst e1 e2 e3
  obtain ⟨a1, rfl, rfl, rfl, w1⟩ := open_int Try.underlying3 (hval 1 3 v1 rfl rfl) h1
  obtain ⟨a2, len2, cap2, rfl⟩ := okWide_slice Try.underlying22 (hval 2 22 v2 rfl rfl)
  have k2 := h2
  have lt2 : ∀ x ∈ p2, x.block < W.heap.size := by obtain ⟨m, hm⟩ := k2; exact DataW.trod_lt m _ _ _ hm
  obtain ⟨z2, w2⟩ : ∃ zs, IsRow .i64 W a2 len2 cap2 zs := by
    obtain ⟨fuel, hf⟩ := h2
    rcases open_ints Try.underlying22 Try.underlying3 (by kernel_rfl) hf with ⟨hcs, _⟩ | ⟨x, l, c, zs, hcs, _, hl, hm, hz, _, hcell, hwz⟩
    · simp [Value.cells] at hcs
      obtain ⟨rfl, rfl, rfl⟩ := hcs
      exact ⟨[], .inl ⟨rfl, rfl, rfl, rfl⟩⟩
    · simp [Value.cells] at hcs
      obtain ⟨rfl, rfl, rfl⟩ := hcs
      exact ⟨zs, .inr ⟨_, rfl, hl, hm, by simpa using hz, cell_lt hcell (by simpa using hz), hcell, hwz⟩⟩
  obtain ⟨a3, rfl, rfl, rfl, w3⟩ := open_int Try.underlying3 (hval 3 3 v3 rfl rfl) h3
  clear hA0 hval0
  refine (walkTableRuns a0' cap0' l0 a1 a2 len2 cap2 z2 a3 W w0 w1 w2 w3).mono fun e W' ⟨he, bel⟩ => ?_
  subst he
  exact ⟨_, rfl, _, _, _, [], _, [], hW', trodAll_mk1 (shut_bool Try.underlying4 _), (trodAll_cons_mk (Below.trod laidOut (by kernel_rfl) (of_decide_eq_true (by kernel_rfl)) k0 bel lt0) (trodAll_cons_mk (shut_int Try.underlying3 w1) (trodAll_cons_mk (Below.trod laidOut (by kernel_rfl) (of_decide_eq_true (by kernel_rfl)) k2 bel lt2) (trodAll_cons_mk (shut_int Try.underlying3 w3) trodAll_mk0)))), rfl, bel.frame _, fun h => by cases h⟩

theorem overTableRuns : Rows.tableRunsRow.holds Try.pinned (OpenSpec.ofChange Rows.tableRunsSpec) :=
  OpenClaim.holds_of_wide 6 Try.f6 rfl rfl rfl rfl rfl rfl rfl ⟨rfl, rfl, rfl, rfl, rfl⟩ rfl rfl rfl rfl rfl (by kernel_rfl) Try.func6 (by kernel_rfl)
    (of_decide_eq_true (by kernel_rfl)) (by unfold Func.isWrapper; first | (rw [if_pos (by decide +kernel)]; kernel_rfl) | (rw [if_neg (by decide +kernel)]; exact ⟨rfl, rfl⟩))
    (fun os started H enc _ => liftedTableRuns os started H enc)

/-- The statement. -/
theorem tableRuns_holds : Rows.TableRunsSaid := overTableRuns

#print axioms tableRuns_holds
end Go.Proofs.Ytkdnngcmiggoeaa
