/- The document's Bytes of a message that can be. Its condition: at most 500 words. -/
import Derived.Test.YtoigapanhbmjlaaMrRefV
import Derived.Test.YtoigapanhbmjlaaMrRefP
import Derived.Test.YtoigapanhbmjlaaMrRows
import Derived.Test.YtoigapanhbmjlaaMrFind
import Derived.Test.YtoigapanhbmjlaaMrWhole
namespace Go.Proofs.Ytoigapanhbmjlaa
open Go.RowKit

theorem meas_kd {q : Nat} {K : Int} (h : (q : Int) + 1 = K) (hq : q < 3) : 4 - (intOf (.int .i64 (K + 1))).toNat < 4 - (intOf (.int .i64 K)).toNat := by
  show 4 - (K + 1).toNat < 4 - K.toNat
  omega
theorem str5 (a b c d : List UInt8) : str a ++ str b ++ str c ++ str d ++ ⟨#[0, 0]⟩ = str (a ++ (b ++ c ++ d ++ [0, 0])) := by
  rw [show (⟨#[0, 0]⟩ : ByteArray) = str [0, 0] from rfl]
  simp only [str_append, List.append_assoc]
set_option maxRecDepth 100000 in
set_option maxHeartbeats 8000000 in
theorem rbytes_any (A A' : Option Addr) (c c' : Nat) (m : Msg) (B : Nat) (w : World) (hB : B ≤ w.heap.size) (hl : m.all.length ≤ 1048576) (hw : m.ws.length ≤ 500) (hA0 : IntsAt w B A m.all) (hA0' : WordsAt w B A' m.ws) (hg : m.Good) :
    Calls Try.prog 14 #[.slice A m.all.length c, .slice A' m.ws.length c'] w fun e w' => e = .returned (.string (str m.bytes)) ∧ Below w.heap.size w w' := by
  have HA := Lib.hid (hA0.more hB)
  have HW := Lib.hid (hA0'.more hB)
  have HG := Lib.hid hg
  have HPL := Lib.hid (pre_length m hw)
  obtain ⟨na, hna⟩ : ∃ n : Nat, m.all.length = n := ⟨_, rfl⟩
  obtain ⟨n, hn⟩ : ∃ n : Nat, m.ws.length = n := ⟨_, rfl⟩
  rw [hna, hn]
  have HNA := Lib.hid hna
  have HN := Lib.hid hn
  have HN5 := Lib.hid (show n ≤ 500 by rw [← hn]; exact hw)
  have HNA5 := Lib.hid hl
  clear hA0 hA0' hg hna hn hw hl hB
  go_enter Try.func14, Try.ntmps14
  go_wp2_with fail
  go_loopw [5, 6] (fun sv kd wr => ∃ q : Nat, q ≤ 3 ∧ kd = .int .i64 ((q : Int) + 1) ∧ sv = .string (str (preB m q)) ∧ Below w.heap.size w wr) (fun _ kd _ => 4 - (intOf kd).toNat)
  case atStart => exact ⟨0, Nat.zero_le _, rfl, rfl, Below.refl _ _⟩
  case round =>
    obtain ⟨q, hq, rfl, rfl, bw⟩ := hrel
    by_cases hlt : q < 3
    · obtain ⟨K, hK⟩ : ∃ K : Int, (q : Int) + 1 = K := ⟨_, rfl⟩
      have k1 : 1 ≤ K := by omega
      have k3 : K ≤ 3 := by omega
      have kb : decide (K ≤ 3) = true := decide_eq_true k3
      have kw : wrap64 (K + 1) = K + 1 := IntWalk.wrap64_in _ (by omega)
      obtain ⟨S, hS⟩ : ∃ S, str (preB m q) = S := ⟨_, rfl⟩
      have hs : S.size ≤ 400000 := by rw [← hS, str_size]; have := HPL.out q; omega
      rw [hK, hS]
      have HK := Lib.hid hK
      have HS := Lib.hid hS
      have HSZ := Lib.hid hs
      have HBW := Lib.hid bw
      clear hK hS hs bw hq
      go_wp2_with fail
      go_loopw [7, 20] (fun rv i wx => ∃ (j : Nat) (A1 : Option Addr) (c1 : Nat), j ≤ n ∧ i = .int .i64 j ∧ rv = .slice A1 (rowsOf (ofK K (m.ws.take j))).length c1 ∧ RowsOwn wx w.heap.size A1 c1 (rowsOf (ofK K (m.ws.take j))) ∧ Below w.heap.size w wx) (fun _ i _ => n - (intOf i).toNat)
      case atStart => exact ⟨0, none, 0, Nat.zero_le _, rfl, by rw [List.take_zero]; exact congrArg (fun z => Value.slice none z 0) (by rw [show ofK K [] = [] from rfl, rowsOf_nil]; rfl), .inl ⟨by rw [List.take_zero]; exact rowsOf_nil, rfl, rfl⟩, HBW.out⟩
      case round =>
        obtain ⟨j, A1, c1, hj, rfl, rfl, how, bx⟩ := hrel
        obtain ⟨p, hp⟩ : ∃ p, ofK K (m.ws.take j) = p := ⟨_, rfl⟩
        rw [hp] at how ⊢
        have hbx := bx.size
        by_cases hjl : j < n
        · obtain ⟨b, off, hbo, hb, p0, p1, p2, p3⟩ := HW.out j (by rw [HN.out]; exact hjl)
          subst hbo
          obtain ⟨x, hx⟩ : ∃ x, m.ws.getD j wd0 = x := ⟨_, rfl⟩
          rw [hx] at p0 p1 p2 p3
          have k0 : wr.cell? ⟨b, off + j * 4, none⟩ = some (.int .i64 x.t) := (bx.cell (p := ⟨b, off + j * 4, none⟩) hb).trans p0
          have k1' : wr.cell? ⟨b, off + j * 4 + 1, none⟩ = some (.int .i64 x.v) := (bx.cell (p := ⟨b, off + j * 4 + 1, none⟩) hb).trans p1
          have k2 : wr.cell? ⟨b, off + j * 4 + 2, none⟩ = some (.int .i64 x.e) := (bx.cell (p := ⟨b, off + j * 4 + 2, none⟩) hb).trans p2
          have k3' : wr.cell? ⟨b, off + j * 4 + 3, none⟩ = some (.int .i64 x.b) := (bx.cell (p := ⟨b, off + j * 4 + 3, none⟩) hb).trans p3
          have hjm : j < m.ws.length := by rw [HN.out]; exact hjl
          have hxm : m.ws[j]? = some x := by rw [← hx]; simp [List.getD_eq_getElem?_getD, List.getElem?_eq_getElem hjm]
          have hst := ofK_step K m.ws j hjm x hxm
          have hpl : p.length ≤ 500 := by rw [← hp]; exact Nat.le_trans (ofK_less _ _) (by rw [List.length_take, HN.out]; have := HN5.out; omega)
          have hpm : ∀ a ∈ p, a ∈ m.ws := fun a ha => by rw [← hp] at ha; exact List.mem_of_mem_take (List.mem_filter.1 ha).1
          rw [hp] at hst
          have jn : (j : Int) < n := by omega
          have j0 : (0 : Int) ≤ j := by omega
          have jw : wrap64 ((j : Int) + 1) = (j : Int) + 1 := IntWalk.wrap64_in _ (by have := HN5.out; omega)
          clear p0 p1 p2 p3 hx hb hj hp
          by_cases hxt : x.t = K
          · rw [if_pos hxt] at hst
            have HST := Lib.hid hst
            have hoa := how.alloc (.cells #[.int .i64 x.t, .int .i64 x.v, .int .i64 x.e, .int .i64 x.b] 43)
            have HBX := Lib.hid (bx.alloc hbx (.cells #[.int .i64 x.t, .int .i64 x.v, .int .i64 x.e, .int .i64 x.b] 43))
            have d1 : (x.t == K) = true := by simpa using hxt
            have d2 : (x.t != K) = false := by simpa using hxt
            have hrs := rows_step p x
            have HXV := Lib.hid (attr_range (HG.out.2.1 x (List.mem_of_getElem? hxm)).1)
            have HBA := Lib.hid (show w.heap.size ≤ wr.heap.size + 1 by omega)
            clear hst how bx hxt hxm hbx
            rcases hrs with ⟨rfl, hrn⟩ | ⟨d, r, hr0, hrp, hr200, hrm, hrb, hrs⟩
            · have HRN := Lib.hid hrn
              clear hrn hpl hpm
              rw [rowsOf_nil] at hoa ⊢
              simp only [List.length_nil]
              have hrl : ([] : List (List Wd)).length ≤ 1048000 := by decide
              have HNEW := Lib.hid (fun nq => rows_new' (w := (wr.alloc (.cells #[.int .i64 x.t, .int .i64 x.v, .int .i64 x.e, .int .i64 x.b] 43)).drewN nq) (N := wr.heap.size + 1) (by simp) (RowsOwn.drewN hoa nq) HBA.out hrl x)
              clear hoa hrl
              go_wp2_with fail
              go_quiet (fail)
              obtain ⟨a', c', w', hr, ho, b2⟩ := HNEW.out nq
              have HR := Lib.hid hr
              clear hr
              go_wp2_with (at_builtin; refine Lib.wpList_append_run _ rfl _ _ _ _ rfl _ _ rfl rfl _ _ HR.out ?_)
              go_roundw
              case rel =>
                rw [jw]
                refine ⟨j + 1, a', c', hjl, by rw [Int.natCast_add]; rfl, ?_, ?_, ?_⟩
                · rw [HST.out, HRN.out]; rfl
                · rw [HST.out, HRN.out]; exact ho
                · exact (bel_drewN HBX.out nq).trans b2
              case measure =>
                rw [jw]
                exact meas_up hjl
            · rw [hrp] at hoa ⊢
              have hr1 : 0 < r.length := List.length_pos_iff.2 hr0
              obtain ⟨gO, gI, cI, rfl, hgO, hgI, co, hwI, hmore⟩ := rows_more' (N := wr.heap.size + 1) (by simp) hoa hr1 (by omega)
              obtain ⟨L1, hL1⟩ : ∃ L1, r.length = L1 + 1 := ⟨r.length - 1, by omega⟩
              have hlast : r.getD L1 wd0 = r.getLast hr0 := by
                rw [List.getLast_eq_getElem, List.getD_eq_getElem?_getD, List.getElem?_eq_getElem (by omega)]
                simp [hL1]
              have hfirst : (r.getD 0 wd0).b = headB r := by
                cases r with
                | nil => exact absurd rfl hr0
                | cons y r => rfl
              obtain ⟨g1, o1, eg1, _, _, cl, _, _⟩ := hwI L1 (by omega)
              obtain ⟨g2, o2, eg2, _, _, _, _, cf⟩ := hwI 0 (by omega)
              injection eg1 with eg1
              injection eg1 with eg1 eo1
              injection eg2 with eg2
              injection eg2 with eg2 eo2
              subst eg1 eo1 eg2 eo2
              rw [hlast, Nat.zero_add] at cl
              rw [hfirst] at cf
              simp only [Nat.zero_mul, Nat.zero_add] at cf
              have hlv := (attr_range (HG.out.2.1 _ (hpm _ (hrm _ (List.getLast_mem hr0)))).1)
              have hlv1 := hlv.2.1
              have hlv2 := hlv.2.2.2
              clear hlv hlast hfirst hrm hrb hwI hpm
              obtain ⟨lv, hlvv⟩ : ∃ z, (r.getLast hr0).v = z := ⟨_, rfl⟩
              rw [hlvv] at cl hlv1 hlv2 hrs
              clear hlvv
              obtain ⟨fb, hfb⟩ : ∃ z, headB r = z := ⟨_, rfl⟩
              rw [hfb] at cf hrs
              clear hfb
              have hrl : (d ++ [r]).length ≤ 1048000 := by rw [← hrp]; exact Nat.le_trans (rowsOf_length _ p (Nat.le_refl _)) (by omega)
              have HRP := Lib.hid hrp
              clear hrp hpl
              have hnl : (d ++ [r]).length = d.length + 1 := by simp
              obtain ⟨N1, hN1⟩ : ∃ z, (d ++ [r]).length = z := ⟨_, rfl⟩
              obtain ⟨D, hD⟩ : ∃ z, d.length = z := ⟨_, rfl⟩
              obtain ⟨L, hL⟩ : ∃ z, r.length = z := ⟨_, rfl⟩
              rw [hN1, hD] at hnl
              rw [hN1]
              rw [hD] at co hmore
              rw [hL] at co hmore hr1 hL1 hrs hr200
              have HNL := Lib.hid hN1
              have f0 : 0 < N1 := by omega
              have f1 : decide ((0 : Int) < (N1 : Int)) = true := decide_eq_true (by omega)
              have f2 : IntKind.i64.wrap ((N1 : Int) - 1) = (D : Int) := by rw [show (N1 : Int) - 1 = (D : Int) by omega]; exact IntWalk.i64_in _ (by rw [hN1] at hrl; omega)
              have f3 : D < N1 := by omega
              have f4 : IntKind.i64.wrap ((L : Int) - 1) = (L1 : Int) := by rw [show (L : Int) - 1 = (L1 : Int) by omega]; exact IntWalk.i64_in _ (by omega)
              have f5 : L1 < L := by omega
              have f6 : IntKind.i64.wrap (lv + 1) = lv + 1 := IntWalk.i64_in _ (by omega)
              have f7 : (0 : Int) ≤ (D : Int) := by omega
              have f8 : (0 : Int) ≤ (L1 : Int) := by omega
              have HHL := Lib.hid hL
              have HHD := Lib.hid hD
              clear hL1 hnl hN1 hL hD hlv1 hlv2
              rcases hrs with ⟨h1, h2, h3, hrn⟩ | ⟨hneg, hrn⟩
              · have HRN := Lib.hid hrn
                have e1 : decide ((L : Int) < 200) = true := decide_eq_true (by omega)
                have e2 : (lv + 1 == x.v) = true := by simpa using h2
                have e3 : (fb == x.b) = true := by simpa using h3
                have HMORE := Lib.hid hmore
                clear hrn h1 h2 h3 hmore hoa hrl hr200 hr0
                go_wp2_with fail
                have hnb := Blk.new wr 43 #[.int .i64 x.t, .int .i64 x.v, .int .i64 x.e, .int .i64 x.b]
                have x1 := hnb.cell 1
                have x2 := hnb.cell 2
                have x3 := hnb.cell 3
                have x0 := hnb.cell 0
                clear hnb k0 k1' k2 k3'
                obtain ⟨W, hW⟩ : ∃ W, (wr.alloc (.cells #[.int .i64 x.t, .int .i64 x.v, .int .i64 x.e, .int .i64 x.b] 43)) = W := ⟨_, rfl⟩
                rw [hW] at x0 x1 x2 x3 co cl cf HMORE HBX ⊢
                have HWS := Lib.hid (show W.heap.size = wr.heap.size + 1 by rw [← hW]; simp)
                have HGO := Lib.hid hgO
                clear hW hgO hgI
                generalize wr.heap.size = G at *
                go_quiet (fail)
                obtain ⟨a2, c2, w3, hr, hc3, hf3, ho3, b3⟩ := HMORE.out (W.drewN (nq + 1)) x rfl rfl rfl rfl
                rw [← HWS.out] at hr
                have hgW : gO < W.heap.size := by rw [HWS.out]; exact HGO.out
                have ca : ∀ o : Obj, ((W.drewN (nq + 1)).alloc o).cell? ⟨gO, D, none⟩ = some (.slice (some ⟨gI, 0, none⟩) L cI) := fun o => (World.cell?_of_block (Below.heap_alloc _ o gO hgW)).trans co
                have HR := Lib.hid hr
                have HO := Lib.hid ho3
                have HB3 := Lib.hid b3
                clear hr ho3 b3 hgW cl cf
                go_wp2_with fail
                go_region_law ((refine step_append_run rfl (.tmp 85) (.tmp 87) 23 23 rfl _ _ (by simp [Act.eval]) (by simp [Act.eval]) HR.out ?_))
                all_goals
                  go_wp2_with fail
                  go_roundw
                  case rel =>
                    rw [jw]
                    refine ⟨j + 1, some ⟨gO, 0, none⟩, c1, hjl, by rw [Int.natCast_add]; rfl, ?_, ?_, HBX.out.trans HB3.out⟩
                    · rw [HST.out, HRN.out, ← HNL.out, List.length_append, List.length_append]; rfl
                    · rw [HST.out, HRN.out]; exact HO.out
                  case measure =>
                    rw [jw]
                    exact meas_up hjl
              · have HRN := Lib.hid hrn
                clear hrn hr0
                have hcase : (decide ((L : Int) < 200) = false) ∨ (decide ((L : Int) < 200) = true ∧ (lv + 1 == x.v) = false) ∨ (decide ((L : Int) < 200) = true ∧ (lv + 1 == x.v) = true ∧ (fb == x.b) = false) := by
                  by_cases h1 : L < 200
                  · by_cases h2 : lv + 1 = x.v
                    · by_cases h3 : fb = x.b
                      · exact absurd ⟨h1, h2, h3⟩ hneg
                      · exact .inr (.inr ⟨decide_eq_true (by omega), by simpa using h2, by simpa using h3⟩)
                    · exact .inr (.inl ⟨decide_eq_true (by omega), by simpa using h2⟩)
                  · exact .inl (decide_eq_false (by omega))
                clear hneg hr200
                rcases hcase with e1 | ⟨e1, e2⟩ | ⟨e1, e2, e3⟩
                all_goals
                  have HOA := Lib.hid hoa
                  have HRL := Lib.hid hrl
                  clear hoa hrl hmore
                  go_wp2_with fail
                  have hnb := Blk.new wr 43 #[.int .i64 x.t, .int .i64 x.v, .int .i64 x.e, .int .i64 x.b]
                  have x1 := hnb.cell 1
                  have x2 := hnb.cell 2
                  have x3 := hnb.cell 3
                  have x0 := hnb.cell 0
                  clear hnb k0 k1' k2 k3'
                  obtain ⟨W, hW⟩ : ∃ W, (wr.alloc (.cells #[.int .i64 x.t, .int .i64 x.v, .int .i64 x.e, .int .i64 x.b] 43)) = W := ⟨_, rfl⟩
                  rw [hW] at x0 x1 x2 x3 co cl cf HOA HBX ⊢
                  have HWS := Lib.hid (show W.heap.size = wr.heap.size + 1 by rw [← hW]; simp)
                  clear hW hgO hgI
                  generalize wr.heap.size = G at *
                  go_quiet (fail)
                  obtain ⟨a', c', w', hr, ho, b2⟩ := rows_new' (w := W.drewN nq) HWS.out (RowsOwn.drewN HOA.out nq) HBA.out HRL.out x
                  rw [← HWS.out, HNL.out] at hr
                  have HR := Lib.hid hr
                  clear hr
                  go_wp2_with (at_builtin; refine Lib.wpList_append_run _ rfl _ _ _ _ rfl _ _ rfl rfl _ _ HR.out ?_)
                  go_roundw
                  case rel =>
                    rw [jw]
                    refine ⟨j + 1, a', c', hjl, by rw [Int.natCast_add]; rfl, ?_, ?_, ?_⟩
                    · rw [HST.out, HRN.out, HRP.out, show (d ++ [r] ++ [[x]]).length = N1 + 1 by rw [List.length_append, HNL.out]; rfl]
                    · rw [HST.out, HRN.out, HRP.out]; exact ho
                    · exact (bel_drewN HBX.out nq).trans b2
                  case measure =>
                    rw [jw]
                    exact meas_up hjl
          · rw [if_neg hxt, List.append_nil] at hst
            have HST := Lib.hid hst
            have HOW := Lib.hid (how.alloc (.cells #[.int .i64 x.t, .int .i64 x.v, .int .i64 x.e, .int .i64 x.b] 43))
            have HBX := Lib.hid (bx.alloc hbx (.cells #[.int .i64 x.t, .int .i64 x.v, .int .i64 x.e, .int .i64 x.b] 43))
            have d1 : (x.t == K) = false := by simpa using hxt
            have d2 : (x.t != K) = true := by simpa using hxt
            clear hst how bx hxt hxm hpm hpl
            go_wp2_with fail
            go_roundw
            case rel =>
              rw [jw]
              refine ⟨j + 1, A1, c1, hjl, by rw [Int.natCast_add]; rfl, ?_, ?_, HBX.out⟩
              · rw [HST.out]
              · rw [HST.out]; exact HOW.out
            case measure =>
              rw [jw]
              exact meas_up hjl
        · obtain rfl : j = n := by omega
          have hpe : ofK K m.ws = p := by rw [← hp, ← HN.out, List.take_length]
          have hhas := has_any A c m.all K w.heap.size wr HNA5.out (HA.out.below bx)
          rw [HNA.out] at hhas
          obtain ⟨mr, hmr⟩ : ∃ z, decide (K ∈ m.all) = z := ⟨_, rfl⟩
          rw [hmr] at hhas
          have hpre : preB m (q + 1) = preB m q ++ partBytes K mr p := by
            have e : (((q + 1 : Nat)) : Int) = K := by rw [← HK.out]; rfl
            simp only [preB]
            rw [e, hmr, hpe]
          have hkq : (((q + 1 : Nat)) : Int) + 1 = K + 1 := by rw [← HK.out]; rfl
          have hpl : p.length ≤ 500 := by rw [← hpe]; exact Nat.le_trans (ofK_less _ _) (by rw [HN.out]; exact HN5.out)
          have hpg : ∀ a ∈ p, wordP a ∧ a.t = K := by rw [← hpe]; exact ofK_good HG.out K
          have hvs : vs K ≠ 0 := by
            have : K = 1 ∨ K = 2 ∨ K = 3 := by omega
            rcases this with h | h | h <;> subst h <;> decide
          have HPRE := Lib.hid hpre
          have HKQ := Lib.hid hkq
          have HPG := Lib.hid hpg
          have HVS := Lib.hid hvs
          have HHAS := Lib.hid hhas
          have HOW := Lib.hid how
          have HBX := Lib.hid bx
          have HBXS := Lib.hid hbx
          have near1 : (near 1 8).toNat = 1 := by decide
          have hx1 := mnumb 1 1 near1 K
          have hx2 := mnumb 1 1 near1 (vs K : Int)
          obtain ⟨E1, hE1⟩ : ∃ z, str (be K 1) = z := ⟨_, rfl⟩
          obtain ⟨E2, hE2⟩ : ∃ z, str (be (vs K : Int) 1) = z := ⟨_, rfl⟩
          rw [hE1] at hx1
          rw [hE2] at hx2
          have hz1 : E1.size ≤ 1 := by rw [← hE1, str_size, be_length]; omega
          have hz2 : E2.size ≤ 1 := by rw [← hE2, str_size, be_length]; omega
          have HX1 := Lib.hid hx1
          have HX2 := Lib.hid hx2
          have HE1 := Lib.hid hE1
          have HE2 := Lib.hid hE2
          have HP5 := Lib.hid hpl
          have z1 : ¬ 9223372036854775807 < S.size + E1.size := by have := HSZ.out; omega
          have z2 : ¬ 9223372036854775807 < S.size + E1.size + E2.size := by have := HSZ.out; omega
          have HZ12 := Lib.hid (And.intro hz1 hz2)
          clear hp hpe hhas hmr hpre hkq hpl hpg hvs how bx hbx near1 hx1 hx2 hE1 hE2 hz1 hz2 hj hjl
          by_cases hp0 : p = []
          · subst hp0
            rw [rowsOf_nil] at HOW ⊢
            simp only [List.length_nil]
            cases mr with
            | false =>
              clear z1 z2
              go_wp2_with fail
              refine HHAS.out.mono ?_
              rintro e w' ⟨rfl, rfl⟩
              go_wp2_with fail
              go_roundw
              case rel =>
                refine ⟨q + 1, by omega, by rw [HKQ.out], ?_, HBX.out⟩
                rw [HPRE.out, part_none, List.append_nil, HS.out]
              case measure => exact meas_kd HK.out hlt
            | true =>
              have hv := fun w => rvector_any none 0 K true [] w (WordsAt.nil _ _ _) (by decide) HVS.out (by simp)
              simp only [List.length_nil] at hv
              obtain ⟨V, hV⟩ : ∃ z, str (vecBytes K true []) = z := ⟨_, rfl⟩
              rw [hV] at hv
              have hvz : V.size ≤ 212 := by rw [← hV, str_size]; exact vecBytes_212 K true [] (by decide)
              have z3 : ¬ 9223372036854775807 < S.size + E1.size + E2.size + V.size := by have := HSZ.out; have := HZ12.out; omega
              have z4 : ¬ 9223372036854775807 < S.size + E1.size + E2.size + V.size + 2 := by have := HSZ.out; have := HZ12.out; omega
              have HV := Lib.hid hV
              have HVC := Lib.hid hv
              clear hV hv hvz
              go_wp2_with fail
              refine HHAS.out.mono ?_
              rintro e w' ⟨rfl, rfl⟩
              go_wp2_with fail
              refine (HX1.out _).mono ?_
              rintro e w5 ⟨rfl, b5⟩
              go_wp2_with fail
              refine (vsr_any K _).mono ?_
              rintro e w' ⟨rfl, rfl⟩
              go_wp2_with fail
              refine (HX2.out _).mono ?_
              rintro e w6 ⟨rfl, b6⟩
              go_wp2_with fail
              refine (HVC.out _).mono ?_
              rintro e w7 ⟨rfl, b7⟩
              have c6 := b5.trans (b6.mono b5.size)
              have c7 := c6.trans (b7.mono c6.size)
              have HB7 := Lib.hid (HBX.out.trans (c7.mono HBXS.out))
              clear b5 b6 b7 c6 c7
              go_wp2_with fail
              go_loopw [5, 123] (fun sv i wz => sv = .string (S ++ E1 ++ E2 ++ V) ∧ i = .int .i64 0 ∧ wz = w7) (fun _ _ _ => 0)
              case atStart => exact ⟨rfl, rfl, rfl⟩
              case round =>
                obtain ⟨rfl, rfl, rfl⟩ := hrel
                go_wp2_with fail
                go_roundw
                case rel =>
                  refine ⟨q + 1, by omega, by rw [HKQ.out], ?_, HB7.out⟩
                  rw [HPRE.out, part_mark, ← HS.out, ← HE1.out, ← HE2.out, ← HV.out]
                  exact congrArg Value.string (str5 _ _ _ _)
                case measure => exact meas_kd HK.out hlt
          · have hpne := hp0
            clear hp0
            obtain ⟨R, hR⟩ : ∃ z, (rowsOf p).length = z := ⟨_, rfl⟩
            rw [hR]
            have hR0 : 0 < R := by rw [← hR]; exact rowsOf_pos hpne
            have hR5 : R ≤ 500 := by rw [← hR]; exact Nat.le_trans (rowsOf_length _ p (Nat.le_refl _)) HP5.out
            have hrow := fun r (h : r ∈ rowsOf p) => rowsOf_row p.length p r (Nat.le_refl _) h
            have HROW := Lib.hid hrow
            have r0 : ((R : Int) == 0) = false := by rw [beq_eq_false_iff_ne]; omega
            have HR := Lib.hid hR
            have HR5 := Lib.hid hR5
            have HPNE := Lib.hid hpne
            have hstart : S ++ E1 ++ E2 = str (preB m q ++ be K 1 ++ be (vs K : Int) 1 ++ rowsBytes K mr ((rowsOf p).take 0)) := by
              rw [List.take_zero, rowsBytes, List.append_nil, ← HS.out, ← HE1.out, ← HE2.out, str_append, str_append]
            have hTz : ∀ i, i ≤ R → (str (preB m q ++ be K 1 ++ be (vs K : Int) 1 ++ rowsBytes K mr ((rowsOf p).take i))).size ≤ 600000 := fun i hi => by
              have h1 := rowsBytes_length K mr ((rowsOf p).take i) (fun r hr => (HROW.out r (List.mem_of_mem_take hr)).2.1)
              have h2 := HPL.out q
              have h3 : ((rowsOf p).take i).length ≤ i := by rw [List.length_take]; omega
              rw [str_size]
              simp only [List.length_append, be_length]
              omega
            have HST := Lib.hid hstart
            have HTZ := Lib.hid hTz
            clear hrow hR hR5 hpne hstart hTz
            cases mr with
            | false =>
              go_wp2_with fail
              refine HHAS.out.mono ?_
              rintro e w' ⟨rfl, rfl⟩
              go_wp2_with fail
              refine (HX1.out _).mono ?_
              rintro e w5 ⟨rfl, b5⟩
              go_wp2_with fail
              refine (vsr_any K _).mono ?_
              rintro e w' ⟨rfl, rfl⟩
              go_wp2_with fail
              refine (HX2.out _).mono ?_
              rintro e w6 ⟨rfl, b6⟩
              have HB6 := Lib.hid (b5.trans (b6.mono b5.size))
              clear b5 b6
              go_wp2_with fail
              obtain ⟨W2, hW2⟩ : ∃ z, z = wr := ⟨_, rfl⟩
              subst hW2
              go_loopw [5, 123] (fun sv iv wz => ∃ i : Nat, i ≤ R ∧ iv = .int .i64 i ∧ sv = .string (str (preB m q ++ be K 1 ++ be (vs K : Int) 1 ++ rowsBytes K false ((rowsOf p).take i))) ∧ Below W2.heap.size W2 wz) (fun _ iv _ => R - (intOf iv).toNat)
              case atStart => exact ⟨0, Nat.zero_le _, rfl, congrArg Value.string HST.out, HB6.out⟩
              case round =>
                obtain ⟨i, hi, rfl, rfl, bz⟩ := hrel
                by_cases hiR : i < R
                · obtain ⟨gO, a, ci, hA1, hgO, co, hwI⟩ := HOW.out.all i (by rw [HR.out]; exact hiR)
                  subst hA1
                  have c0 : wr.cell? ⟨gO, i, none⟩ = some (.slice a ((rowsOf p).getD i []).length ci) := (bz.cell (p := ⟨gO, i, none⟩) hgO).trans co
                  have hlt2 : i < (rowsOf p).length := by rw [HR.out]; exact hiR
                  have hmem : (rowsOf p).getD i [] ∈ rowsOf p := by rw [List.getD_eq_getElem?_getD, List.getElem?_eq_getElem hlt2]; exact List.getElem_mem hlt2
                  have hrr := HROW.out _ hmem
                  have hrb := rowsBytes_snoc K false (rowsOf p) i hlt2
                  obtain ⟨r, hr⟩ : ∃ z, (rowsOf p).getD i [] = z := ⟨_, rfl⟩
                  rw [hr] at c0 hwI hrr hrb
                  have hv := fun w3 (b3 : Below W2.heap.size W2 w3) => rvector_any a ci K (false && decide (i = 0)) r w3 ((hwI.below b3).more b3.size) hrr.2.1 HVS.out (fun x hx => HPG.out x (hrr.2.2.1 x hx))
                  have hvz : (str (vecBytes K (false && decide (i = 0)) r)).size ≤ 212 := by rw [str_size]; exact vecBytes_212 _ _ _ hrr.2.1
                  obtain ⟨V, hV⟩ : ∃ z, str (vecBytes K (false && decide (i = 0)) r) = z := ⟨_, rfl⟩
                  rw [hV] at hv hvz
                  obtain ⟨T, hT⟩ : ∃ z, str (preB m q ++ be K 1 ++ be (vs K : Int) 1 ++ rowsBytes K false ((rowsOf p).take i)) = z := ⟨_, rfl⟩
                  have hts : T.size ≤ 600000 := by rw [← hT]; exact HTZ.out i hi
                  rw [hT]
                  obtain ⟨rl, hrl⟩ : ∃ z, r.length = z := ⟨_, rfl⟩
                  rw [hrl] at c0 hv
                  have in1 : (i : Int) < R := by omega
                  have in0 : (0 : Int) ≤ i := by omega
                  have z9 : ¬ 9223372036854775807 < T.size + V.size := by omega
                  have idec : ∀ h : i = 0, ((i : Int) == 0) = true := fun h => by rw [beq_iff_eq]; omega
                  have idec2 : ∀ h : ¬ i = 0, ((i : Int) == 0) = false := fun h => by rw [beq_eq_false_iff_ne]; omega
                  have IDEC := Lib.hid idec
                  have IDEC2 := Lib.hid idec2
                  clear idec idec2
                  have iw : wrap64 ((i : Int) + 1) = (i : Int) + 1 := IntWalk.wrap64_in _ (by have := HR5.out; omega)
                  have HT := Lib.hid hT
                  have HBZ := Lib.hid bz
                  clear hi bz hgO co hwI hlt2 hmem hrr hr hvz hts hrl hT
                  have hmb : (false && decide (i = 0)) = false := rfl
                  rw [hmb] at hrb hv hV
                  have HVC := Lib.hid hv
                  have HRB := Lib.hid hrb
                  have HV := Lib.hid hV
                  clear hmb hrb hv hV
                  go_wp2_with fail
                  refine (HVC.out wr HBZ.out).mono ?_
                  rintro e w8 ⟨rfl, b8⟩
                  have HB8 := Lib.hid (HBZ.out.trans (b8.mono HBZ.out.size))
                  clear b8
                  go_wp2_with fail
                  go_roundw
                  case rel =>
                    rw [iw]
                    exact ⟨i + 1, hiR, by rw [Int.natCast_add]; rfl, by rw [HRB.out, ← HT.out, ← HV.out, str_append, List.append_assoc], HB8.out⟩
                  case measure =>
                    rw [iw]
                    exact meas_up hiR
                · obtain rfl : i = R := by omega
                  have hfin : str (preB m q ++ be K 1 ++ be (vs K : Int) 1 ++ rowsBytes K false ((rowsOf p).take i)) ++ ⟨#[0, 0]⟩ = str (preB m (q + 1)) := by
                    rw [HPRE.out, part_rows K false p HPNE.out, ← HR.out, List.take_length, show (⟨#[0, 0]⟩ : ByteArray) = str [0, 0] from rfl, str_append]
                    simp only [List.append_assoc]
                  have hts := HTZ.out i (Nat.le_refl _)
                  obtain ⟨T, hT⟩ : ∃ z, str (preB m q ++ be K 1 ++ be (vs K : Int) 1 ++ rowsBytes K false ((rowsOf p).take i)) = z := ⟨_, rfl⟩
                  rw [hT] at hfin hts ⊢
                  have z9 : ¬ 9223372036854775807 < T.size + 2 := by omega
                  have HFIN := Lib.hid hfin
                  have HBZ := Lib.hid (HBX.out.trans (bz.mono HBXS.out))
                  clear hT hfin hts hi bz hiR
                  go_wp2_with fail
                  go_roundw
                  case rel => exact ⟨q + 1, by omega, by rw [HKQ.out], by rw [← HFIN.out], HBZ.out⟩
                  case measure => exact meas_kd HK.out hlt
            | true =>
              go_wp2_with fail
              refine HHAS.out.mono ?_
              rintro e w' ⟨rfl, rfl⟩
              go_wp2_with fail
              refine (HX1.out _).mono ?_
              rintro e w5 ⟨rfl, b5⟩
              go_wp2_with fail
              refine (vsr_any K _).mono ?_
              rintro e w' ⟨rfl, rfl⟩
              go_wp2_with fail
              refine (HX2.out _).mono ?_
              rintro e w6 ⟨rfl, b6⟩
              have HB6 := Lib.hid (b5.trans (b6.mono b5.size))
              clear b5 b6
              go_wp2_with fail
              obtain ⟨W2, hW2⟩ : ∃ z, z = wr := ⟨_, rfl⟩
              subst hW2
              go_loopw [5, 123] (fun sv iv wz => ∃ i : Nat, i ≤ R ∧ iv = .int .i64 i ∧ sv = .string (str (preB m q ++ be K 1 ++ be (vs K : Int) 1 ++ rowsBytes K true ((rowsOf p).take i))) ∧ Below W2.heap.size W2 wz) (fun _ iv _ => R - (intOf iv).toNat)
              case atStart => exact ⟨0, Nat.zero_le _, rfl, congrArg Value.string HST.out, HB6.out⟩
              case round =>
                obtain ⟨i, hi, rfl, rfl, bz⟩ := hrel
                by_cases hiR : i < R
                · obtain ⟨gO, a, ci, hA1, hgO, co, hwI⟩ := HOW.out.all i (by rw [HR.out]; exact hiR)
                  subst hA1
                  have c0 : wr.cell? ⟨gO, i, none⟩ = some (.slice a ((rowsOf p).getD i []).length ci) := (bz.cell (p := ⟨gO, i, none⟩) hgO).trans co
                  have hlt2 : i < (rowsOf p).length := by rw [HR.out]; exact hiR
                  have hmem : (rowsOf p).getD i [] ∈ rowsOf p := by rw [List.getD_eq_getElem?_getD, List.getElem?_eq_getElem hlt2]; exact List.getElem_mem hlt2
                  have hrr := HROW.out _ hmem
                  have hrb := rowsBytes_snoc K true (rowsOf p) i hlt2
                  obtain ⟨r, hr⟩ : ∃ z, (rowsOf p).getD i [] = z := ⟨_, rfl⟩
                  rw [hr] at c0 hwI hrr hrb
                  have hv := fun w3 (b3 : Below W2.heap.size W2 w3) => rvector_any a ci K (true && decide (i = 0)) r w3 ((hwI.below b3).more b3.size) hrr.2.1 HVS.out (fun x hx => HPG.out x (hrr.2.2.1 x hx))
                  have hvz : (str (vecBytes K (true && decide (i = 0)) r)).size ≤ 212 := by rw [str_size]; exact vecBytes_212 _ _ _ hrr.2.1
                  obtain ⟨V, hV⟩ : ∃ z, str (vecBytes K (true && decide (i = 0)) r) = z := ⟨_, rfl⟩
                  rw [hV] at hv hvz
                  obtain ⟨T, hT⟩ : ∃ z, str (preB m q ++ be K 1 ++ be (vs K : Int) 1 ++ rowsBytes K true ((rowsOf p).take i)) = z := ⟨_, rfl⟩
                  have hts : T.size ≤ 600000 := by rw [← hT]; exact HTZ.out i hi
                  rw [hT]
                  obtain ⟨rl, hrl⟩ : ∃ z, r.length = z := ⟨_, rfl⟩
                  rw [hrl] at c0 hv
                  have in1 : (i : Int) < R := by omega
                  have in0 : (0 : Int) ≤ i := by omega
                  have z9 : ¬ 9223372036854775807 < T.size + V.size := by omega
                  have idec : ∀ h : i = 0, ((i : Int) == 0) = true := fun h => by rw [beq_iff_eq]; omega
                  have idec2 : ∀ h : ¬ i = 0, ((i : Int) == 0) = false := fun h => by rw [beq_eq_false_iff_ne]; omega
                  have IDEC := Lib.hid idec
                  have IDEC2 := Lib.hid idec2
                  clear idec idec2
                  have iw : wrap64 ((i : Int) + 1) = (i : Int) + 1 := IntWalk.wrap64_in _ (by have := HR5.out; omega)
                  have HT := Lib.hid hT
                  have HBZ := Lib.hid bz
                  clear hi bz hgO co hwI hlt2 hmem hrr hr hvz hts hrl hT
                  by_cases hi0 : i = 0
                  · have hmb : (true && decide (i = 0)) = true := by simp [hi0]
                    rw [hmb] at hrb hv hV
                    have HVC := Lib.hid hv
                    have HRB := Lib.hid hrb
                    have HV := Lib.hid hV
                    have i1 : ((i : Int) == 0) = true := IDEC.out hi0
                    clear hmb hrb hv hV hi0
                    go_wp2_with fail
                    refine (HVC.out wr HBZ.out).mono ?_
                    rintro e w8 ⟨rfl, b8⟩
                    have HB8 := Lib.hid (HBZ.out.trans (b8.mono HBZ.out.size))
                    clear b8
                    go_wp2_with fail
                    go_roundw
                    case rel =>
                      rw [iw]
                      exact ⟨i + 1, hiR, by rw [Int.natCast_add]; rfl, by rw [HRB.out, ← HT.out, ← HV.out, str_append, List.append_assoc], HB8.out⟩
                    case measure =>
                      rw [iw]
                      exact meas_up hiR
                  · have hmb : (true && decide (i = 0)) = false := by simp [hi0]
                    rw [hmb] at hrb hv hV
                    have HVC := Lib.hid hv
                    have HRB := Lib.hid hrb
                    have HV := Lib.hid hV
                    have i1 : ((i : Int) == 0) = false := IDEC2.out hi0
                    clear hmb hrb hv hV hi0
                    go_wp2_with fail
                    refine (HVC.out wr HBZ.out).mono ?_
                    rintro e w8 ⟨rfl, b8⟩
                    have HB8 := Lib.hid (HBZ.out.trans (b8.mono HBZ.out.size))
                    clear b8
                    go_wp2_with fail
                    go_roundw
                    case rel =>
                      rw [iw]
                      exact ⟨i + 1, hiR, by rw [Int.natCast_add]; rfl, by rw [HRB.out, ← HT.out, ← HV.out, str_append, List.append_assoc], HB8.out⟩
                    case measure =>
                      rw [iw]
                      exact meas_up hiR
                · obtain rfl : i = R := by omega
                  have hfin : str (preB m q ++ be K 1 ++ be (vs K : Int) 1 ++ rowsBytes K true ((rowsOf p).take i)) ++ ⟨#[0, 0]⟩ = str (preB m (q + 1)) := by
                    rw [HPRE.out, part_rows K true p HPNE.out, ← HR.out, List.take_length, show (⟨#[0, 0]⟩ : ByteArray) = str [0, 0] from rfl, str_append]
                    simp only [List.append_assoc]
                  have hts := HTZ.out i (Nat.le_refl _)
                  obtain ⟨T, hT⟩ : ∃ z, str (preB m q ++ be K 1 ++ be (vs K : Int) 1 ++ rowsBytes K true ((rowsOf p).take i)) = z := ⟨_, rfl⟩
                  rw [hT] at hfin hts ⊢
                  have z9 : ¬ 9223372036854775807 < T.size + 2 := by omega
                  have HFIN := Lib.hid hfin
                  have HBZ := Lib.hid (HBX.out.trans (bz.mono HBXS.out))
                  clear hT hfin hts hi bz hiR
                  go_wp2_with fail
                  go_roundw
                  case rel => exact ⟨q + 1, by omega, by rw [HKQ.out], by rw [← HFIN.out], HBZ.out⟩
                  case measure => exact meas_kd HK.out hlt
    · obtain rfl : q = 3 := by omega
      have hs := HPL.out 3
      have hfin : str (preB m 3) ++ ⟨#[0, 0]⟩ = str m.bytes := by
        rw [← preB_all, show (⟨#[0, 0]⟩ : ByteArray) = str [0, 0] from rfl, str_append]
      have hsz : (str (preB m 3)).size ≤ 400000 := by rw [str_size]; omega
      obtain ⟨S, hS⟩ : ∃ z, str (preB m 3) = z := ⟨_, rfl⟩
      rw [hS] at hfin hsz ⊢
      have z9 : ¬ 9223372036854775807 < S.size + 2 := by omega
      have HFIN := Lib.hid hfin
      have HBW := Lib.hid bw
      clear hs hfin hsz hS bw hq hlt
      go_wp2_with fail
      go_ret
      exact ⟨congrArg (fun s => Ending.returned (.string s)) HFIN.out, HBW.out⟩
end Go.Proofs.Ytoigapanhbmjlaa
