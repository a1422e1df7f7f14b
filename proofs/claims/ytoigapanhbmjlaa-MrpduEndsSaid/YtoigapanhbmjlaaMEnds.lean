/- Bytes that end ahead of the end mark, or go on behind it, say what their whole parts say, and that something is wrong. No condition. -/
import Derived.Test.YtoigapanhbmjlaaFrame
import Derived.Test.YtoigapanhbmjlaaMPdu
import Derived.Test.YtoigapanhbmjlaaMrCut
namespace Go.Proofs.Ytoigapanhbmjlaa
open Go.RowKit Go.ChangeShapes Go.WideShapes
open Go.ChangeMaps (open_string shut_string)

set_option maxRecDepth 100000 in
set_option maxHeartbeats 8000000 in
theorem walkMrpduEnds (A A' : Option Addr) (c c' : Nat) (m : Msg) (cut : Int) (more : ByteArray) (w : World) (hA : IntsAt w w.heap.size A m.all) (hA' : WordsAt w w.heap.size A' m.ws) (_hc : m.ws.length ≤ c') (_hcut : (Lit.int .i64 cut).wf = true) (_hmore : more.size ≤ maxLen) :
    Calls Try.prog 7 #[.agg #[.slice A m.all.length c, .slice A' m.ws.length c'], .int .i64 cut, .string more] w fun e w' => e = .returned (.bool true) ∧ Below w.heap.size w w' := by
  have z0 := Blk.new w 25 #[.slice A m.all.length c, .slice A' m.ws.length c']
  have bel := bel_alloc w (.cells #[.slice A m.all.length c, .slice A' m.ws.length c'] 25)
  obtain ⟨a, ha⟩ : ∃ a, m.all.length = a := ⟨_, rfl⟩
  obtain ⟨b, hb⟩ : ∃ a, m.ws.length = a := ⟨_, rfl⟩
  rw [ha, hb] at z0 bel
  rw [ha, hb]
  obtain ⟨g1, hg1⟩ : ∃ g, greatB a b = g := ⟨_, rfl⟩
  have HGR : ∀ w, Calls Try.prog 10 #[.agg #[.slice A a c, .slice A' b c']] w fun e w' => e = .returned (.bool g1) ∧ Below w.heap.size w w' := fun w => by rw [← hg1]; exact great_any _ _ _ _ _ _ _
  cases g1 with
  | true =>
    clear hA hA' _hc
    go_enter Try.func7, Try.ntmps7
    go_wp2_with fail
    refine (alive_any _).mono ?_
    rintro e u1 ⟨rfl, bb⟩
    replace z0 := z0.below bb z0.lt
    replace bel := bel.trans (bb.mono bel.size)
    clear bb
    have q0 : u1.cell? ⟨w.heap.size, 0, none⟩ = some (.slice A a c) := z0.cell 0
    have q1 : u1.cell? ⟨w.heap.size, 1, none⟩ = some (.slice A' b c') := z0.cell 1
    go_wp2_with fail
    refine (HGR _).mono ?_
    rintro e u2 ⟨rfl, bb⟩
    clear q0 q1
    replace z0 := z0.below bb z0.lt
    replace bel := bel.trans (bb.mono bel.size)
    clear bb
    go_wp2_with fail
    go_ret
    exact ⟨rfl, bel⟩
  | false =>
    simp only [greatB, decide_eq_false_iff_not] at hg1
    have hGd := fun (w3 : World) (b3 : Below w.heap.size w w3) => goodr_all A A' c c' m.all m.ws w.heap.size w3 b3.size (by omega) (by omega) (hA.below b3) (hA'.below b3)
    by_cases hgood : m.Good
    · rw [show Msg.goodB ⟨m.all, m.ws⟩ = true from decide_eq_true hgood] at hGd
      rw [ha, hb] at hGd
      by_cases hmr : 100 < more.size
      · have d1 : decide ((100 : Int) < (more.size : Int)) = true := decide_eq_true (by omega)
        have d2 : decide (100 < more.size) = true := decide_eq_true hmr
        have HGD := Lib.hid hGd
        clear hGd hA hA' _hc ha hb hg1 hgood hmr
        go_enter Try.func7, Try.ntmps7
        go_wp2_with fail
        refine (alive_any _).mono ?_
        rintro e u1 ⟨rfl, bb⟩
        replace z0 := z0.below bb z0.lt
        replace bel := bel.trans (bb.mono bel.size)
        clear bb
        have q0 : u1.cell? ⟨w.heap.size, 0, none⟩ = some (.slice A a c) := z0.cell 0
        have q1 : u1.cell? ⟨w.heap.size, 1, none⟩ = some (.slice A' b c') := z0.cell 1
        go_wp2_with fail
        refine (HGR _).mono ?_
        rintro e u2 ⟨rfl, bb⟩
        clear q0 q1
        replace z0 := z0.below bb z0.lt
        replace bel := bel.trans (bb.mono bel.size)
        clear bb
        have q0 : u2.cell? ⟨w.heap.size, 0, none⟩ = some (.slice A a c) := z0.cell 0
        have q1 : u2.cell? ⟨w.heap.size, 1, none⟩ = some (.slice A' b c') := z0.cell 1
        go_wp2_with fail
        refine (HGD.out _ bel).mono ?_
        rintro e u3 ⟨rfl, bb⟩
        clear q0 q1
        replace z0 := z0.below bb z0.lt
        replace bel := bel.trans (bb.mono bel.size)
        clear bb
        go_wp2_with fail
        go_ret
        exact ⟨rfl, bel⟩
      · have d1 : decide ((100 : Int) < (more.size : Int)) = false := decide_eq_false (by omega)
        have d2 : decide (100 < more.size) = false := decide_eq_false hmr
        have hRB := fun (w3 : World) (b3 : Below w.heap.size w w3) => rbytes_any A A' c c' m w.heap.size w3 b3.size (by omega) (by omega) (hA.below b3) (hA'.below b3) hgood
        have hl1 := bytes_less m (by omega)
        have hl3 := bytes_more m
        obtain ⟨S, hS⟩ : ∃ S, str m.bytes = S := ⟨_, rfl⟩
        obtain ⟨N, hN⟩ : ∃ n, m.bytes.length = n := ⟨_, rfl⟩
        have hSN : S.size = N := by rw [← hS, str_size, hN]
        have hRC := fun (k : Nat) (hk : k < N) => read_cut m hgood (by omega) k (by omega)
        rw [hN] at hl1 hl3
        obtain ⟨k, hk, hkN⟩ : ∃ k : Nat, IntKind.u64.wrap cut % (N : Int) = (k : Int) ∧ k < N := by
          have h1 := Int.emod_nonneg (IntKind.u64.wrap cut) (show (N : Int) ≠ 0 by omega)
          have h2 := Int.emod_lt_of_pos (IntKind.u64.wrap cut) (show (0 : Int) < (N : Int) by omega)
          exact ⟨(IntKind.u64.wrap cut % (N : Int)).toNat, by omega, by omega⟩
        have hRK := hRC k hkN
        obtain ⟨t, ht, hmt⟩ := bytes_read hgood (7 :: more.data.toList)
        have h7 : (S ++ ⟨#[7]⟩ ++ more).data.toList = m.bytes ++ 7 :: more.data.toList := by
          rw [← hS]; simp [str]
        have hRD := read_known (S ++ ⟨#[7]⟩ ++ more) t m true (by simp only [ByteArray.size_append]; rw [hSN, show (⟨#[7]⟩ : ByteArray).size = 1 from rfl]; omega) (by rw [h7]; exact ht) (by rw [hmt]; rfl)
        have hSM := fun (w3 : World) (b3 : Below w.heap.size w w3) (Q Q' : Option Addr) (q q' : Nat) (hQ : IntsAt w3 w3.heap.size Q m.all) (hQ' : WordsAt w3 w3.heap.size Q' m.ws) => sameM_any Q A Q' A' q c q' c' m.all m.all m.ws m.ws w3.heap.size w3 (by omega) (by omega) hQ ((hA.below b3).more b3.size) hQ' ((hA'.below b3).more b3.size)
        rw [same_refl] at hSM
        rw [hS] at hRB hRK
        rw [ha, hb] at hRB hSM hRD
        have HGD := Lib.hid hGd
        have HRB := Lib.hid hRB
        have HSM := Lib.hid hSM
        have HRD := Lib.hid hRD
        have HRK := Lib.hid hRK
        have HA' := Lib.hid hA'
        have HLA := Lib.hid ha
        have HLB := Lib.hid hb
        have HSN := Lib.hid hSN
        have HKN := Lib.hid hkN
        have HB5 := Lib.hid (show b ≤ 500 by omega)
        have hu : 0 ≤ IntKind.u64.wrap cut := by rw [IntKind.wrap_u64]; omega
        have e1 : (IntKind.u64.wrap cut).tmod (S.size : Int) = (k : Int) := by rw [hSN, Int.tmod_eq_emod_of_nonneg hu]; exact hk
        have s0 : 0 < S.size := by omega
        have s1 : ¬ S.size = 0 := by omega
        have s2 : ¬ (S.size : Int) = 0 := by omega
        have s3 : ((S.size : Int) == 0) = false := by rw [beq_eq_false_iff_ne]; omega
        have s4 : k ≤ S.size := by omega
        have s5 : (0 : Int) ≤ k := by omega
        have s6 : (k : Int) ≤ S.size := by omega
        have hkl : k ≤ 100000 := by omega
        have z1 : ¬ 9223372036854775807 < S.size + 1 := by omega
        have z2 : ¬ 9223372036854775807 < S.size + 1 + more.size := by omega
        have e2 : wrap64 (k : Int) = (k : Int) := IntWalk.wrap64_in _ (by omega)
        clear hGd hRB hSM hRD hRC hRK hA hA' _hc ha hb hg1 hS hN hSN hgood ht hmt h7 hmr hk hu hl1 hl3 hkl
        go_enter Try.func7, Try.ntmps7
        go_wp2_with fail
        refine (alive_any _).mono ?_
        rintro e u1 ⟨rfl, bb⟩
        replace z0 := z0.below bb z0.lt
        replace bel := bel.trans (bb.mono bel.size)
        clear bb
        have q0 : u1.cell? ⟨w.heap.size, 0, none⟩ = some (.slice A a c) := z0.cell 0
        have q1 : u1.cell? ⟨w.heap.size, 1, none⟩ = some (.slice A' b c') := z0.cell 1
        go_wp2_with fail
        refine (HGR _).mono ?_
        rintro e u2 ⟨rfl, bb⟩
        clear q0 q1
        replace z0 := z0.below bb z0.lt
        replace bel := bel.trans (bb.mono bel.size)
        clear bb
        have q0 : u2.cell? ⟨w.heap.size, 0, none⟩ = some (.slice A a c) := z0.cell 0
        have q1 : u2.cell? ⟨w.heap.size, 1, none⟩ = some (.slice A' b c') := z0.cell 1
        go_wp2_with fail
        refine (HGD.out _ bel).mono ?_
        rintro e u3 ⟨rfl, bb⟩
        clear q0 q1
        replace z0 := z0.below bb z0.lt
        replace bel := bel.trans (bb.mono bel.size)
        clear bb
        have q0 : u3.cell? ⟨w.heap.size, 0, none⟩ = some (.slice A a c) := z0.cell 0
        have q1 : u3.cell? ⟨w.heap.size, 1, none⟩ = some (.slice A' b c') := z0.cell 1
        go_wp2_with fail
        refine (HRB.out _ bel).mono ?_
        rintro e u4 ⟨rfl, bb⟩
        clear q0 q1
        replace z0 := z0.below bb z0.lt
        replace bel := bel.trans (bb.mono bel.size)
        clear bb
        go_wp2_with fail
        refine (HRK.out _).mono ?_
        rintro e u5 ⟨⟨Q, Q', q, q', a1, b1, ha1, hb1, hwQ, hend⟩, bb⟩
        replace z0 := z0.below bb z0.lt
        replace bel := bel.trans (bb.mono bel.size)
        clear bb
        rcases hend with ⟨hk0, hb0, rfl⟩ | ⟨hk0, rfl⟩
        · subst hk0 hb0
          clear e1 e2
          have zx := Blk.new u5 25 #[.slice Q a1 q, .slice Q' 0 q']
          have hb6 := bel_alloc u5 (.cells #[.slice Q a1 q, .slice Q' 0 q'] 25)
          replace z0 := z0.alloc (.cells #[.slice Q a1 q, .slice Q' 0 q'] 25)
          replace bel := bel.alloc bel.size (.cells #[.slice Q a1 q, .slice Q' 0 q'] 25)
          have hq6 := hwQ.below hb6
          have q0 : (u5.alloc (.cells #[.slice Q a1 q, .slice Q' 0 q'] 25)).cell? ⟨w.heap.size, 0, none⟩ = some (.slice A a c) := z0.cell 0
          have q1 : (u5.alloc (.cells #[.slice Q a1 q, .slice Q' 0 q'] 25)).cell? ⟨w.heap.size, 1, none⟩ = some (.slice A' b c') := z0.cell 1
          rw [HLA.out] at ha1
          rw [HLB.out] at hb1
          have d3 : decide ((b : Int) < ((0 : Nat) : Int)) = false := decide_eq_false (by omega)
          have d4 : decide (b < 0) = false := decide_eq_false (by omega)
          have d5 : decide ((a : Int) < (a1 : Int)) = false := decide_eq_false (by omega)
          have d6 : decide (a < a1) = false := decide_eq_false (by omega)
          have HZ0 := Lib.hid z0
          have HZX := Lib.hid zx
          have HBEL := Lib.hid bel
          have HQ6 := Lib.hid hq6
          have HB1 := Lib.hid hb1
          clear hwQ hb6 z0 zx bel hq6 ha1 hb1
          go_wp2_with fail
          have qx0 := HZX.out.cell 0
          have qx1 := HZX.out.cell 1
          obtain ⟨W6, hW6⟩ : ∃ W, u5.alloc (.cells #[.slice Q a1 q, .slice Q' 0 q'] 25) = W := ⟨_, rfl⟩
          rw [hW6] at HZ0 HBEL HQ6 q0 q1 qx0 qx1 ⊢
          clear hW6 HZX
          generalize u5.heap.size = X at *
          go_loopw [88] (fun i wr => ∃ j : Nat, j ≤ 0 ∧ i = .int .i64 j ∧ Hid (∃ nq, wr = W6.drewN nq)) (fun i _ => 0 - (intOf i).toNat)
          case atStart => exact ⟨0, Nat.zero_le _, rfl, Lib.hid ⟨0, rfl⟩⟩
          case round =>
            obtain ⟨j, hj, rfl, hW⟩ := hrel
            have hin : ∀ (a : Addr) (v : Value), W6.cell? a = some v → wr.cell? a = some v := fun a v h => by obtain ⟨q, e⟩ := hW.out; rw [e]; exact h
            have y0 := hin _ _ q0
            have y1 := hin _ _ q1
            have yx0 := hin _ _ qx0
            have yx1 := hin _ _ qx1
            have HQQ := Lib.hid (And.intro q0 q1)
            clear q0 q1 qx0 qx1
            by_cases hlt : j < 0
            · exact absurd hlt (Nat.not_lt_zero _)
            · obtain rfl : j = 0 := by omega
              clear hin hlt hj
              go_wp2_with fail
              refine (HRD.out _).mono ?_
              rintro e u7 ⟨⟨R, R', r, r', rfl, hR, hR'⟩, bb⟩
              have HZ7 : Hid (Blk wr w.heap.size 25 #[.slice A a c, .slice A' b c']) := Lib.hid (by obtain ⟨nq, e⟩ := hW.out; rw [e]; exact HZ0.out)
              have HB7 : Hid (Below w.heap.size w wr) := Lib.hid (by obtain ⟨nq, e⟩ := hW.out; rw [e]; exact bel_drewN HBEL.out nq)
              have z7 := (HZ7.out.below bb HZ7.out.lt).alloc (.cells #[.slice R a r, .slice R' b r'] 25)
              have hb8 := bel_alloc u7 (.cells #[.slice R a r, .slice R' b r'] 25)
              have b7 := HB7.out.trans (bb.mono HB7.out.size)
              have HB8 := Lib.hid (b7.alloc b7.size (.cells #[.slice R a r, .slice R' b r'] 25))
              have HR := Lib.hid ((hR.below hb8).more hb8.size)
              have HR' := Lib.hid ((hR'.below hb8).more hb8.size)
              have p0 : (u7.alloc (.cells #[.slice R a r, .slice R' b r'] 25)).cell? ⟨w.heap.size, 0, none⟩ = some (.slice A a c) := z7.cell 0
              have p1 : (u7.alloc (.cells #[.slice R a r, .slice R' b r'] 25)).cell? ⟨w.heap.size, 1, none⟩ = some (.slice A' b c') := z7.cell 1
              clear bb z7 hb8 b7 hR hR' y0 y1 yx0 yx1
              go_wp2_with fail
              refine (HSM.out _ HB8.out R R' r r' HR.out HR'.out).mono ?_
              rintro e u9 ⟨rfl, nq, rfl⟩
              go_wp2_with fail
              go_ret
              exact ⟨rfl, bel_drewN HB8.out nq⟩
        · have zx := Blk.new u5 25 #[.slice Q a1 q, .slice Q' b1 q']
          have hb6 := bel_alloc u5 (.cells #[.slice Q a1 q, .slice Q' b1 q'] 25)
          replace z0 := z0.alloc (.cells #[.slice Q a1 q, .slice Q' b1 q'] 25)
          replace bel := bel.alloc bel.size (.cells #[.slice Q a1 q, .slice Q' b1 q'] 25)
          have hq6 := hwQ.below hb6
          have q0 : (u5.alloc (.cells #[.slice Q a1 q, .slice Q' b1 q'] 25)).cell? ⟨w.heap.size, 0, none⟩ = some (.slice A a c) := z0.cell 0
          have q1 : (u5.alloc (.cells #[.slice Q a1 q, .slice Q' b1 q'] 25)).cell? ⟨w.heap.size, 1, none⟩ = some (.slice A' b c') := z0.cell 1
          rw [HLA.out] at ha1
          rw [HLB.out] at hb1
          have d3 : decide ((b : Int) < ((b1 : Nat) : Int)) = false := decide_eq_false (by omega)
          have d4 : decide (b < b1) = false := decide_eq_false (by omega)
          have d5 : decide ((a : Int) < (a1 : Int)) = false := decide_eq_false (by omega)
          have d6 : decide (a < a1) = false := decide_eq_false (by omega)
          have d7 : ((k : Int) == 0) = false := by rw [beq_eq_false_iff_ne]; omega
          have d8 : decide ((0 : Int) < (k : Int)) = true := decide_eq_true (by omega)
          have d9 : decide (0 < k) = true := decide_eq_true hk0
          have HZ0 := Lib.hid z0
          have HZX := Lib.hid zx
          have HBEL := Lib.hid bel
          have HQ6 := Lib.hid hq6
          have HB1 := Lib.hid hb1
          clear hwQ hb6 z0 zx bel hq6 ha1 hb1
          go_wp2_with fail
          have qx0 := HZX.out.cell 0
          have qx1 := HZX.out.cell 1
          obtain ⟨W6, hW6⟩ : ∃ W, u5.alloc (.cells #[.slice Q a1 q, .slice Q' b1 q'] 25) = W := ⟨_, rfl⟩
          rw [hW6] at HZ0 HBEL HQ6 q0 q1 qx0 qx1 ⊢
          clear hW6 HZX
          generalize u5.heap.size = X at *
          go_loopw [88] (fun i wr => ∃ j : Nat, j ≤ b1 ∧ i = .int .i64 j ∧ Hid (∃ nq, wr = W6.drewN nq)) (fun i _ => b1 - (intOf i).toNat)
          case atStart => exact ⟨0, Nat.zero_le _, rfl, Lib.hid ⟨0, rfl⟩⟩
          case round =>
            obtain ⟨j, hj, rfl, hW⟩ := hrel
            have hin : ∀ (a : Addr) (v : Value), W6.cell? a = some v → wr.cell? a = some v := fun a v h => by obtain ⟨q, e⟩ := hW.out; rw [e]; exact h
            have y0 := hin _ _ q0
            have y1 := hin _ _ q1
            have yx0 := hin _ _ qx0
            have yx1 := hin _ _ qx1
            have HQQ := Lib.hid (And.intro q0 q1)
            clear q0 q1 qx0 qx1
            by_cases hlt : j < b1
            · obtain ⟨g, o, eg, hg, p0, p1, p2, p3⟩ := HQ6.out j (by rw [List.length_take, HLB.out]; have := HB1.out; omega)
              subst eg
              obtain ⟨g', o', eg', hg', r0, r1, r2, r3⟩ := HA'.out j (by rw [HLB.out]; have := HB1.out; omega)
              subst eg'
              have hsame : (m.ws.take b1).getD j wd0 = m.ws.getD j wd0 := by
                rw [List.getD_eq_getElem?_getD, List.getD_eq_getElem?_getD, List.getElem?_take, if_pos hlt]
              rw [hsame] at p0 p1 p2 p3
              obtain ⟨x, hx⟩ : ∃ x, m.ws.getD j wd0 = x := ⟨_, rfl⟩
              rw [hx] at p0 p1 p2 p3 r0 r1 r2 r3
              clear hx hsame
              have hbw := HBEL.out
              have c0 := hin _ _ p0
              have c1 := hin _ _ p1
              have c2 := hin _ _ p2
              have c3 := hin _ _ p3
              have e0 := hin _ _ ((hbw.cell (p := ⟨g', o' + j * 4, none⟩) hg').trans r0)
              have e1' := hin _ _ ((hbw.cell (p := ⟨g', o' + j * 4 + 1, none⟩) hg').trans r1)
              have e2' := hin _ _ ((hbw.cell (p := ⟨g', o' + j * 4 + 2, none⟩) hg').trans r2)
              have e3 := hin _ _ ((hbw.cell (p := ⟨g', o' + j * 4 + 3, none⟩) hg').trans r3)
              have jb : j < b := by have := HB1.out; omega
              have jn : (j : Int) < b1 := by omega
              have jn' : (j : Int) < b := by omega
              have j0 : (0 : Int) ≤ j := by omega
              have HJW := Lib.hid (show wrap64 ((j : Int) + 1) = (j : Int) + 1 from IntWalk.wrap64_in _ (by have := HB1.out; have := HB5.out; omega))
              have jw := HJW.out
              clear hin p0 p1 p2 p3 r0 r1 r2 r3 hbw hg hg' hj
              obtain ⟨t, v, e, gg⟩ := x
              simp only at c0 c1 c2 c3 e0 e1' e2' e3
              go_wp2_with fail
              go_quiet (fail)
              go_wp2_with fail
              go_roundw
              case rel =>
                rw [jw]
                exact ⟨j + 1, hlt, by rw [Int.natCast_add]; rfl, Lib.hid (drewN_more hW.out nq)⟩
              case measure =>
                rw [jw]
                exact meas_up hlt
            · obtain rfl : j = b1 := by omega
              clear hin hlt hj
              go_wp2_with fail
              refine (HRD.out _).mono ?_
              rintro e u7 ⟨⟨R, R', r, r', rfl, hR, hR'⟩, bb⟩
              have HZ7 : Hid (Blk wr w.heap.size 25 #[.slice A a c, .slice A' b c']) := Lib.hid (by obtain ⟨nq, e⟩ := hW.out; rw [e]; exact HZ0.out)
              have HB7 : Hid (Below w.heap.size w wr) := Lib.hid (by obtain ⟨nq, e⟩ := hW.out; rw [e]; exact bel_drewN HBEL.out nq)
              have z7 := (HZ7.out.below bb HZ7.out.lt).alloc (.cells #[.slice R a r, .slice R' b r'] 25)
              have hb8 := bel_alloc u7 (.cells #[.slice R a r, .slice R' b r'] 25)
              have b7 := HB7.out.trans (bb.mono HB7.out.size)
              have HB8 := Lib.hid (b7.alloc b7.size (.cells #[.slice R a r, .slice R' b r'] 25))
              have HR := Lib.hid ((hR.below hb8).more hb8.size)
              have HR' := Lib.hid ((hR'.below hb8).more hb8.size)
              have p0 : (u7.alloc (.cells #[.slice R a r, .slice R' b r'] 25)).cell? ⟨w.heap.size, 0, none⟩ = some (.slice A a c) := z7.cell 0
              have p1 : (u7.alloc (.cells #[.slice R a r, .slice R' b r'] 25)).cell? ⟨w.heap.size, 1, none⟩ = some (.slice A' b c') := z7.cell 1
              clear bb z7 hb8 b7 hR hR' y0 y1 yx0 yx1
              go_wp2_with fail
              refine (HSM.out _ HB8.out R R' r r' HR.out HR'.out).mono ?_
              rintro e u9 ⟨rfl, nq, rfl⟩
              go_wp2_with fail
              go_ret
              exact ⟨rfl, bel_drewN HB8.out nq⟩
    · rw [show Msg.goodB ⟨m.all, m.ws⟩ = false from decide_eq_false hgood] at hGd
      rw [ha, hb] at hGd
      have HGD := Lib.hid hGd
      clear hGd hA hA' _hc ha hb hg1 hgood
      go_enter Try.func7, Try.ntmps7
      go_wp2_with fail
      refine (alive_any _).mono ?_
      rintro e u1 ⟨rfl, bb⟩
      replace z0 := z0.below bb z0.lt
      replace bel := bel.trans (bb.mono bel.size)
      clear bb
      have q0 : u1.cell? ⟨w.heap.size, 0, none⟩ = some (.slice A a c) := z0.cell 0
      have q1 : u1.cell? ⟨w.heap.size, 1, none⟩ = some (.slice A' b c') := z0.cell 1
      go_wp2_with fail
      refine (HGR _).mono ?_
      rintro e u2 ⟨rfl, bb⟩
      clear q0 q1
      replace z0 := z0.below bb z0.lt
      replace bel := bel.trans (bb.mono bel.size)
      clear bb
      have q0 : u2.cell? ⟨w.heap.size, 0, none⟩ = some (.slice A a c) := z0.cell 0
      have q1 : u2.cell? ⟨w.heap.size, 1, none⟩ = some (.slice A' b c') := z0.cell 1
      go_wp2_with fail
      refine (HGD.out _ bel).mono ?_
      rintro e u3 ⟨rfl, bb⟩
      clear q0 q1
      replace z0 := z0.below bb z0.lt
      replace bel := bel.trans (bb.mono bel.size)
      clear bb
      go_wp2_with fail
      go_ret
      exact ⟨rfl, bel⟩
set_option maxRecDepth 100000 in
theorem liftedMrpduEnds (os : Os) (started : os.Started) (H : Type) (enc : TypeId × Value → H) :
    ReturnsInHanded {} Try.checked os 7 .any (Rows.mrpduEndsSpec.pre6 enc Try.prog Try.f7 Rows.mrpduEndsRow.domain false) (Rows.mrpduEndsSpec.post enc Try.prog Try.f7 false true false false) := by
  refine returnsInHanded_of_change (C := Try.checked) own started (by kernel_rfl) Try.func7
    (ChangeSpec.witness6 (enc := enc) (C := Try.checked) false ⟨#[], #[.agg #[.slice none 0 0, .slice none 0 0], .int .i64 0, .string ⟨#[]⟩], []⟩ 8 (by kernel_rfl) (by kernel_rfl) (by kernel_rfl) (by kernel_rfl)) ?_
  intro W base args ds gs before hval0 hW hcnd _
  have hval : ∀ (j : Nat) t v, Try.f7.params[j]? = some t → args[j]? = some v → Value.okWide Try.prog W .any base t v := hval0
  have hW' := hW
  obtain ⟨p, q, hA0, hV, rfl, hfz, hnd⟩ := hW
  have hA : DataW.TrodAll enc Try.prog W 0 (fun _ => true) true Try.f7.params.toList args.toList ds p := hA0
  rw [Try.params7] at hA hval
  obtain ⟨v0, vs0, d0, ds0, p0, q0, hargs, rfl, rfl, h0, r0⟩ := trodAll_cons hA
  obtain ⟨v1, vs1, d1, ds1, p1, q1, rfl, rfl, rfl, h1, r1⟩ := trodAll_cons r0
  obtain ⟨v2, vs2, d2, ds2, p2, q2, rfl, rfl, rfl, h2, r2⟩ := trodAll_cons r1
  obtain ⟨rfl, rfl, rfl⟩ := trodAll_nil r2
  obtain rfl : args = #[v0, v1, v2] := by cases args; simp_all
  obtain ⟨rfl, rfl⟩ := trodVars_none hV
  have k0 := h0
  have lt0 : ∀ x ∈ p0, x.block < W.heap.size := by obtain ⟨m, hm⟩ := k0; exact DataW.trod_lt m _ _ _ hm
  obtain ⟨A0, A0', c0, c0', m0, rfl, w0, w0', w0''⟩ := open_pdu (hval 0 25 v0 rfl rfl) h0
  obtain ⟨a1, rfl, rfl, rfl, w1⟩ := open_int Try.underlying3 (hval 1 3 v1 rfl rfl) h1
  obtain ⟨s2, rfl, rfl, rfl, w2⟩ := open_string Try.underlying9 (hval 2 9 v2 rfl rfl) h2
  clear hA0 hval0
  refine (walkMrpduEnds A0 A0' c0 c0' m0 a1 s2 W w0 w0' w0'' w1 w2).mono fun e W' ⟨he, bel⟩ => ?_
  subst he
  exact ⟨_, rfl, _, _, _, [], _, [], hW', trodAll_mk1 (shut_bool Try.underlying4 _), (trodAll_cons_mk (Below.trod laidOut (by kernel_rfl) (of_decide_eq_true (by kernel_rfl)) k0 bel lt0) (trodAll_cons_mk (shut_int Try.underlying3 w1) (trodAll_cons_mk (shut_string Try.underlying9 w2) trodAll_mk0))), rfl, bel.frame _, fun h => by cases h⟩

theorem overMrpduEnds : Rows.mrpduEndsRow.holds Try.pinned (OpenSpec.ofChange Rows.mrpduEndsSpec) :=
  OpenClaim.holds_of_wide 7 Try.f7 rfl rfl rfl rfl rfl rfl rfl ⟨rfl, rfl, rfl, rfl, rfl⟩ rfl rfl rfl rfl rfl (by kernel_rfl) Try.func7 (by kernel_rfl)
    (of_decide_eq_true (by kernel_rfl)) (by unfold Func.isWrapper; first | (rw [if_pos (by decide +kernel)]; kernel_rfl) | (rw [if_neg (by decide +kernel)]; exact ⟨rfl, rfl⟩))
    (fun os started H enc _ => liftedMrpduEnds os started H enc)

/-- The statement. -/
theorem mrpduEnds_holds : Rows.MrpduEndsSaid := overMrpduEnds

#print axioms mrpduEnds_holds
end Go.Proofs.Ytoigapanhbmjlaa
