/- The statement FdbBound: never more than MaxPlaces; behind Age none is too old, behind Flush none is at the port, but static ones. Its condition: the program's contracts. -/
import Derived.Test.YtocahiifeckogaaFbAlive
namespace Go.Proofs.Ytocahiifeckogaa
open Go.RowKit
set_option maxRecDepth 100000

section
variable {Pt : World → Nat → (Nat → Prop) → Nat → Dt → Prop}
theorem dt_new (w : World) (B : Nat) (hB : B ≤ w.heap.size) : DtAt (w.alloc (.cells #[.slice none 0 0, .int .i64 0] 30)) B (· = w.heap.size) w.heap.size ⟨[], 0⟩ none 0 :=
  ⟨Blk.new w _ _, World.ownsRow_nil _ _ _ _, rfl, fun k hk => (nomatch hk), fun k hk => by
    subst hk
    exact ⟨hB, (Blk.new w 30 #[.slice none 0 0, .int .i64 0]).lt⟩⟩
theorem srt_does {s : Dt} (h : Srt s.l) (c : Kc) : Srt (doesS s c).l := ((Rel.does (s := s) (d := s) ⟨h, List.Perm.refl _, rfl⟩ c)).srt
set_option maxHeartbeats 8000000 in
theorem walkBound (H : FdbIs Pt) (A : Option Addr) (c : Nat) (l : List Kc) (now port : Int) (w : World) (hA : KcAt w w.heap.size A l) (hl : l.length ≤ maxLen) :
    Calls Try.prog 4 #[.slice A l.length c, .int .i64 now, .int .i64 port] w fun e w' => e = .returned (.bool true) ∧ Below w.heap.size w w' := by
  obtain ⟨n, hn⟩ : ∃ n, l.length = n := ⟨_, rfl⟩
  have HG := Lib.hid (fun (V : World) (hV : Below w.heap.size w V) => great_any A c l V (fun k hk => by
    obtain ⟨b, off, e, hl, hc⟩ := hA.below hV k hk
    exact ⟨b, off, e, Nat.lt_of_lt_of_le hl hV.size, hc⟩) hl)
  have HA := Lib.hid hA
  have HN := Lib.hid hn
  rw [hn] at HG ⊢
  clear hA hl hn
  go_enter Try.func4, Try.ntmps4
  go_wp2_with fail
  refine (falive_any H _).mono ?_
  rintro e w1 ⟨rfl, b1⟩
  have HB1 := Lib.hid b1
  have HG1 := Lib.hid (HG.out w1 b1)
  clear b1
  go_wp2_with fail
  refine HG1.out.mono ?_
  rintro e w2 ⟨(rfl | ⟨rfl, h120, hok⟩), b2⟩
  · have HE := Lib.hid (HB1.out.trans (b2.mono HB1.out.size))
    clear b2
    go_wp2_with fail
    go_ret
    exact ⟨rfl, HE.out⟩
  have HB2 := Lib.hid (HB1.out.trans (b2.mono HB1.out.size))
  have HOK := Lib.hid (And.intro h120 hok)
  clear b2 h120 hok
  by_cases n0 : now < 0
  · have HE := HB2
    go_wp2_with fail
    go_ret
    exact ⟨rfl, HE.out⟩
  by_cases n1 : 1099511627776 < now
  · have HE := HB2
    go_wp2_with fail
    go_ret
    exact ⟨rfl, HE.out⟩
  have HNW := Lib.hid (show 0 ≤ now ∧ now ≤ 1099511627776 from ⟨by omega, by omega⟩)
  have HNE := Lib.hid (H.new w2 w.heap.size HB2.out.size)
  go_wp2_with fail
  refine HNE.out.mono ?_
  rintro e w3 ⟨g, rfl, b3, p3⟩
  have HP3 := Lib.hid (And.intro p3 (HB2.out.trans (b3.mono HB2.out.size)))
  clear b3 p3 n0 n1
  go_wp2_with fail
  go_loopw [27] (fun iv wr => ∃ j : Nat, j ≤ n ∧ iv = .int .i64 j ∧ Hid (∃ (F : Nat → Prop) (s : Dt), Pt wr w.heap.size F g s ∧ Srt s.l ∧ Few s ∧ Below w.heap.size w wr)) (fun iv _ => n - (intOf iv).toNat)
  case atStart => exact ⟨0, Nat.zero_le _, rfl, Lib.hid ⟨_, _, HP3.out.1, srt_nil, few_nil 0, HP3.out.2⟩⟩
  case round =>
    obtain ⟨j, hj, rfl, HS⟩ := hrel
    by_cases hlt : j < n
    · have j1 : (j : Int) < n := by omega
      have j0 : (0 : Int) ≤ j := by omega
      have HLT := Lib.hid hlt
      have HJ := Lib.hid (show wrap64 ((j : Int) + 1) = (j : Int) + 1 from IntWalk.wrap64_in _ (by have := HOK.out.1; have := HN.out; omega))
      obtain ⟨F, s, hp, hs, hf, hb⟩ := HS.out
      obtain ⟨b, off, eA, hbl, hc⟩ := HA.out j (by rw [HN.out]; exact hlt)
      have hc := hc.below hb hbl
      have hok := HOK.out.2 j hlt
      obtain ⟨x, hx⟩ : ∃ x, l.getD j kc0 = x := ⟨_, rfl⟩
      rw [hx] at hc hok
      obtain ⟨q0, q1, q2, q3, q4⟩ := hc
      have bx := bel_alloc wr (.cells x.cells.toArray 32)
      have bx2 := bel_alloc2 wr (.cells x.cells.toArray 32) (.cells #[.slice none 0 0, .int .i64 0] 30)
      have hp2 := H.keep hp (below_touch bx2 noF) (fun q hq => hq.elim)
      have hd2 := dt_new (wr.alloc (.cells x.cells.toArray 32)) w.heap.size (Nat.le_trans hb.size bx.size)
      have hdo := does_any H hp2 hd2 (fun q hq e => by
        have h1 := ((H.lo hp).2 q hq).2
        have h2 := bx.size
        omega) hs hf (Nat.zero_le _) x hok
      rw [alloc_size] at hdo
      have HDO := Lib.hid hdo
      have HFL := Lib.hid (And.intro ((H.lo hp).2) (And.intro (hb.trans (bx2.mono hb.size)) (And.intro (srt_does hs x) (hf.does hok))))
      have HSZ := Lib.hid (show w.heap.size ≤ wr.heap.size from hb.size)
      obtain ⟨ck, cv, cm, cp, cn⟩ := x
      subst eA
      clear hj hlt hbl hx hok bx bx2 hp2 hd2 hdo hp hs hf hb
      go_wp2_with fail
      refine HDO.out.mono ?_
      rintro e w5 ⟨rfl, F', Fd', A', c', p5, d5, dis5, t5, i5, j5⟩
      have hb5 := HFL.out.2.1.trans (t5.below HFL.out.2.1.size (fun q hq => by
        rcases hq with hq | hq
        · exact (HFL.out.1 q hq).1
        · have := HSZ.out
          have : q = wr.heap.size + 1 := hq
          omega))
      have ha := H.all p5 HFL.out.2.2.1 HFL.out.2.2.2
      have hlen := HFL.out.2.2.2.len
      obtain ⟨k5, hk5⟩ : ∃ k, (doesS s ⟨ck, cv, cm, cp, cn⟩).l.length = k := ⟨_, rfl⟩
      rw [hk5] at ha hlen
      have HAL := Lib.hid ha
      have HP5 := Lib.hid (And.intro p5 hb5)
      have h24 : ¬ (24 : Int) < (k5 : Int) := by omega
      have h24n : ¬ 24 < k5 := by omega
      clear p5 d5 dis5 t5 i5 j5 ha hlen hk5 hb5
      go_wp2_with fail
      refine HAL.out.mono ?_
      rintro e w6 ⟨A6, c6, rfl, h6, b6⟩
      have HP6 := Lib.hid (And.intro (H.keep HP5.out.1 (below_touch b6 noF) (fun q hq => hq.elim)) (HP5.out.2.trans (b6.mono HP5.out.2.size)))
      clear h6 b6
      go_wp2_with fail
      go_roundw
      case rel =>
        rw [HJ.out]
        exact ⟨j + 1, HLT.out, by rw [Int.natCast_add]; rfl, Lib.hid ⟨_, _, HP6.out.1, HFL.out.2.2.1, HFL.out.2.2.2, HP6.out.2⟩⟩
      case measure =>
        rw [HJ.out]
        show n - ((j : Int) + 1).toNat < n - ((j : Int)).toNat
        have := HLT.out
        omega
    · obtain rfl : n = j := by omega
      clear hj hlt
      obtain ⟨F, s, hp, hs, hf, hb⟩ := HS.out
      have HAG := Lib.hid (H.age now hp hs hf HNW.out)
      have HSF := Lib.hid (And.intro (show Srt (keepD s 0 now).l from List.Pairwise.filter _ hs) (And.intro (hf.keep 0 now) (And.intro hb (H.lo hp).2)))
      have HBS := Lib.hid (And.intro (bound_plain s now port) (bound_srt hs now port))
      have HFF := Lib.hid (show Few (flushK (keepD s 0 now) port) from by unfold flushK; split <;> exact (hf.keep 0 now).keep _ _)
      clear hp hs hf hb
      go_wp2_with fail
      refine HAG.out.mono ?_
      rintro e w4 ⟨rfl, t4, p4⟩
      have hb4 := HSF.out.2.2.1.trans (t4.below HSF.out.2.2.1.size (fun q hq => (HSF.out.2.2.2 q hq).1))
      have HFU := Lib.hid (H.flush port p4 HSF.out.1 HSF.out.2.1)
      have HP4 := Lib.hid (And.intro p4 hb4)
      clear t4 p4 hb4
      go_wp2_with fail
      refine HFU.out.mono ?_
      rintro e w5 ⟨rfl, t5, p5⟩
      have hb5 := HP4.out.2.trans (t5.below HP4.out.2.size (fun q hq => ((H.lo HP4.out.1).2 q hq).1))
      have ha := H.all p5 HBS.out.2 HFF.out
      obtain ⟨m5, hm5⟩ : ∃ k, (flushK (keepD s 0 now) port).l.length = k := ⟨_, rfl⟩
      rw [hm5] at ha
      have HAL := Lib.hid ha
      have HM5 := Lib.hid (And.intro hm5 (show m5 ≤ 24 by rw [← hm5]; exact HFF.out.len))
      have HB5 := Lib.hid hb5
      clear t5 p5 hb5 ha hm5
      go_wp2_with fail
      refine HAL.out.mono ?_
      rintro e w6 ⟨A6, c6, rfl, h6, b6⟩
      have H6 := Lib.hid h6
      have HB6 := Lib.hid (HB5.out.trans (b6.mono HB5.out.size))
      clear h6 b6
      go_wp2_with fail
      go_loopw [50] (fun iv wr => ∃ i : Nat, i ≤ m5 ∧ iv = .int .i64 i ∧ Hid (Below w6.heap.size w6 wr)) (fun iv _ => m5 - (intOf iv).toNat)
      case atStart => exact ⟨0, Nat.zero_le _, rfl, Lib.hid (Below.refl _ _)⟩
      case round =>
        obtain ⟨i, hi, rfl, HQ⟩ := hrel
        by_cases hit : i < m5
        · have i1 : (i : Int) < m5 := by omega
          have i0 : (0 : Int) ≤ i := by omega
          have HLI := Lib.hid hit
          have HJ := Lib.hid (show wrap64 ((i : Int) + 1) = (i : Int) + 1 from IntWalk.wrap64_in _ (by have := HM5.out.2; omega))
          obtain ⟨b, off, eA, hbl, hc⟩ := H6.out i (by rw [HM5.out.1]; exact hit)
          have hc := hc.below HQ.out hbl
          have hbp := HBS.out.1 _ (getD_mem (l := (flushK (keepD s 0 now) port).l) (i := i) (by rw [HM5.out.1]; exact hit))
          obtain ⟨x, hx⟩ : ∃ x, (flushK (keepD s 0 now) port).l.getD i pl0 = x := ⟨_, rfl⟩
          rw [hx] at hc hbp
          obtain ⟨q0, q1, q2, q3, q4⟩ := hc
          have HB7 := Lib.hid (HQ.out.trans ((bel_alloc wr (.cells x.cells.toArray 40)).mono HQ.out.size))
          obtain ⟨xv, xm, xp, xs, xst⟩ := x
          subst eA
          clear hi hit hbl hx
          cases xst with
          | true =>
            clear hbp
            go_wp2_with fail
            go_roundw
            case rel =>
              rw [HJ.out]
              exact ⟨i + 1, HLI.out, by rw [Int.natCast_add]; rfl, HB7⟩
            case measure =>
              rw [HJ.out]
              show m5 - ((i : Int) + 1).toNat < m5 - ((i : Int)).toNat
              have := HLI.out
              omega
          | false =>
            obtain ⟨h1, h2, h3⟩ : wrap64 (now - xs) ≤ 60 ∧ xp ≠ port ∧ 0 ≤ port := hbp.resolve_left (fun c => nomatch c)
            have h2b : (xp == port) = false := by simpa using h2
            obtain ⟨t, ht⟩ : ∃ t, wrap64 (now - xs) = t := ⟨_, rfl⟩
            rw [ht] at h1
            have h1n : ¬ (60 : Int) < t := by omega
            have h3n : ¬ port < 0 := by omega
            clear h2 hbp
            go_wp2_with fail
            go_roundw
            case rel =>
              rw [HJ.out]
              exact ⟨i + 1, HLI.out, by rw [Int.natCast_add]; rfl, HB7⟩
            case measure =>
              rw [HJ.out]
              show m5 - ((i : Int) + 1).toNat < m5 - ((i : Int)).toNat
              have := HLI.out
              omega
        · obtain rfl : m5 = i := by omega
          clear hi hit
          go_wp2_with fail
          go_ret
          exact ⟨rfl, HB6.out.trans (HQ.out.mono HB6.out.size)⟩
end
end Go.Proofs.Ytocahiifeckogaa
