/- Good: whether a table can be. Its condition: lengths as of arguments. -/
import Derived.Test.YtkdnngcmiggoeaaJat
namespace Go.Proofs.Ytkdnngcmiggoeaa
open Go.RowKit
set_option maxRecDepth 100000

set_option maxHeartbeats 1000000 in
theorem stray_any (bn : Nat) (A : Option Addr) (cp : Nat) (t : Tb) (x : Ce) (w : World) (h : w.cell? ⟨bn, 0, none⟩ = some (.slice A t.length cp)) (hb : bn < w.heap.size) :
    Calls Try.prog 46 #[.agg #[.int .i64 x.1, .int .i64 x.2], .pointer (some ⟨bn, 0, none⟩)] w fun e w' => e = .returned (.bool (!hasB t x.1)) ∧ Below w.heap.size w w' := by
  obtain ⟨x0, x1⟩ := x
  have hh := fun w0 => has_any A cp t x0 w0
  obtain ⟨n, hn⟩ : ∃ n, t.length = n := ⟨_, rfl⟩
  rw [hn] at hh h
  obtain ⟨r, hr⟩ : ∃ r, hasB t x0 = r := ⟨_, rfl⟩
  rw [hr] at hh ⊢
  have HH := Lib.hid hh
  have q : (w.alloc (.cells #[.int .i64 x0, .int .i64 x1] 56)).cell? ⟨bn, 0, none⟩ = some (.slice A n cp) := (World.cell?_of_block (Below.heap_alloc w _ bn hb)).trans h
  have r0 : (w.alloc (.cells #[.int .i64 x0, .int .i64 x1] 56)).cell? ⟨w.heap.size, 0, none⟩ = some (.int .i64 x0) := (Blk.new w 56 #[.int .i64 x0, .int .i64 x1]).cell 0
  clear hr hh h hb hn
  go_enter Try.func46, Try.ntmps46
  go_wp2_with fail
  refine (HH.out _).mono ?_
  rintro e w2 ⟨rfl, b2⟩
  have HB := Lib.hid ((bel_alloc w (.cells #[.int .i64 x0, .int .i64 x1] 56)).trans (b2.mono (by simp)))
  clear b2
  go_wp2_with fail
  go_ret
  exact ⟨rfl, HB.out⟩
set_option maxHeartbeats 2000000 in
theorem index_stray (A : Option Addr) (c : Nat) (l : List Ce) (bn : Nat) (A0 : Option Addr) (cp : Nat) (t : Tb) (w : World) (hA : CrAt w w.heap.size A l) (hl : l.length ≤ maxLen) (hc : w.cell? ⟨bn, 0, none⟩ = some (.slice A0 t.length cp)) (hb : bn < w.heap.size) :
    Calls Try.prog 63 #[.slice A l.length c, .func (.func 46) #[] #[.pointer (some ⟨bn, 0, none⟩)]] w fun e w' =>
      ∃ ix, e = .returned (.int .i64 ix) ∧ Hid (decide (ix ≥ 0) = l.any (fun x => !hasB t x.1)) ∧ Below w.heap.size w w' := by
  obtain ⟨n, hnn⟩ : ∃ n, l.length = n := ⟨_, rfl⟩
  rw [hnn] at hl ⊢
  have HN := Lib.hid hnn
  have HL := Lib.hid hl
  have HA := Lib.hid hA
  have hst := fun (x : Ce) (wr : World) (hB : Below w.heap.size w wr) => stray_any bn A0 cp t x wr ((hB.cell (p := ⟨bn, 0, none⟩) hb).trans hc) (Nat.lt_of_lt_of_le hb hB.size)
  have HS := Lib.hid hst
  clear hnn hl hA hc hb hst
  go_enter Try.func63, Try.ntmps63
  go_wp2_with fail
  go_loopw [8] (fun i wr => ∃ j : Nat, j ≤ n ∧ i = .int .i64 j ∧ Hid (∀ r, r < j → hasB t (l.getD r ce0).1 = true) ∧ Hid (Below w.heap.size w wr)) (fun i _ => n - (intOf i).toNat)
  case atStart => exact ⟨0, Nat.zero_le _, rfl, Lib.hid (fun r hr => absurd hr (Nat.not_lt_zero _)), Lib.hid (Below.refl _ _)⟩
  case round =>
    obtain ⟨j, hj, rfl, hf, hB⟩ := hrel
    by_cases hlt : j < n
    · obtain ⟨b, off, eb, hbl, p0, p1⟩ := HA.out j (by rw [HN.out]; exact hlt)
      subst eb
      obtain ⟨x, hx⟩ : ∃ x, l.getD j ce0 = x := ⟨_, rfl⟩
      rw [hx] at p0 p1
      have q0 : wr.cell? ⟨b, off + j * 2, none⟩ = some (.int .i64 x.1) := (hB.out.cell (p := ⟨b, off + j * 2, none⟩) hbl).trans p0
      have q1 : wr.cell? ⟨b, off + j * 2 + 1, none⟩ = some (.int .i64 x.2) := (hB.out.cell (p := ⟨b, off + j * 2 + 1, none⟩) hbl).trans p1
      have hcl := HS.out x wr hB.out
      have HX := Lib.hid hx
      have j1 : (j : Int) < n := by omega
      have j0 : (0 : Int) ≤ j := by omega
      have HJ := Lib.hid (show wrap64 ((j : Int) + 1) = (j : Int) + 1 from IntWalk.wrap64_in _ (by have := HL.out; unfold maxLen at this; omega))
      clear p0 p1 hbl hx hj
      cases hlb : hasB t x.1 with
      | false =>
        rw [hlb] at hcl
        have HCL := Lib.hid hcl
        have HST := Lib.hid (show decide ((j : Int) ≥ 0) = l.any (fun x => !hasB t x.1) by
          rw [decide_eq_true (by omega)]
          symm
          have hl : j < l.length := by rw [HN.out]; exact hlt
          refine List.any_eq_true.2 ⟨l[j], List.getElem_mem hl, ?_⟩
          have hx2 := HX.out
          rw [List.getD_eq_getElem?_getD, List.getElem?_eq_getElem hl] at hx2
          have hx3 : l[j] = x := hx2
          rw [hx3, hlb]
          rfl)
        clear hcl hlb
        go_wp2_with fail
        refine HCL.out.mono ?_
        rintro e w2 ⟨rfl, b2⟩
        go_wp2_with fail
        go_ret
        exact ⟨_, rfl, HST, hB.out.trans (b2.mono hB.out.size)⟩
      | true =>
        rw [hlb] at hcl
        have HCL := Lib.hid hcl
        have HLB := Lib.hid hlb
        have jw := HJ.out
        clear hcl hlb
        go_wp2_with fail
        refine HCL.out.mono ?_
        rintro e w2 ⟨rfl, b2⟩
        go_wp2_with fail
        go_roundw
        case rel =>
          rw [jw]
          refine ⟨j + 1, hlt, by rw [Int.natCast_add]; rfl, Lib.hid (fun r hr => ?_), Lib.hid (hB.out.trans (b2.mono hB.out.size))⟩
          by_cases e : r = j
          · subst e; rw [HX.out]; exact HLB.out
          · exact hf.out r (by omega)
        case measure =>
          rw [jw]
          show n - ((j : Int) + 1).toNat < n - ((j : Int)).toNat
          omega
    · obtain rfl : n = j := by omega
      have HST := Lib.hid (show decide ((-1 : Int) ≥ 0) = l.any (fun x => !hasB t x.1) by
        rw [decide_eq_false (by omega)]
        symm
        rw [List.any_eq_false]
        intro y hy
        obtain ⟨i, hi, rfl⟩ := List.getElem_of_mem hy
        have := hf.out i (by rw [← HN.out]; exact hi)
        rw [List.getD_eq_getElem?_getD, List.getElem?_eq_getElem hi] at this
        have h2 : hasB t l[i].1 = true := this
        rw [h2]
        decide)
      clear hj hlt
      go_wp2_with fail
      go_ret
      exact ⟨_, rfl, HST, hB.out⟩
set_option maxHeartbeats 1000000 in
theorem contains_stray (A : Option Addr) (c : Nat) (l : List Ce) (bn : Nat) (A0 : Option Addr) (cp : Nat) (t : Tb) (w : World) (hA : CrAt w w.heap.size A l) (hl : l.length ≤ maxLen) (hc : w.cell? ⟨bn, 0, none⟩ = some (.slice A0 t.length cp)) (hb : bn < w.heap.size) :
    Calls Try.prog 45 #[.slice A l.length c, .func (.func 46) #[] #[.pointer (some ⟨bn, 0, none⟩)]] w fun e w' =>
      e = .returned (.bool (l.any (fun x => !hasB t x.1))) ∧ Below w.heap.size w w' := by
  have H := Lib.hid (index_stray A c l bn A0 cp t w hA hl hc hb)
  obtain ⟨v, hv⟩ : ∃ v, l.any (fun x => !hasB t x.1) = v := ⟨_, rfl⟩
  rw [hv] at H ⊢
  clear hA hl hc hb hv
  go_enter Try.func45, Try.ntmps45
  go_wp2_with fail
  refine H.out.mono ?_
  rintro e w2 ⟨ix, rfl, hx, b2⟩
  go_wp2_with fail
  go_ret
  exact ⟨ret_bool hx.out, b2⟩
theorem good_row {t : Tb} {r : List Ce} : rowGood t r = (decide (r.length = (t.getD 0 []).length) && !(r.any fun x => !hasB t x.1)) := by
  unfold rowGood
  congr 1
  rw [List.all_eq_not_any_not]
set_option maxHeartbeats 2000000 in
theorem good13_any (w : World) (A : Option Addr) (c : Nat) (t : Tb) (ht : TbAt w w.heap.size A t) (hl : t.length ≤ maxLen) (hr : ∀ r ∈ t, r.length ≤ maxLen) :
    Calls Try.prog 22 #[.slice A t.length c] w fun e w' => e = .returned (.bool (goodT t)) ∧ Below w.heap.size w w' := by
  obtain ⟨n, hn⟩ : ∃ n, t.length = n := ⟨_, rfl⟩
  obtain ⟨g, hg⟩ : ∃ g, goodT t = g := ⟨_, rfl⟩
  rw [hn] at hl ⊢
  rw [hg]
  have HT := Lib.hid ht
  have HN := Lib.hid hn
  have HL := Lib.hid hl
  have HG := Lib.hid hg
  have HR := Lib.hid hr
  clear ht hn hl hg hr
  go_enter Try.func22, Try.ntmps22
  go_wp2_with fail
  obtain ⟨W, hW⟩ : ∃ W, w.alloc (.cells #[.slice A n c] 50) = W := ⟨_, rfl⟩
  have hb0 := bel_alloc w (.cells #[.slice A n c] 50)
  have hk := Blk.new w 50 #[.slice A n c]
  rw [hW] at hb0 hk ⊢
  have HW := Lib.hid (And.intro hb0 hk)
  clear hW hb0 hk
  go_loopw [7] (fun iv wr => ∃ j : Nat, j ≤ n ∧ iv = .int .i64 j ∧ Hid (∀ r, r < j → rowGood t (t.getD r []) = true) ∧ Hid (Below W.heap.size W wr)) (fun iv _ => n - (intOf iv).toNat)
  case atStart => exact ⟨0, Nat.zero_le _, rfl, Lib.hid (fun r hr => absurd hr (Nat.not_lt_zero _)), Lib.hid (Below.refl _ _)⟩
  case round =>
    obtain ⟨j, hj, rfl, hf, hB⟩ := hrel
    by_cases hlt : j < n
    · have j1 : (j : Int) < n := by omega
      have j0 : (0 : Int) ≤ j := by omega
      have HJ := Lib.hid (show wrap64 ((j : Int) + 1) = (j : Int) + 1 from IntWalk.wrap64_in _ (by have := HL.out; unfold maxLen at this; omega))
      have hbw := HW.out.1.trans (hB.out.mono HW.out.1.size)
      obtain ⟨b, off, a, cc, rfl, hbl, p, hrow⟩ := HT.out j (by rw [HN.out]; exact hlt)
      obtain ⟨b', off', a0, c0, e', _, p0, _⟩ := HT.out 0 (by rw [HN.out]; omega)
      injection e' with e'
      injection e' with e1 e2
      subst e1 e2
      obtain ⟨R, hRR⟩ : ∃ R, t.getD j [] = R := ⟨_, rfl⟩
      rw [hRR] at p hrow
      obtain ⟨m, hm⟩ : ∃ m, R.length = m := ⟨_, rfl⟩
      obtain ⟨m0, hm0⟩ : ∃ m0, (t.getD 0 []).length = m0 := ⟨_, rfl⟩
      rw [hm] at p
      rw [hm0, Nat.add_zero] at p0
      have hmem : R ∈ t := by
        have hl : j < t.length := by rw [HN.out]; exact hlt
        rw [← hRR, List.getD_eq_getElem?_getD, List.getElem?_eq_getElem hl]
        exact List.getElem_mem hl
      have hml := HR.out R hmem
      have q := (hbw.cell (p := ⟨b, off + j, none⟩) hbl).trans p
      have q0 := (hbw.cell (p := ⟨b, off, none⟩) hbl).trans p0
      have kW := HW.out.2.below hB.out HW.out.2.lt
      have qt : wr.cell? ⟨w.heap.size, 0, none⟩ = some (.slice (some ⟨b, off, none⟩) n c) := kW.cell 0
      have hcs := contains_stray a cc R w.heap.size (some ⟨b, off, none⟩) c t wr ((hrow.below hbw).more hbw.size) hml (by rw [HN.out]; exact qt) kW.lt
      rw [hm] at hcs
      obtain ⟨an, han⟩ : ∃ an, (R.any fun x => !hasB t x.1) = an := ⟨_, rfl⟩
      rw [han] at hcs
      have HCS := Lib.hid hcs
      have HG1 := Lib.hid (show rowGood t R = (decide (m = m0) && !an) by rw [good_row, hm, hm0, han])
      have HM := Lib.hid (And.intro hRR hmem)
      clear p p0 hrow hbl hm hm0 han hcs hml hmem hbw kW hRR
      have hbad : rowGood t R = false → false = g := fun h => by
        rw [← HG.out]
        symm
        unfold goodT
        rw [show t.all (rowGood t) = false from by
          rw [List.all_eq_false]
          exact ⟨R, HM.out.2, by rw [h]; decide⟩, Bool.false_and]
      have HBAD := Lib.hid hbad
      clear hbad
      have hnext : rowGood t R = true → ∀ r, r < j + 1 → rowGood t (t.getD r []) = true := fun h r hr => by
        by_cases e : r = j
        · rw [e, HM.out.1]; exact h
        · exact hf.out r (by omega)
      have HNX := Lib.hid hnext
      clear hnext
      by_cases hme : m = m0
      · subst hme
        cases an with
        | true =>
          have HF := Lib.hid (HBAD.out (by rw [HG1.out]; simp))
          go_wp2_with fail
          refine HCS.out.mono ?_
          rintro e w2 ⟨rfl, b2⟩
          go_wp2_with fail
          go_ret
          exact ⟨ret_bool HF.out, HW.out.1.trans ((hB.out.trans (b2.mono hB.out.size)).mono HW.out.1.size)⟩
        | false =>
          have HF := Lib.hid (HNX.out (by rw [HG1.out]; simp))
          go_wp2_with fail
          refine HCS.out.mono ?_
          rintro e w2 ⟨rfl, b2⟩
          go_wp2_with fail
          go_roundw
          case rel =>
            rw [HJ.out]
            exact ⟨j + 1, hlt, by rw [Int.natCast_add]; rfl, HF, Lib.hid (hB.out.trans (b2.mono hB.out.size))⟩
          case measure =>
            rw [HJ.out]
            show n - ((j : Int) + 1).toNat < n - ((j : Int)).toNat
            omega
      · have HF := Lib.hid (HBAD.out (by rw [HG1.out, decide_eq_false hme, Bool.false_and]))
        have hme2 : ¬ (m : Int) = m0 := by omega
        go_wp2_with fail
        go_ret
        exact ⟨ret_bool HF.out, HW.out.1.trans (hB.out.mono HW.out.1.size)⟩
    · obtain rfl : n = j := by omega
      have hall : t.all (rowGood t) = true := by
        rw [List.all_eq_true]
        intro r hr
        obtain ⟨i, hi, rfl⟩ := List.getElem_of_mem hr
        have := hf.out i (by rw [← HN.out]; exact hi)
        rwa [List.getD_eq_getElem?_getD, List.getElem?_eq_getElem hi] at this
      have hres : decide (0 < n) = g := by
        rw [← HG.out]
        unfold goodT
        rw [hall, Bool.true_and, HN.out]
      have qt : wr.cell? ⟨w.heap.size, 0, none⟩ = some (.slice A n c) := (HW.out.2.below hB.out HW.out.2.lt).cell 0
      have HF := Lib.hid hres
      clear hall hres
      by_cases h0 : 0 < n
      · have h1 : (n : Int) > 0 := by omega
        rw [decide_eq_true h0] at HF
        go_wp2_with fail
        go_ret
        exact ⟨ret_bool HF.out, HW.out.1.trans (hB.out.mono HW.out.1.size)⟩
      · have h1 : ¬ (n : Int) > 0 := by omega
        rw [decide_eq_false h0] at HF
        go_wp2_with fail
        go_ret
        exact ⟨ret_bool HF.out, HW.out.1.trans (hB.out.mono HW.out.1.size)⟩
end Go.Proofs.Ytkdnngcmiggoeaa
