/- The document's table (layer 18): At, without, Good. No condition but bounds on lengths. -/
import Derived.Test.YtocahiifeckogaaFbMem
import Derived.Test.YtocahiifeckogaaAddr
import Derived.Deep.RegionHeld3
namespace Go.Proofs.Ytocahiifeckogaa
open Go.RowKit
set_option maxRecDepth 100000

theorem wrap_in {x : Int} (h0 : 0 ≤ x) (h1 : x < 4611686018427387904) : IntKind.i64.wrap x = x := by
  show (if _ then _ else _) = _
  have : x % 2 ^ 64 = x := Int.emod_eq_of_lt (by omega) (by omega)
  simp only [IntKind.bits, IntKind.signed, this]
  rw [if_neg (by simp; omega)]
theorem ixI_at {v m : Int} {l : List Pl} {i : Nat} (hi : i < l.length) (h : (l.getD i pl0).is v m) (hb : ∀ k, k < i → ¬ (l.getD k pl0).is v m) : ixI v m l = i := by
  unfold ixI
  rw [ixP_at hi h hb]
theorem ixI_no {v m : Int} {l : List Pl} (h : ∀ k, k < l.length → ¬ (l.getD k pl0).is v m) : ixI v m l = -1 := by
  unfold ixI
  rw [ixP_no h]
set_option maxHeartbeats 8000000 in
theorem dat_any {w : World} {B g c : Nat} {F : Nat → Prop} {d : Dt} {A : Option Addr} (h : DtAt w B F g d A c) (hl : d.l.length ≤ 1048576) (v m : Int) :
    Calls Try.prog 11 #[.pointer (some ⟨g, 0, none⟩), .int .i64 v, .int .i64 m] w fun e w' => e = .returned (.int .i64 (ixI v m d.l)) ∧ Below w.heap.size w w' := by
  obtain ⟨l, f⟩ := d
  obtain ⟨n, hn⟩ : ∃ n, l.length = n := ⟨_, rfl⟩
  have HA := Lib.hid h.row.at_
  have HL := Lib.hid (And.intro hn hl)
  have g0 : w.cell? ⟨g, 0, none⟩ = some (.slice A n c) := by rw [← hn]; exact h.blk.cell 0
  clear h hl hn
  go_enter Try.func11, Try.ntmps11
  go_wp2_with fail
  clear g0
  go_loopw [14] (fun iv wr => ∃ j : Nat, j ≤ n ∧ iv = .int .i64 j ∧ (∀ k, k < j → ¬ (l.getD k pl0).is v m) ∧ Hid (Below w.heap.size w wr)) (fun iv _ => n - (intOf iv).toNat)
  case atStart => exact ⟨0, Nat.zero_le _, rfl, fun k hk => absurd hk (Nat.not_lt_zero k), Lib.hid (Below.refl _ _)⟩
  case round =>
    obtain ⟨j, hj, rfl, hno, HB⟩ := hrel
    have HNO := Lib.hid hno
    by_cases hlt : j < n
    · have j1 : (j : Int) < n := by omega
      have j0 : (0 : Int) ≤ j := by omega
      have HLT := Lib.hid hlt
      have HJ := Lib.hid (show wrap64 ((j : Int) + 1) = (j : Int) + 1 from IntWalk.wrap64_in _ (by have := HL.out.1; have : l.length ≤ 1048576 := HL.out.2; omega))
      obtain ⟨b, off, eA, hbl, hc⟩ := HA.out j (by show j < l.length; rw [HL.out.1]; exact hlt)
      have hc := hc.below HB.out hbl
      have hc : PlCells wr b (off + j * 5) (l.getD j pl0) := hc
      obtain ⟨x, hx⟩ : ∃ x, l.getD j pl0 = x := ⟨_, rfl⟩
      rw [hx] at hc
      obtain ⟨q0, q1, q2, q3, q4⟩ := hc
      have HX := Lib.hid hx
      have HB2 := Lib.hid (HB.out.trans ((bel_alloc wr (.cells x.cells.toArray 37)).mono HB.out.size))
      obtain ⟨xv, xm, xp, xs, xst⟩ := x
      subst eA
      clear hno hj hlt hbl hx
      by_cases e1 : xv = v
      · have e1b : (xv == v) = true := by simpa using e1
        by_cases e2 : xm = m
        · have e2b : (xm == m) = true := by simpa using e2
          have HV := Lib.hid (show ixI v m l = j from ixI_at (by rw [HL.out.1]; exact HLT.out) (by rw [HX.out]; exact ⟨e1, e2⟩) HNO.out)
          clear e1 e2
          go_wp2_with fail
          go_ret
          exact ⟨by rw [HV.out]; rfl, HB2.out⟩
        · have e2b : (xm == m) = false := by simpa using e2
          have HXA := Lib.hid (show ∀ k, k < j + 1 → ¬ (l.getD k pl0).is v m from fun k hk => by
            by_cases e : k = j
            · subst e; rw [HX.out]; exact fun c => e2 c.2
            · exact HNO.out k (by omega))
          clear e1 e2
          go_wp2_with fail
          go_roundw
          case rel =>
            rw [HJ.out]
            exact ⟨j + 1, HLT.out, by rw [Int.natCast_add]; rfl, HXA.out, HB2⟩
          case measure =>
            rw [HJ.out]
            show n - ((j : Int) + 1).toNat < n - ((j : Int)).toNat
            have := HLT.out
            omega
      · have e1b : (xv == v) = false := by simpa using e1
        have HXA := Lib.hid (show ∀ k, k < j + 1 → ¬ (l.getD k pl0).is v m from fun k hk => by
          by_cases e : k = j
          · subst e; rw [HX.out]; exact fun c => e1 c.1
          · exact HNO.out k (by omega))
        clear e1
        go_wp2_with fail
        go_roundw
        case rel =>
          rw [HJ.out]
          exact ⟨j + 1, HLT.out, by rw [Int.natCast_add]; rfl, HXA.out, HB2⟩
        case measure =>
          rw [HJ.out]
          show n - ((j : Int) + 1).toNat < n - ((j : Int)).toNat
          have := HLT.out
          omega
    · obtain rfl : n = j := by omega
      clear hj hlt
      have HV := Lib.hid (show ixI v m l = -1 from ixI_no (by rw [HL.out.1]; exact hno))
      clear hno
      go_wp2_with fail
      go_ret
      exact ⟨by show _ = Ending.returned (.int .i64 (ixI v m l)); rw [HV.out]; rfl, HB.out⟩
set_option maxHeartbeats 8000000 in
theorem dwo_any {w : World} {B g c : Nat} {F : Nat → Prop} {d : Dt} {A : Option Addr} (h : DtAt w B F g d A c) (hl : d.l.length ≤ 1048576) (k : Nat) (hk : k < d.l.length) :
    Calls Try.prog 32 #[.pointer (some ⟨g, 0, none⟩), .int .i64 k] w fun e w' => ∃ A' c', e = .returned (.slice A' (rmP d.l k).length c') ∧ OwnL 37 w' w.heap.size A' c' (rmP d.l k) ∧ Below w.heap.size w w' := by
  obtain ⟨l, f⟩ := d
  have hk : k < l.length := hk
  have hl : l.length ≤ 1048576 := hl
  obtain ⟨n, hn⟩ : ∃ n, l.length = n := ⟨_, rfl⟩
  have hA := h.row.at_
  have hcap : n ≤ c := by rw [← hn]; exact (own_cap h.row).1
  obtain ⟨b, off, eA, hbl, _⟩ := hA k hk
  subst eA
  have g0 : w.drew.cell? ⟨g, 0, none⟩ = some (.slice (some ⟨b, off, none⟩) n c) := by rw [← hn]; exact h.blk.cell 0
  have HG := Lib.hid h.blk.lt
  have g1 : ∀ V, Below w.heap.size w.drew V → V.cell? ⟨g, 0, none⟩ = some (.slice (some ⟨b, off, none⟩) n c) := fun V hV => (hV.cell (p := ⟨g, 0, none⟩) HG.out).trans g0
  have hlt : (l.take k).length = k := by rw [List.length_take]; omega
  have hld : (l.drop (k + 1)).length = n - (k + 1) := by rw [List.length_drop, hn]
  have hV1 := bel_alloc w.drew (.cells #[] 37)
  have o4 : OwnL 37 (w.drew.alloc (.cells #[] 37)) w.heap.size (some ⟨w.drew.heap.size, 0, none⟩) 0 [] := own_blank w.drew w.heap.size 5 37 (Nat.le_refl _)
  have hAl : ∀ V, Below w.heap.size w.drew V → PlsAt V w.heap.size (some ⟨b, off, none⟩) l := fun V hV => (PlsAt.below (l := l) hA (Below.refl _ _).drew).below hV
  obtain ⟨s1, t1, w5, hr1, o5, gr5, mv5⟩ := append_l (w.drew.alloc (.cells #[] 37)) w.heap.size (some ⟨w.drew.heap.size, 0, none⟩) 0 0 [] rfl o4 (some ⟨b, off, none⟩) c k w.heap.size (l.take k) hlt (fun h => by cases h) ((hAl _ hV1).take k) (by rw [hlt]; show 0 + k ≤ 1048576; omega) hV1.size
  rw [List.nil_append] at o5
  rw [Nat.zero_add] at hr1
  have b5 : Below w.heap.size w.drew w5 := hV1.trans (bel_own o4 gr5 (Nat.le_refl _) hV1.size)
  have o5' := o5
  unfold OwnL at o5'
  rw [hlt] at o5'
  have HJ := Lib.hid (fun (A9 : Option Addr) (c9 : Nat) (h9 : PlsAt w5 w.heap.size A9 (l.drop (k + 1))) (h9' : A9 = none → c9 = 0) => (show ∃ s2 t2 w6, (Builtin.append_ #[28, 28] 28 #[.slice s1 k t1, .slice A9 (n - (k + 1)) c9]).run Try.prog w5 = .ok (.slice s2 (k + (n - (k + 1))) t2) w6 ∧ OwnL 37 w6 w.heap.size s2 t2 (rmP l k) ∧ Below w.heap.size w.drew w6 by
    obtain ⟨s2, t2, w6, hr2, o6, gr6, mv6⟩ := append_l w5 w.heap.size s1 t1 k (l.take k) hlt o5 A9 c9 (n - (k + 1)) w.heap.size (l.drop (k + 1)) hld h9' h9 (by rw [hlt, hld]; omega) b5.size
    exact ⟨s2, t2, w6, hr2, o6, b5.trans (bel_own o5' gr6 (Nat.le_refl _) b5.size)⟩))
  have HAL := Lib.hid (hAl w5 b5)
  have HRL := Lib.hid (show (rmP l k).length = k + (n - (k + 1)) by unfold rmP; rw [List.length_append, hlt, hld])
  have HR1 := Lib.hid hr1
  have cV1 := g1 _ hV1
  have cV2 : (w.alloc (.cells #[] 37)).drew.cell? ⟨g, 0, none⟩ = some (.slice (some ⟨b, off, none⟩) n c) := cV1
  have c5 := g1 _ b5
  have HG1 := Lib.hid g1
  have kn : k < n := by omega
  have kk2 : k ≤ c := by omega
  have kk1 : k + 1 ≤ c := by omega
  have kkn : ((k : Int) + 1).toNat = k + 1 := by omega
  have kk0 : (0 : Int) ≤ (k : Int) + 1 := by omega
  have kk3 : (k : Int) + 1 ≤ n := by omega
  have kk4 : (k : Int) ≤ c := by omega
  have kk5 : (k : Int) ≤ (k : Int) + 1 := by omega
  have kk6 : (n : Int) ≤ c := by omega
  have kk7 : (0 : Int) ≤ k := by omega
  have kk8 : (k : Int) + 1 ≤ c := by omega
  have HKW := Lib.hid (show wrap64 ((k : Int) + 1) = (k : Int) + 1 from IntWalk.wrap64_in _ (by omega))
  have HKV := Lib.hid (show IntKind.i64.wrap ((k : Int) + 1) = (k : Int) + 1 from wrap_in (by omega) (by omega))
  have HDB := Lib.hid (show Below w.heap.size w w.drew from (Below.refl _ _).drew)
  have HCN := Lib.hid (And.intro hn hl)
  clear h hA hbl hlt hld hV1 o4 hAl hr1 o5 gr5 mv5 b5 o5' g1 hn
  by_cases hck : c = k + 1
  · obtain rfl : n = k + 1 := by omega
    subst hck
    obtain ⟨s2, t2, w6, hr2, o6, b6⟩ := HJ.out (some ⟨b, off, none⟩) 0 (fun i hi => absurd hi (by rw [List.length_drop, HCN.out.1]; omega)) (fun h => by cases h)
    have e0 : k + 1 - (k + 1) = 0 := by omega
    have c6 := HG1.out _ b6
    have HE := Lib.hid (And.intro o6 (HDB.out.trans b6))
    rw [e0, Nat.add_zero] at hr2
    have HLE := Lib.hid (show (rmP l k).length = k by rw [HRL.out]; omega)
    have kkw := HKW.out
    have kkv := HKV.out
    clear o6 b6 hk hl hcap
    go_enter Try.func32, Try.ntmps32
    go_wp2_with fail
    go_region_held3 (fun w' => w'.cell? ⟨g, 0, none⟩ = some (.slice (some ⟨b, off, none⟩) (k + 1) (k + 1)))
      (first
        | (with_reducible exact g0)
        | (with_reducible exact cV1)
        | (with_reducible exact cV2)
        | (with_reducible exact c5)
        | (with_reducible exact c6)
        | fail)
      (first
        | (refine step_append_run rfl (.tmp 5) (.tmp 11) 28 28 rfl _ _ (by simp [Act.eval]) (by simp [Act.eval]) HR1.out ?_)
        | (refine step_append_run rfl (.tmp 12) (.tmp 19) 28 28 rfl _ _ (by simp [Act.eval]) (by simp [Act.eval]) hr2 ?_))
    all_goals
      go_wp2_with fail
      go_ret
      exact ⟨s2, t2, by rw [HLE.out]; rfl, HE.out⟩
  · have hck' : k + 1 < c := by omega
    obtain ⟨s2, t2, w6, hr2, o6, b6⟩ := HJ.out (some ⟨b, off + (k + 1) * 5, none⟩) (c - (k + 1)) (HAL.out.drop (k + 1)) (fun h => by cases h)
    have c6 := HG1.out _ b6
    have HE := Lib.hid (And.intro o6 (HDB.out.trans b6))
    have kkw := HKW.out
    have kkv := HKV.out
    clear o6 b6 hk hl hcap
    go_enter Try.func32, Try.ntmps32
    go_wp2_with fail
    go_region_held3 (fun w' => w'.cell? ⟨g, 0, none⟩ = some (.slice (some ⟨b, off, none⟩) n c))
      (first
        | (with_reducible exact g0)
        | (with_reducible exact cV1)
        | (with_reducible exact cV2)
        | (with_reducible exact c5)
        | (with_reducible exact c6)
        | fail)
      (first
        | (refine step_append_run rfl (.tmp 5) (.tmp 11) 28 28 rfl _ _ (by simp [Act.eval]) (by simp [Act.eval]) HR1.out ?_)
        | (refine step_append_run rfl (.tmp 12) (.tmp 19) 28 28 rfl _ _ (by simp [Act.eval]) (by simp [Act.eval]) hr2 ?_))
    all_goals
      go_wp2_with fail
      go_ret
      exact ⟨s2, t2, by rw [HRL.out]; rfl, HE.out⟩
end Go.Proofs.Ytocahiifeckogaa
