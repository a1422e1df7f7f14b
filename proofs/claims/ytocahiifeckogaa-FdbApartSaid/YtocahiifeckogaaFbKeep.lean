/- The document's table (layer 18): Keep. No condition but bounds on lengths. -/
import Derived.Test.YtocahiifeckogaaFbDo
namespace Go.Proofs.Ytocahiifeckogaa
open Go.RowKit
set_option maxRecDepth 100000

theorem take_filter {l : List Pl} {j : Nat} (h : j < l.length) (f : Pl → Bool) : (l.take (j + 1)).filter f = (l.take j).filter f ++ (if f (l.getD j pl0) = true then [l.getD j pl0] else []) := by
  rw [List.take_succ_eq_append_getElem h, List.filter_append, List.getD_eq_getElem?_getD, List.getElem?_eq_getElem h]
  congr 1
  simp only [Option.getD_some]
  cases hf : f l[j] with
  | true => simp [hf]
  | false => simp [hf]
set_option maxHeartbeats 8000000 in
theorem dkeep_any {w : World} {B g c : Nat} {F : Nat → Prop} {d : Dt} {A : Option Addr} (h : DtAt w B F g d A c) (hl : d.l.length ≤ 1000) (kind k : Int) :
    Calls Try.prog 22 #[.pointer (some ⟨g, 0, none⟩), .int .i64 kind, .int .i64 k] w fun e w' => e = .returned (.tuple #[]) ∧ Touch F w w' ∧ ∃ A' c', DtAt w' B (grow F w w') g (keepD d kind k) A' c' := by
  obtain ⟨n, hn⟩ : ∃ n, d.l.length = n := ⟨_, rfl⟩
  have HA := Lib.hid h.row.at_
  have HH := Lib.hid (And.intro h (And.intro hn hl))
  have g0 : w.cell? ⟨g, 0, none⟩ = some (.slice A n c) := by rw [← hn]; exact h.blk.cell 0
  clear h hl hn
  go_enter Try.func22, Try.ntmps22
  go_wp2_with fail
  clear g0
  go_loopw [6, 14] (fun pv iv wr => ∃ (j m1 : Nat) (A1 : Option Addr) (c1 : Nat), j ≤ n ∧ iv = .int .i64 j ∧ pv = .slice A1 m1 c1 ∧ Hid (m1 = ((d.l.take j).filter (keepB kind k)).length ∧ OwnL 37 wr w.heap.size A1 c1 ((d.l.take j).filter (keepB kind k)) ∧ Below w.heap.size w wr)) (fun _ iv _ => n - (intOf iv).toNat)
  case atStart => exact ⟨0, 0, none, 0, Nat.zero_le _, rfl, rfl, Lib.hid ⟨rfl, World.ownsRow_nil _ _ _ _, Below.refl _ _⟩⟩
  case round =>
    obtain ⟨j, m1, A1, c1, hj, rfl, rfl, HS⟩ := hrel
    by_cases hlt : j < n
    · have j1 : (j : Int) < n := by omega
      have j0 : (0 : Int) ≤ j := by omega
      have HLT := Lib.hid hlt
      have HJ := Lib.hid (show wrap64 ((j : Int) + 1) = (j : Int) + 1 from IntWalk.wrap64_in _ (by have := HH.out.2.1; have := HH.out.2.2; omega))
      obtain ⟨b, off, eA, hbl, hc⟩ := HA.out j (by rw [HH.out.2.1]; exact hlt)
      have hc := hc.below HS.out.2.2 hbl
      have htk := take_filter (l := d.l) (j := j) (by rw [HH.out.2.1]; exact hlt) (keepB kind k)
      obtain ⟨q, hq⟩ : ∃ q, d.l.getD j pl0 = q := ⟨_, rfl⟩
      rw [hq] at hc htk
      have HTK := Lib.hid (show ∀ bb : Bool, keepB kind k q = bb → (d.l.take (j + 1)).filter (keepB kind k) = (d.l.take j).filter (keepB kind k) ++ (if bb = true then [q] else []) from fun bb e => by rw [htk, e])
      have HTK : Hid (∀ bb : Bool, keepB kind k q = bb → (d.l.take (j + 1)).filter (keepB kind k) = match bb with | true => (d.l.take j).filter (keepB kind k) ++ [q] | false => (d.l.take j).filter (keepB kind k)) := Lib.hid (fun bb e => by
        rw [HTK.out bb e]
        cases bb with
        | true => rfl
        | false => exact List.append_nil _)
      obtain ⟨q0, q1, q2, q3, q4⟩ := hc
      have hsz : ((d.l.take j).filter (keepB kind k)).length ≤ 1000 := by
        have h1 := List.length_filter_le (keepB kind k) (d.l.take j)
        have h2 : (d.l.take j).length ≤ d.l.length := List.length_take_le' j d.l
        have := HH.out.2.2
        omega
      have bx := bel_alloc wr (.cells q.cells.toArray 37)
      have hb2 := HS.out.2.2.trans (bx.mono HS.out.2.2.size)
      have HB2 := Lib.hid hb2
      have bx2 := bel_alloc2 wr (.cells q.cells.toArray 37) (.cells q.cells.toArray 37)
      have hown : OwnL 37 ((wr.alloc (.cells q.cells.toArray 37)).alloc (.cells q.cells.toArray 37)) w.heap.size A1 c1 ((d.l.take j).filter (keepB kind k)) := World.ownsRow.alloc (World.ownsRow.alloc HS.out.2.1 _) _
      have hnew : Blk ((wr.alloc (.cells q.cells.toArray 37)).alloc (.cells q.cells.toArray 37)) (wr.heap.size + 1) 37 q.cells.toArray := by
        have := Blk.new (wr.alloc (.cells q.cells.toArray 37)) 37 q.cells.toArray
        rw [alloc_size] at this
        exact this
      obtain ⟨a', c', w', hrun, ho', hb'⟩ := app_one HS.out.1.symm hown hnew (by omega) (Nat.le_trans HS.out.2.2.size bx2.size)
      have HFR := Lib.hid (show OwnL 37 w' w.heap.size a' c' ((d.l.take j).filter (keepB kind k) ++ [q]) ∧ Below w.heap.size w w' from ⟨ho', (HS.out.2.2.trans (bx2.mono HS.out.2.2.size)).trans hb'⟩)
      have HRUN := Lib.hid hrun
      obtain ⟨qv, qm, qp, qs, qst⟩ := q
      subst eA
      clear hj hlt hbl htk hq hsz bx hb2 bx2 hown hnew hrun ho' hb'
      cases qst with
      | true =>
        have HE := Lib.hid (show (d.l.take (j + 1)).filter (keepB kind k) = (d.l.take j).filter (keepB kind k) ++ [⟨qv, qm, qp, qs, true⟩] from HTK.out true (by unfold keepB; rfl))
        go_wp2_with (at_builtin; refine Lib.wpList_append_run _ rfl _ _ _ _ rfl _ _ rfl rfl _ _ HRUN.out ?_)
        go_roundw
        case rel =>
          rw [HJ.out]
          exact ⟨j + 1, m1 + 1, a', c', HLT.out, by rw [Int.natCast_add]; rfl, rfl, Lib.hid ⟨by rw [HE.out, List.length_append, HS.out.1]; rfl, by rw [HE.out]; exact HFR.out.1, HFR.out.2⟩⟩
        case measure =>
          rw [HJ.out]
          show n - ((j : Int) + 1).toNat < n - ((j : Int)).toNat
          have := HLT.out
          omega
      | false =>
        by_cases k0 : kind = 0
        · have k0b : (kind == 0) = true := by simpa using k0
          obtain ⟨t, ht⟩ : ∃ t, wrap64 (k - qs) = t := ⟨_, rfl⟩
          by_cases h60 : t ≤ 60
          · have HC := Lib.hid (show keepB kind k ⟨qv, qm, qp, qs, false⟩ = true from by unfold keepB; simp only [ht, decide_eq_true k0, decide_eq_true h60]; rfl)
            have k01 : (kind == 1) = false := by rw [beq_eq_false_iff_ne]; omega
            clear k0
            have HE := Lib.hid (show (d.l.take (j + 1)).filter (keepB kind k) = (d.l.take j).filter (keepB kind k) ++ [⟨qv, qm, qp, qs, false⟩] from HTK.out true (HC.out))
            go_wp2_with (at_builtin; refine Lib.wpList_append_run _ rfl _ _ _ _ rfl _ _ rfl rfl _ _ HRUN.out ?_)
            go_roundw
            case rel =>
              rw [HJ.out]
              exact ⟨j + 1, m1 + 1, a', c', HLT.out, by rw [Int.natCast_add]; rfl, rfl, Lib.hid ⟨by rw [HE.out, List.length_append, HS.out.1]; rfl, by rw [HE.out]; exact HFR.out.1, HFR.out.2⟩⟩
            case measure =>
              rw [HJ.out]
              show n - ((j : Int) + 1).toNat < n - ((j : Int)).toNat
              have := HLT.out
              omega
          · have HC := Lib.hid (show keepB kind k ⟨qv, qm, qp, qs, false⟩ = false from by
              unfold keepB
              simp only [ht, decide_eq_false h60, show decide (kind = 1) = false from decide_eq_false (by omega)]
              simp)
            have k01 : (kind == 1) = false := by rw [beq_eq_false_iff_ne]; omega
            clear k0
            have HE := Lib.hid (show (d.l.take (j + 1)).filter (keepB kind k) = (d.l.take j).filter (keepB kind k) from HTK.out false (HC.out))
            go_wp2_with fail
            go_roundw
            case rel =>
              rw [HJ.out]
              exact ⟨j + 1, m1, A1, c1, HLT.out, by rw [Int.natCast_add]; rfl, rfl, Lib.hid ⟨by rw [HE.out]; exact HS.out.1, by rw [HE.out]; exact World.ownsRow.alloc HS.out.2.1 _, HB2.out⟩⟩
            case measure =>
              rw [HJ.out]
              show n - ((j : Int) + 1).toNat < n - ((j : Int)).toNat
              have := HLT.out
              omega
        · have k0b : (kind == 0) = false := by simpa using k0
          by_cases k1 : kind = 1
          · have k1b : (kind == 1) = true := by simpa using k1
            by_cases hp : qp = k
            · have hpb : (qp != k) = false := by simpa using hp
              have hpc : (qp == k) = true := by simpa using hp
              have HC := Lib.hid (show keepB kind k ⟨qv, qm, qp, qs, false⟩ = false from by
                unfold keepB
                simp [k0, hp])
              clear hp k0 k1
              have HE := Lib.hid (show (d.l.take (j + 1)).filter (keepB kind k) = (d.l.take j).filter (keepB kind k) from HTK.out false (HC.out))
              go_wp2_with fail
              go_roundw
              case rel =>
                rw [HJ.out]
                exact ⟨j + 1, m1, A1, c1, HLT.out, by rw [Int.natCast_add]; rfl, rfl, Lib.hid ⟨by rw [HE.out]; exact HS.out.1, by rw [HE.out]; exact World.ownsRow.alloc HS.out.2.1 _, HB2.out⟩⟩
              case measure =>
                rw [HJ.out]
                show n - ((j : Int) + 1).toNat < n - ((j : Int)).toNat
                have := HLT.out
                omega
            · have hpb : (qp != k) = true := by simpa using hp
              have hpc : (qp == k) = false := by simpa using hp
              have HC := Lib.hid (show keepB kind k ⟨qv, qm, qp, qs, false⟩ = true from by
                unfold keepB
                simp [k1, hp])
              clear hp k0 k1
              have HE := Lib.hid (show (d.l.take (j + 1)).filter (keepB kind k) = (d.l.take j).filter (keepB kind k) ++ [⟨qv, qm, qp, qs, false⟩] from HTK.out true (HC.out))
              go_wp2_with (at_builtin; refine Lib.wpList_append_run _ rfl _ _ _ _ rfl _ _ rfl rfl _ _ HRUN.out ?_)
              go_roundw
              case rel =>
                rw [HJ.out]
                exact ⟨j + 1, m1 + 1, a', c', HLT.out, by rw [Int.natCast_add]; rfl, rfl, Lib.hid ⟨by rw [HE.out, List.length_append, HS.out.1]; rfl, by rw [HE.out]; exact HFR.out.1, HFR.out.2⟩⟩
              case measure =>
                rw [HJ.out]
                show n - ((j : Int) + 1).toNat < n - ((j : Int)).toNat
                have := HLT.out
                omega
          · have k1b : (kind == 1) = false := by simpa using k1
            have HC := Lib.hid (show keepB kind k ⟨qv, qm, qp, qs, false⟩ = false from by
              unfold keepB
              simp [k0, k1])
            clear k0 k1
            have HE := Lib.hid (show (d.l.take (j + 1)).filter (keepB kind k) = (d.l.take j).filter (keepB kind k) from HTK.out false (HC.out))
            go_wp2_with fail
            go_roundw
            case rel =>
              rw [HJ.out]
              exact ⟨j + 1, m1, A1, c1, HLT.out, by rw [Int.natCast_add]; rfl, rfl, Lib.hid ⟨by rw [HE.out]; exact HS.out.1, by rw [HE.out]; exact World.ownsRow.alloc HS.out.2.1 _, HB2.out⟩⟩
            case measure =>
              rw [HJ.out]
              show n - ((j : Int) + 1).toNat < n - ((j : Int)).toNat
              have := HLT.out
              omega
    · obtain rfl : n = j := by omega
      clear hj hlt
      have hfil : (d.l.take n).filter (keepB kind k) = (keepD d kind k).l := by
        rw [← HH.out.2.1, List.take_length]
        rfl
      have hkk := HH.out.1.blk.below HS.out.2.2 (HH.out.1.lo g HH.out.1.fg).2
      have g6 := hkk.cell 0
      have f6 := hkk.frozen 0
      have hf := put_fin HH.out.1 (below_touch HS.out.2.2 F) hkk HS.out.2.1 (n := m1) HS.out.1.symm
      rw [hfil] at hf
      have HF := Lib.hid hf
      clear hfil hkk hf
      go_wp2_with fail
      exact bodyPost_end (results_none rfl _ _ _) rfl ⟨rfl, HF.out.2, A1, c1, HF.out.1⟩
end Go.Proofs.Ytocahiifeckogaa
