/- Can a place be; which was seen first (layer 18). Its condition: at most 2^20 places. -/
import Derived.Test.YtnhnllkcnpbgoaaFgTab
import Derived.Test.YtnhnllkcnpbgoaaAddr
import Derived.BigQuiet
namespace Go.Proofs.Ytnhnllkcnpbgoaa
open Go.RowKit
set_option maxRecDepth 100000

set_option maxHeartbeats 4000000 in
theorem pgood_any (x : Pl) (w : World) : Calls Try.prog 32 #[.agg #[.int .i64 x.v, .int .i64 x.m, .int .i64 x.p, .int .i64 x.s, .bool x.st]] w fun e w' => e = .returned (.bool (decide (fineP x.v x.m x.p))) ∧ Below w.heap.size w w' := by
  obtain ⟨v, m, p, s, t⟩ := x
  have HB := Lib.hid (bel_alloc w (.cells #[.int .i64 v, .int .i64 m, .int .i64 p, .int .i64 s, .bool t] 49))
  show Calls _ _ #[.agg #[.int .i64 v, .int .i64 m, .int .i64 p, .int .i64 s, .bool t]] w fun e w' => e = .returned (.bool (decide (fineP v m p))) ∧ Below w.heap.size w w'
  have HV := Lib.hid (fun w => vid_any v w)
  have HG := Lib.hid (fun w => good_any m w)
  have HM := Lib.hid (fun w => many_any m w)
  obtain ⟨r, hr⟩ : ∃ r, decide (fineP v m p) = r := ⟨_, rfl⟩
  rw [hr]
  by_cases h1 : 1 ≤ v ∧ v ≤ 4094
  · rw [show vidB v = true from decide_eq_true h1] at HV
    by_cases h3 : 0 ≤ m ∧ m ≤ 281474976710655
    · rw [goodB_t h3.1 h3.2] at HG
      by_cases h4 : m / 1099511627776 % 2 = 1
      · rw [show manyB m = true from decide_eq_true ⟨h3.1, h3.2, h4⟩] at HM
        have HE := Lib.hid (show r = false from hr.symm.trans (decide_eq_false (fun c => c.2.1.2.2 h4)))
        clear h1 h3 h4 hr
        go_enter Try.func32, Try.ntmps32
        go_wp2_with (first
          | (go_at_call 28; refine (HV.out _).mono ?_; rintro e w' ⟨rfl, rfl⟩)
          | (go_at_call 20; refine (HG.out _).mono ?_; rintro e w' ⟨rfl, rfl⟩)
          | (go_at_call 21; refine (HM.out _).mono ?_; rintro e w' ⟨rfl, rfl⟩))
        go_ret
        exact ⟨ret_bool (by (try rw [HE.out]); (first | done | rfl | (simp; omega))), HB.out⟩
      · rw [show manyB m = false from decide_eq_false (fun c => h4 c.2.2)] at HM
        by_cases h5 : 0 ≤ p
        · by_cases h6 : p < 6
          · have HE := Lib.hid (show r = true from hr.symm.trans (decide_eq_true ⟨h1, ⟨h3.1, h3.2, h4⟩, h5, by omega⟩))
            clear h1 h3 h4 hr
            go_enter Try.func32, Try.ntmps32
            go_wp2_with (first
              | (go_at_call 28; refine (HV.out _).mono ?_; rintro e w' ⟨rfl, rfl⟩)
              | (go_at_call 20; refine (HG.out _).mono ?_; rintro e w' ⟨rfl, rfl⟩)
              | (go_at_call 21; refine (HM.out _).mono ?_; rintro e w' ⟨rfl, rfl⟩))
            go_ret
            exact ⟨ret_bool (by (try rw [HE.out]); (first | done | rfl | (simp; omega))), HB.out⟩
          · have HE := Lib.hid (show r = false from hr.symm.trans (decide_eq_false (fun c => h6 (by have := c.2.2.2; omega))))
            clear h1 h3 h4 hr
            go_enter Try.func32, Try.ntmps32
            go_wp2_with (first
              | (go_at_call 28; refine (HV.out _).mono ?_; rintro e w' ⟨rfl, rfl⟩)
              | (go_at_call 20; refine (HG.out _).mono ?_; rintro e w' ⟨rfl, rfl⟩)
              | (go_at_call 21; refine (HM.out _).mono ?_; rintro e w' ⟨rfl, rfl⟩))
            go_ret
            exact ⟨ret_bool (by (try rw [HE.out]); (first | done | rfl | (simp; omega))), HB.out⟩
        · have HE := Lib.hid (show r = false from hr.symm.trans (decide_eq_false (fun c => h5 c.2.2.1)))
          clear h1 h3 h4 hr
          go_enter Try.func32, Try.ntmps32
          go_wp2_with (first
            | (go_at_call 28; refine (HV.out _).mono ?_; rintro e w' ⟨rfl, rfl⟩)
            | (go_at_call 20; refine (HG.out _).mono ?_; rintro e w' ⟨rfl, rfl⟩)
            | (go_at_call 21; refine (HM.out _).mono ?_; rintro e w' ⟨rfl, rfl⟩))
          go_ret
          exact ⟨ret_bool (by (try rw [HE.out]); (first | done | rfl | (simp; omega))), HB.out⟩
    · rw [goodB_f h3] at HG
      have HE := Lib.hid (show r = false from hr.symm.trans (decide_eq_false (fun c => h3 ⟨c.2.1.1, c.2.1.2.1⟩)))
      clear h1 h3 hr
      go_enter Try.func32, Try.ntmps32
      go_wp2_with (first
        | (go_at_call 28; refine (HV.out _).mono ?_; rintro e w' ⟨rfl, rfl⟩)
        | (go_at_call 20; refine (HG.out _).mono ?_; rintro e w' ⟨rfl, rfl⟩)
        | (go_at_call 21; refine (HM.out _).mono ?_; rintro e w' ⟨rfl, rfl⟩))
      go_ret
      exact ⟨ret_bool (by (try rw [HE.out]); (first | done | rfl | (simp; omega))), HB.out⟩
  · rw [show vidB v = false from decide_eq_false h1] at HV
    have HE := Lib.hid (show r = false from hr.symm.trans (decide_eq_false (fun c => h1 c.1)))
    clear h1 hr
    go_enter Try.func32, Try.ntmps32
    go_wp2_with (first
      | (go_at_call 28; refine (HV.out _).mono ?_; rintro e w' ⟨rfl, rfl⟩)
      | (go_at_call 20; refine (HG.out _).mono ?_; rintro e w' ⟨rfl, rfl⟩)
      | (go_at_call 21; refine (HM.out _).mono ?_; rintro e w' ⟨rfl, rfl⟩))
    go_ret
    exact ⟨ret_bool (by (try rw [HE.out]); (first | done | rfl | (simp; omega))), HB.out⟩
/-- The place that was seen first, in a row that is in order. -/
def frs (l : List Pl) : Nat → Int
  | 0 => -1
  | k + 1 => if (l.getD k pl0).st = false ∧ (frs l k = -1 ∨ (l.getD k pl0).s < (l.getD (frs l k).toNat pl0).s) then k else frs l k
theorem frs_old {l : List Pl} (hs : Srt l) (k : Nat) (hk : k ≤ l.length) : frs l k = oldTo l k := by
  induction k with
  | zero => rfl
  | succ k ih =>
    have ih := ih (by omega)
    have ho := old_in l k
    unfold frs oldTo
    rw [ih]
    have he : ((l.getD k pl0).st = false ∧ (oldTo l k = -1 ∨ (l.getD k pl0).s < (l.getD (oldTo l k).toNat pl0).s)) ↔ ((l.getD k pl0).st = false ∧ (oldTo l k < 0 ∨ ltS (l.getD k pl0) (l.getD (oldTo l k).toNat pl0))) := by
      by_cases c : oldTo l k < 0
      · have c1 : oldTo l k = -1 := by omega
        exact ⟨fun h => ⟨h.1, .inl c⟩, fun h => ⟨h.1, .inl c1⟩⟩
      · have c1 : ¬ oldTo l k = -1 := by omega
        have h1 := List.pairwise_iff_getElem.1 hs (oldTo l k).toNat k (by omega) (by omega) (by omega)
        rw [← getD_get (by omega), ← getD_get (by omega)] at h1
        unfold ltS
        unfold ltK at h1
        constructor
        · rintro ⟨a, b | b⟩
          · omega
          · exact ⟨a, .inr (.inl b)⟩
        · rintro ⟨a, b | b | b⟩
          · omega
          · exact ⟨a, .inr b⟩
          · omega
    by_cases c : (l.getD k pl0).st = false ∧ (oldTo l k = -1 ∨ (l.getD k pl0).s < (l.getD (oldTo l k).toNat pl0).s)
    · rw [if_pos c, if_pos (he.1 c)]
    · rw [if_neg c, if_neg (fun q => c (he.2 q))]
theorem frs_in (l : List Pl) (k : Nat) : frs l k = -1 ∨ ∃ j : Nat, frs l k = j ∧ j < k := by
  induction k with
  | zero => exact .inl rfl
  | succ k ih =>
    unfold frs
    split
    · exact .inr ⟨k, rfl, by omega⟩
    · rcases ih with h | ⟨j, h, hj⟩
      · exact .inl h
      · exact .inr ⟨j, h, by omega⟩
theorem frs_yes {l : List Pl} {k : Nat} (h : (l.getD k pl0).st = false) (h2 : frs l k = -1 ∨ (l.getD k pl0).s < (l.getD (frs l k).toNat pl0).s) : frs l (k + 1) = k := if_pos ⟨h, h2⟩
theorem frs_no {l : List Pl} {k : Nat} (h : ¬ ((l.getD k pl0).st = false ∧ (frs l k = -1 ∨ (l.getD k pl0).s < (l.getD (frs l k).toNat pl0).s))) : frs l (k + 1) = frs l k := if_neg h
set_option maxHeartbeats 8000000 in
theorem first_any {w : World} {B g c : Nat} {F : Nat → Prop} {s : Dt} {A : Option Addr} (h : PtAt w B F g s A c) (hn : s.l.length ≤ 1048000) :
    Calls Try.prog 37 #[.pointer (some ⟨g, 0, none⟩)] w fun e w' => e = .returned (.int .i64 (frs s.l s.l.length)) ∧ Below w.heap.size w w' := by
  have H := Lib.hid h
  have c0 : w.cell? ⟨g, 0, none⟩ = some (.slice A s.l.length c) := h.blk.cell 0
  obtain ⟨n, hnn⟩ : ∃ n, s.l.length = n := ⟨_, rfl⟩
  have HN := Lib.hid hnn
  have HNN := Lib.hid hn
  rw [hnn] at c0 ⊢
  clear h hn hnn
  go_enter Try.func37, Try.ntmps37
  go_wp2_with fail
  go_loopw [3, 11] (fun fv iv wr => ∃ j : Nat, j ≤ n ∧ iv = .int .i64 j ∧ fv = .int .i64 (frs s.l j) ∧ Hid (Below w.heap.size w wr)) (fun _ iv _ => n - (intOf iv).toNat)
  case atStart => exact ⟨0, Nat.zero_le _, rfl, rfl, Lib.hid (Below.refl _ _)⟩
  case round =>
    obtain ⟨j, hj, rfl, rfl, hB⟩ := hrel
    by_cases hlt : j < n
    · obtain ⟨b, off, rfl, hbl, p⟩ := (H.out.below hB.out).cell j (by rw [HN.out]; exact hlt)
      obtain ⟨x, hx⟩ : ∃ x, s.l.getD j pl0 = x := ⟨_, rfl⟩
      rw [hx] at p
      obtain ⟨x0, x1, x2, x3, x4⟩ := x
      have p0 : wr.cell? ⟨b, off + j * 5, none⟩ = some (.int .i64 x0) := p.c0
      have p1 : wr.cell? ⟨b, off + j * 5 + 1, none⟩ = some (.int .i64 x1) := p.c1
      have p2 : wr.cell? ⟨b, off + j * 5 + 2, none⟩ = some (.int .i64 x2) := p.c2
      have p3 : wr.cell? ⟨b, off + j * 5 + 3, none⟩ = some (.int .i64 x3) := p.c3
      have p4 : wr.cell? ⟨b, off + j * 5 + 4, none⟩ = some (.bool x4) := p.c4
      have hal := bel_alloc wr (.cells #[.int .i64 x0, .int .i64 x1, .int .i64 x2, .int .i64 x3, .bool x4] 49)
      have zx := Blk.new wr 49 #[.int .i64 x0, .int .i64 x1, .int .i64 x2, .int .i64 x3, .bool x4]
      have hB2 := hB.out.trans (hal.mono hB.out.size)
      have j1 : (j : Int) < n := by omega
      have j0 : (0 : Int) ≤ j := by omega
      have HJ := Lib.hid (show wrap64 ((j : Int) + 1) = (j : Int) + 1 from IntWalk.wrap64_in _ (by have := HNN.out; have := HN.out; omega))
      have HX := Lib.hid hx
      have HB2 := Lib.hid hB2
      have HAL := Lib.hid (And.intro hal zx)
      cases x4 with
      | true =>
        have HS := Lib.hid (frs_no (l := s.l) (k := j) (fun q => by rw [hx] at q; exact Bool.noConfusion q.1))
        clear p hx hal zx hB2 hbl
        go_wp2_with fail
        go_quiet (fail)
        go_wp2_with fail
        go_roundw
        case rel =>
          rw [HJ.out]
          exact ⟨j + 1, hlt, by rw [Int.natCast_add]; rfl, by rw [HS.out], Lib.hid (bel_drewN HB2.out _)⟩
        case measure =>
          rw [HJ.out]
          show n - ((j : Int) + 1).toNat < n - ((j : Int)).toNat
          omega
      | false =>
        rcases frs_in s.l j with hf | ⟨i, hf, hij⟩
        · have HS := Lib.hid (frs_yes (l := s.l) (k := j) (by rw [hx]) (.inl hf))
          rw [hf]
          clear p hx hal zx hB2 hbl hf
          go_wp2_with fail
          go_quiet (fail)
          go_wp2_with fail
          go_roundw
          case rel =>
            rw [HJ.out]
            exact ⟨j + 1, hlt, by rw [Int.natCast_add]; rfl, by rw [HS.out], Lib.hid (bel_drewN HB2.out _)⟩
          case measure =>
            rw [HJ.out]
            show n - ((j : Int) + 1).toNat < n - ((j : Int)).toNat
            omega
        · obtain ⟨b', off', eb, hbl', r⟩ := (H.out.below hB.out).cell i (by rw [HN.out]; omega)
          injection eb with eb
          injection eb with eb1 eb2
          subst eb1 eb2
          have r3 : wr.cell? ⟨b, off + i * 5 + 3, none⟩ = some (.int .i64 (s.l.getD i pl0).s) := r.c3
          obtain ⟨y, hy⟩ : ∃ y, (s.l.getD i pl0).s = y := ⟨_, rfl⟩
          rw [hy] at r3
          have e3 := (hal.cell (p := ⟨b, off + i * 5 + 3, none⟩) hbl).trans r3
          have e0 : (wr.alloc (.cells #[.int .i64 x0, .int .i64 x1, .int .i64 x2, .int .i64 x3, .bool false] 49)).cell? ⟨g, 0, none⟩ = some (.slice (some ⟨b, off, none⟩) n c) := by
            have h1 := ((H.out.below hB.out).below hal).blk.cell 0
            rw [HN.out] at h1
            exact h1
          have z3 : (wr.alloc (.cells #[.int .i64 x0, .int .i64 x1, .int .i64 x2, .int .i64 x3, .bool false] 49)).cell? ⟨wr.heap.size, 3, none⟩ = some (.int .i64 x3) := zx.cell 3
          have z4 : (wr.alloc (.cells #[.int .i64 x0, .int .i64 x1, .int .i64 x2, .int .i64 x3, .bool false] 49)).cell? ⟨wr.heap.size, 4, none⟩ = some (.bool false) := zx.cell 4
          have i0 : (0 : Int) ≤ i := by omega
          have i1 : (i : Int) < n := by omega
          have i2 : ((i : Int) == -1) = false := by rw [beq_eq_false_iff_ne]; omega
          by_cases hc : x3 < y
          · have HS := Lib.hid (frs_yes (l := s.l) (k := j) (by rw [hx]) (.inr (by rw [hx, hf]; show x3 < (s.l.getD i pl0).s; rw [hy]; exact hc)))
            rw [hf]
            clear p hx hal zx hB2 hbl hf r r3 hy hbl' hij
            go_wp2_with fail
            go_quiet (fail)
            go_wp2_with fail
            go_roundw
            case rel =>
              rw [HJ.out]
              exact ⟨j + 1, hlt, by rw [Int.natCast_add]; rfl, by rw [HS.out], Lib.hid (bel_drewN HB2.out _)⟩
            case measure =>
              rw [HJ.out]
              show n - ((j : Int) + 1).toNat < n - ((j : Int)).toNat
              omega
          · have HS := Lib.hid ((frs_no (l := s.l) (k := j) (fun q => by
              rcases q.2 with q | q
              · omega
              · rw [hx, hf] at q
                have q : x3 < (s.l.getD i pl0).s := q
                rw [hy] at q
                exact hc q)).trans hf)
            have hc2 : decide (x3 < y) = false := decide_eq_false hc
            rw [hf]
            clear p hx hal zx hB2 hbl hf r r3 hy hbl' hij
            go_wp2_with fail
            go_quiet (fail)
            go_wp2_with fail
            go_roundw
            case rel =>
              rw [HJ.out]
              exact ⟨j + 1, hlt, by rw [Int.natCast_add]; rfl, by rw [HS.out], Lib.hid (bel_drewN HB2.out _)⟩
            case measure =>
              rw [HJ.out]
              show n - ((j : Int) + 1).toNat < n - ((j : Int)).toNat
              omega
    · obtain rfl : n = j := by omega
      have HS := Lib.hid (show frs s.l n = frs s.l s.l.length by rw [HN.out])
      have n1 : ¬ (n : Int) < n := by omega
      clear hj hlt
      go_wp2_with fail
      go_ret
      exact ⟨ret_i64 rfl, hB.out⟩
end Go.Proofs.Ytnhnllkcnpbgoaa
