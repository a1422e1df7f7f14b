/- When a key's timer is due; is a timer late; the first that is. Its condition: fewer than 2^20 timers. -/
import Derived.Test.YtogghcbijdljkaaWset
namespace Go.Proofs.Ytogghcbijdljkaa
open Go.RowKit
set_option maxRecDepth 100000

set_option maxHeartbeats 2000000 in
theorem due_any (g : Nat) (l : List Tm) (key : Int) (w : World) (h : WheelAt w g l) :
    Calls Try.prog 24 #[.pointer (some ⟨g, 0, none⟩), .int .i64 key] w fun e w' => e = .returned (.int .i64 (dueT l key)) ∧ Below w.heap.size w w' := by
  have HF := Lib.hid (find_any g l key w h)
  have hup := h.up
  obtain ⟨A, c, hb, ho⟩ := h.row
  obtain ⟨d, hdd⟩ : ∃ d, dueT l key = d := ⟨_, rfl⟩
  rw [hdd]
  have HDD := Lib.hid hdd
  clear hdd
  go_enter Try.func24, Try.ntmps24
  go_wp2_with fail
  refine HF.out.mono ?_
  rintro e w1 ⟨k, hk, rfl, b1⟩
  have hd := due_at hup hk
  rw [HDD.out] at hd
  by_cases hex : k < l.length ∧ (l.getD k tm0).key = key
  · rw [if_pos hex] at hd
    rw [decide_eq_true hex]
    have hb1 : Blk w1 g 74 #[.slice A l.length c] := hb.below b1 hb.lt
    obtain ⟨b, off, e, hbl, p0, _⟩ := ho.at_ k hex.1
    subst e
    have q0 : w1.cell? ⟨b, off + k * 2, none⟩ = some (.int .i64 (l.getD k tm0).due) := (b1.cell (p := ⟨b, off + k * 2, none⟩) hbl).trans p0
    rw [← hd] at q0
    have c0 := hb1.cell 0
    obtain ⟨n, hnn⟩ : ∃ n, l.length = n := ⟨_, rfl⟩
    have k1 : (k : Int) < n := by omega
    have k0 : (0 : Int) ≤ k := by omega
    rw [hnn] at c0
    have HB := Lib.hid b1
    clear hd hex hb hb1 hbl p0 hk hnn b1 HF h ho hup HDD
    go_wp2_with fail
    go_ret
    exact ⟨rfl, HB.out⟩
  · rw [if_neg hex] at hd
    rw [decide_eq_false hex]
    have HB := Lib.hid b1
    have HD := Lib.hid hd
    clear hd hex hk b1 HF h ho hup hb HDD
    go_wp2_with fail
    go_ret
    exact ⟨ret_i64 HD.out.symm, HB.out⟩
/-- Is it late? -/
def lateB (now : Int) (t : Tm) : Bool := decide (t.due ≤ now)
set_option maxHeartbeats 1000000 in
theorem late_any (bn : Nat) (now : Int) (t : Tm) (w : World) (h : w.cell? ⟨bn, 0, none⟩ = some (.int .i64 now)) (hb : bn < w.heap.size) :
    Calls Try.prog 41 #[.agg #[.int .i64 t.due, .int .i64 t.key], .pointer (some ⟨bn, 0, none⟩)] w fun e w' => e = .returned (.bool (lateB now t)) ∧ Below w.heap.size w w' := by
  obtain ⟨d, k⟩ := t
  obtain ⟨r, hr⟩ : ∃ r, lateB now ⟨d, k⟩ = r := ⟨_, rfl⟩
  rw [hr]
  have hr' : decide (d ≤ now) = r := hr
  have HR := Lib.hid hr'
  have q : (w.alloc (.cells #[.int .i64 d, .int .i64 k] 46)).cell? ⟨bn, 0, none⟩ = some (.int .i64 now) := (World.cell?_of_block (Below.heap_alloc w _ bn hb)).trans h
  clear hr hr' h hb
  go_enter Try.func41, Try.ntmps41
  go_wp2_with fail
  go_ret
  exact ⟨ret_bool HR.out, (Below.refl _ w).alloc (Nat.le_refl _) _⟩
theorem eg_late : ∀ args w, (callFunc 41 args).run Try.prog w = .ok (.enter 41 args) w := enters_of Try.func41 (by kernel_rfl) rfl
/-- The place of the first that is late; none: as many as there are. -/
def firstL (now : Int) (l : List Tm) : Nat := (l.takeWhile fun t => !lateB now t).length
theorem first_stop (now : Int) (l : List Tm) (j : Nat) (hj : j ≤ l.length) (h : ∀ i, i < j → lateB now (l.getD i tm0) = false) (he : j < l.length → lateB now (l.getD j tm0) = true) : firstL now l = j := by
  induction l generalizing j with
  | nil => simp at hj; subst hj; rfl
  | cons a l ih =>
    cases j with
    | zero =>
      have := he (by simp)
      simp only [List.getD_cons_zero] at this
      simp [firstL, this]
    | succ j =>
      have h0 := h 0 (by omega)
      simp only [List.getD_cons_zero] at h0
      have := ih j (by simpa using hj) (fun r hr => by simpa using h (r + 1) (by omega)) (fun hlt => by simpa using he (by simpa using hlt))
      simp only [firstL] at this ⊢
      simp [h0, this]
def idxL (now : Int) (l : List Tm) : Int := if firstL now l < l.length then (firstL now l : Int) else -1
set_option maxHeartbeats 2000000 in
theorem index_late (A : Option Addr) (c : Nat) (l : List Tm) (bn : Nat) (now : Int) (w : World) (hA : TmAt w w.heap.size A l) (hn : l.length ≤ 1048000) (hc : w.cell? ⟨bn, 0, none⟩ = some (.int .i64 now)) (hb : bn < w.heap.size) :
    Calls Try.prog 59 #[.slice A l.length c, .func (.func 41) #[] #[.pointer (some ⟨bn, 0, none⟩)]] w fun e w' =>
      e = .returned (.int .i64 (idxL now l)) ∧ Below w.heap.size w w' := by
  obtain ⟨n, hnn⟩ : ∃ n, l.length = n := ⟨_, rfl⟩
  rw [hnn]
  obtain ⟨ix, hix⟩ : ∃ ix, idxL now l = ix := ⟨_, rfl⟩
  rw [hix]
  have HIX := Lib.hid (show (if firstL now l < n then (firstL now l : Int) else -1) = ix by rw [← hix, ← hnn]; rfl)
  clear hix
  have HN := Lib.hid hnn
  have HN5 := Lib.hid hn
  have HA := Lib.hid hA
  have HC := Lib.hid (And.intro hc hb)
  clear hnn hn hA hc hb
  go_enter Try.func59, Try.ntmps59
  go_wp2_with fail
  go_loopw [8] (fun i wr => ∃ j : Nat, j ≤ n ∧ i = .int .i64 j ∧ Hid (∀ r, r < j → lateB now (l.getD r tm0) = false) ∧ Hid (Below w.heap.size w wr)) (fun i _ => n - (intOf i).toNat)
  case atStart => exact ⟨0, Nat.zero_le _, rfl, Lib.hid (fun r hr => absurd hr (Nat.not_lt_zero _)), Lib.hid (Below.refl _ _)⟩
  case round =>
    obtain ⟨j, hj, rfl, hf, hB⟩ := hrel
    by_cases hlt : j < n
    · obtain ⟨b, off, eb, hbl, p0, p1⟩ := HA.out j (by rw [HN.out]; exact hlt)
      subst eb
      obtain ⟨x, hx⟩ : ∃ x, l.getD j tm0 = x := ⟨_, rfl⟩
      rw [hx] at p0 p1
      have q0 : wr.cell? ⟨b, off + j * 2, none⟩ = some (.int .i64 x.due) := (hB.out.cell (p := ⟨b, off + j * 2, none⟩) hbl).trans p0
      have q1 : wr.cell? ⟨b, off + j * 2 + 1, none⟩ = some (.int .i64 x.key) := (hB.out.cell (p := ⟨b, off + j * 2 + 1, none⟩) hbl).trans p1
      have hcl := late_any bn now x wr ((hB.out.cell (p := ⟨bn, 0, none⟩) HC.out.2).trans HC.out.1) (Nat.lt_of_lt_of_le HC.out.2 hB.out.size)
      have HX := Lib.hid hx
      have j1 : (j : Int) < n := by omega
      have j0 : (0 : Int) ≤ j := by omega
      have HJ := Lib.hid (show wrap64 ((j : Int) + 1) = (j : Int) + 1 from IntWalk.wrap64_in _ (by have := HN5.out; have := HN.out; omega))
      clear p0 p1 hbl hx hj
      cases hlb : lateB now x with
      | true =>
        rw [hlb] at hcl
        have HCL := Lib.hid hcl
        have hst := first_stop now l j (by rw [HN.out]; omega) hf.out (fun _ => by rw [HX.out]; exact hlb)
        have HST := Lib.hid (show (j : Int) = ix by rw [← HIX.out, hst, if_pos hlt])
        clear hcl hlb hst
        go_wp2_with fail
        refine HCL.out.mono ?_
        rintro e w2 ⟨rfl, b2⟩
        go_wp2_with fail
        go_ret
        exact ⟨ret_i64 HST.out, hB.out.trans (b2.mono hB.out.size)⟩
      | false =>
        rw [hlb] at hcl
        have HCL := Lib.hid hcl
        have HL := Lib.hid hlb
        have jw := HJ.out
        clear hcl hlb
        go_wp2_with fail
        refine HCL.out.mono ?_
        rintro e w2 ⟨rfl, b2⟩
        go_wp2_with fail
        go_roundw
        case rel =>
          rw [jw]
          refine ⟨j + 1, hlt, by rw [Int.natCast_add]; rfl, Lib.hid (fun r hr => ?_), Lib.hid (hB.out.trans (b2.mono hB.out.size))⟩
          by_cases e : r = j
          · subst e; rw [HX.out]; exact HL.out
          · exact hf.out r (by omega)
        case measure =>
          rw [jw]
          show n - ((j : Int) + 1).toNat < n - ((j : Int)).toNat
          omega
    · obtain rfl : n = j := by omega
      have hst := first_stop now l n (by rw [HN.out]; exact Nat.le_refl _) hf.out (fun h => absurd h (by rw [HN.out]; omega))
      have HST := Lib.hid (show (-1 : Int) = ix by rw [← HIX.out, hst, if_neg (Nat.lt_irrefl _)])
      clear hst hj hlt
      go_wp2_with fail
      go_ret
      exact ⟨ret_i64 HST.out, hB.out⟩
end Go.Proofs.Ytogghcbijdljkaa
