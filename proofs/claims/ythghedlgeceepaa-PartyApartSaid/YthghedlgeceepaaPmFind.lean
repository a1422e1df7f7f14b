/- Where an attribute is among a port's slots, or would be: the library's search by halves. Its condition: fewer than 2^20 slots. -/
import Derived.Test.YthghedlgeceepaaPmRow
import Derived.Test.YthghedlgeceepaaMrAsk
import Derived.Deep.RegionHeld3
import Derived.Deep.RegionLaw
import Derived.Shelf.Abstract
import Derived.Deep.LoopGhost
import Derived.Deep.Draws
namespace Go.Proofs.Ythghedlgeceepaa
open Go.RowKit
set_option maxRecDepth 100000

/-- A slot ahead of an attribute; that attribute's slot. -/
def aheadQ (t v : Int) (x : Qs) : Bool := lessB x.s.t x.s.v t v
theorem cmpA_lt (t v t' v' : Int) : decide (cmpA t v t' v' < 0) = lessB t v t' v' := by
  have h := cmpA_less t v t' v'
  by_cases h1 : cmpA t v t' v' < 0
  · rw [decide_eq_false (by omega)] at h
    rw [decide_eq_true h1]
    cases hb : lessB t v t' v' with
    | true => rfl
    | false => rw [hb] at h; cases h
  · rw [decide_eq_true (by omega)] at h
    rw [decide_eq_false h1]
    cases hb : lessB t v t' v' with
    | false => rfl
    | true => rw [hb] at h; cases h
theorem cmpA_eq (t v t' v' : Int) : (cmpA t v t' v' == 0) = decide (t = t' ∧ v = v') := by
  unfold cmpA orI cmpI
  by_cases h : t < t'
  · have h2 : ¬ t = t' := by omega
    simp [h, h2]
  · by_cases h2 : t = t'
    · subst h2
      by_cases h3 : v < v'
      · have h4 : ¬ v = v' := by omega
        simp [h3, h4]
      · by_cases h4 : v' < v
        · have h5 : ¬ v = v' := by omega
          simp [h3, h4, h5]
        · have h5 : v = v' := by omega
          simp [h5]
    · have h3 : t' < t := by omega
      simp [h, h2, h3]
set_option maxHeartbeats 2000000 in
theorem ask_any (x : Qs) (t v : Int) (w : World) :
    Calls Try.prog 77 #[x.val, .agg #[.int .i64 t, .int .i64 v]] w fun e w' => e = .returned (.int .i64 (cmpA x.s.t x.s.v t v)) ∧ Below w.heap.size w w' := by
  have HB := Lib.hid (bel_alloc2 w (.cells #[.int .i64 x.s.t, .int .i64 x.s.v, .pointer (some ⟨x.r, 0, none⟩), .pointer (some ⟨x.a, 0, none⟩)] 67) (.cells #[.int .i64 t, .int .i64 v] 29))
  have HC := Lib.hid (fun W => compare_any x.s.t x.s.v t v W)
  unfold Qs.val
  obtain ⟨cc, hcc⟩ : ∃ cc, cmpA x.s.t x.s.v t v = cc := ⟨_, rfl⟩
  rw [hcc] at HC ⊢
  clear hcc
  go_enter Try.func77, Try.ntmps77
  go_wp2_with fail
  refine (HC.out _).mono ?_
  rintro e w1 ⟨rfl, b1⟩
  go_wp2_with fail
  go_ret
  exact ⟨rfl, HB.out.trans (b1.mono (by simp; omega))⟩
theorem eg_ask : ∀ args w, (callFunc 77 args).run Try.prog w = .ok (.enter 77 args) w := enters_of Try.func77 (by kernel_rfl) rfl
/-- Where an attribute is, or would be, and whether it is there. -/
structure AtQ (l : List Qs) (t v : Int) (k : Nat) : Prop where
  le : k ≤ l.length
  lo : k = 0 ∨ aheadQ t v (l.getD (k - 1) qs0) = true
  hi : k = l.length ∨ aheadQ t v (l.getD k qs0) = false
def hereQ (l : List Qs) (t v : Int) (k : Nat) : Bool := decide (k < l.length) && decide ((l.getD k qs0).s.t = t ∧ (l.getD k qs0).s.v = v)
/-- What the search knows of memory: the slots, the box of what is asked for. -/
structure Find (w : World) (A : Option Addr) (l : List Qs) (t v : Int) (wr : World) : Prop where
  bel : Below w.heap.size w wr
  box : Blk wr w.heap.size 29 #[.int .i64 t, .int .i64 v]
theorem half_wrap (lo hi : Nat) (h : lo + hi ≤ 4000000) : IntKind.i64.wrap (IntKind.u64.wrap (wrap64 ((lo : Int) + (hi : Int))) / 2) = (((lo + hi) / 2 : Nat) : Int) := by
  rw [IntWalk.wrap64_in _ (by omega), IntKind.wrap_u64, Int.emod_eq_of_lt (by omega) (by omega), IntWalk.i64_in _ (by omega)]
  omega
set_option maxHeartbeats 8000000 in
theorem bsearch_any (A : Option Addr) (c : Nat) (l : List Qs) (t v : Int) (w : World) (hA : KpAt w w.heap.size A l) (hn : l.length ≤ 1048000) :
    Calls Try.prog 76 #[.slice A l.length c, .agg #[.int .i64 t, .int .i64 v], .func (.func 77) #[] #[]] w fun e w' =>
      ∃ k : Nat, AtQ l t v k ∧ e = .returned (.tuple #[.int .i64 (k : Int), .bool (hereQ l t v k)]) ∧ Below w.heap.size w w' := by
  obtain ⟨n, hnn⟩ : ∃ n, l.length = n := ⟨_, rfl⟩
  have HN := Lib.hid hnn
  have HF0 := Lib.hid (show Find w A l t v (w.alloc (.cells #[.int .i64 t, .int .i64 v] 29)) from ⟨bel_alloc w _, Blk.new w _ _⟩)
  have HA := Lib.hid hA
  rw [hnn] at hn ⊢
  have HNN := Lib.hid hn
  clear hA hnn hn
  go_enter Try.func76, Try.ntmps76
  go_wp2_with fail
  go_loopg [9, 10] n (fun kx s5 s6 wr => ∃ (lo hi : Nat), s5 = .int .i64 lo ∧ s6 = .int .i64 hi ∧ lo ≤ hi ∧ hi ≤ n ∧ hi - lo ≤ kx ∧ Hid (Find w A l t v wr) ∧
    Aside ((lo = 0 ∨ aheadQ t v (l.getD (lo - 1) qs0) = true) ∧ (hi = n ∨ aheadQ t v (l.getD hi qs0) = false)))
  case atStart => exact ⟨0, n, rfl, rfl, Nat.zero_le _, Nat.le_refl _, by omega, HF0, .inl rfl, .inl rfl⟩
  case round =>
    obtain ⟨lo, hi, rfl, rfl, hlh, hin, hg, HF, I⟩ := hrel
    by_cases hlt : lo < hi
    · obtain ⟨m, hm⟩ : ∃ m, (lo + hi) / 2 = m := ⟨_, rfl⟩
      have hmn : m < n := by omega
      obtain ⟨b, off, rfl, hbl, kc⟩ := HA.out m (by rw [HN.out]; exact hmn)
      obtain ⟨x, hx⟩ : ∃ x, l.getD m qs0 = x := ⟨_, rfl⟩
      rw [hx] at kc
      have kr := kc.below hbl HF.out.bel
      have cD : wr.drew.cell? ⟨b, off + m * 4, none⟩ = some (.int .i64 x.s.t) ∧ wr.drew.cell? ⟨b, off + m * 4 + 1, none⟩ = some (.int .i64 x.s.v) ∧ wr.drew.cell? ⟨b, off + m * 4 + 2, none⟩ = some (.pointer (some ⟨x.r, 0, none⟩)) ∧ wr.drew.cell? ⟨b, off + m * 4 + 3, none⟩ = some (.pointer (some ⟨x.a, 0, none⟩)) ∧ wr.drew.cell? ⟨w.heap.size, 0, none⟩ = some (.int .i64 t) ∧ wr.drew.cell? ⟨w.heap.size, 1, none⟩ = some (.int .i64 v) :=
        ⟨kr.c0, kr.c1, kr.c2, kr.c3, HF.out.box.cell 0, HF.out.box.cell 1⟩
      have HBL := Lib.hid (Nat.lt_of_lt_of_le hbl HF.out.bel.size)
      have hnn := HNN.out
      have hw : IntKind.i64.wrap (IntKind.u64.wrap (wrap64 ((lo : Int) + (hi : Int))) / 2) = (m : Int) := by
        rw [← hm]
        exact half_wrap lo hi (by omega)
      have m0 : (0 : Int) ≤ m := by omega
      have m1 : (m : Int) < n := by omega
      have HM := Lib.hid (And.intro hm hmn)
      have HX := Lib.hid hx
      have HC := Lib.hid (fun W => ask_any x t v W)
      have HKE := Lib.hid (fun (w5 : World) (b5 : Below wr.drew.heap.size wr.drew w5) => And.intro ((b5.cell (p := ⟨b, off + m * 4, none⟩) HBL.out).trans cD.1) (And.intro ((b5.cell (p := ⟨b, off + m * 4 + 1, none⟩) HBL.out).trans cD.2.1) (And.intro ((b5.cell (p := ⟨b, off + m * 4 + 2, none⟩) HBL.out).trans cD.2.2.1) (And.intro ((b5.cell (p := ⟨b, off + m * 4 + 3, none⟩) HBL.out).trans cD.2.2.2.1) (And.intro ((b5.cell (p := ⟨w.heap.size, 0, none⟩) HF.out.box.lt).trans cD.2.2.2.2.1) ((b5.cell (p := ⟨w.heap.size, 1, none⟩) HF.out.box.lt).trans cD.2.2.2.2.2))))))
      unfold Qs.val at HC
      obtain ⟨cc, hcc⟩ : ∃ cc, cmpA x.s.t x.s.v t v = cc := ⟨_, rfl⟩
      have HCC := Lib.hid (show decide (cc < 0) = aheadQ t v x by rw [← hcc]; exact cmpA_lt _ _ _ _)
      rw [hcc] at HC
      obtain ⟨x0, hx0⟩ : ∃ x0, x.s.t = x0 := ⟨_, rfl⟩
      obtain ⟨x1, hx1⟩ : ∃ x1, x.s.v = x1 := ⟨_, rfl⟩
      rw [hx0, hx1] at cD HC HKE
      clear hm hmn hbl kc kr hx hcc hx0 hx1 hnn
      go_wp2_with fail
      go_region_held3 (fun w' => w'.cell? ⟨b, off + m * 4, none⟩ = some (.int .i64 x0) ∧ w'.cell? ⟨b, off + m * 4 + 1, none⟩ = some (.int .i64 x1) ∧ w'.cell? ⟨b, off + m * 4 + 2, none⟩ = some (.pointer (some ⟨x.r, 0, none⟩)) ∧ w'.cell? ⟨b, off + m * 4 + 3, none⟩ = some (.pointer (some ⟨x.a, 0, none⟩)) ∧ w'.cell? ⟨w.heap.size, 0, none⟩ = some (.int .i64 t) ∧ w'.cell? ⟨w.heap.size, 1, none⟩ = some (.int .i64 v))
        (first
          | (with_reducible exact cD)
          | (with_reducible exact cA)
          | fail)
        (first
          | (go_at_call 77; (with_reducible (refine (HC.out _).mono ?_)); rintro e w5 ⟨rfl, b5⟩; have cA := HKE.out w5 b5)
          | (go_at_fn 77; (with_reducible (refine (HC.out _).mono ?_)); rintro e w5 ⟨rfl, b5⟩; have cA := HKE.out w5 b5))
      have HE := Lib.hid (show Find w (some ⟨b, off, none⟩) l t v w5 from ⟨HF.out.bel.drew.trans (b5.mono HF.out.bel.size), HF.out.box.drew.below b5 HF.out.box.lt⟩)
      clear cA b5 cD
      by_cases h1 : cc < 0
      · have HA1 := Lib.hid (show aheadQ t v x = true by rw [← HCC.out, decide_eq_true h1])
        go_wp2_with fail
        go_roundg (hi - (m + 1))
        case measure => have := HM.out; omega
        case rel =>
          exact ⟨m + 1, hi, by rw [show wrap64 ((m : Int) + 1) = ((m + 1 : Nat) : Int) from IntWalk.wrap64_in _ (by have := HM.out; have := HNN.out; omega)], rfl, by have := HM.out; omega, hin, Nat.le_refl _, HE, .inr (by rw [Nat.add_sub_cancel, HX.out]; exact HA1.out), I.out.2⟩
      · have HA1 := Lib.hid (show aheadQ t v x = false by rw [← HCC.out, decide_eq_false h1])
        have h2 : 0 ≤ cc := by omega
        clear h1
        go_wp2_with fail
        go_roundg (m - lo)
        case measure => have := HM.out; omega
        case rel =>
          exact ⟨lo, m, rfl, rfl, by have := HM.out; omega, by have := HM.out; omega, Nat.le_refl _, HE, I.out.1, .inr (by rw [HX.out]; exact HA1.out)⟩
    · obtain rfl : hi = lo := by omega
      by_cases hh : hi < n
      · obtain ⟨b, off, rfl, hbl, kc⟩ := HA.out hi (by rw [HN.out]; exact hh)
        obtain ⟨x, hx⟩ : ∃ x, l.getD hi qs0 = x := ⟨_, rfl⟩
        rw [hx] at kc
        have kr := kc.below hbl HF.out.bel
        have cD : wr.drew.cell? ⟨b, off + hi * 4, none⟩ = some (.int .i64 x.s.t) ∧ wr.drew.cell? ⟨b, off + hi * 4 + 1, none⟩ = some (.int .i64 x.s.v) ∧ wr.drew.cell? ⟨b, off + hi * 4 + 2, none⟩ = some (.pointer (some ⟨x.r, 0, none⟩)) ∧ wr.drew.cell? ⟨b, off + hi * 4 + 3, none⟩ = some (.pointer (some ⟨x.a, 0, none⟩)) ∧ wr.drew.cell? ⟨w.heap.size, 0, none⟩ = some (.int .i64 t) ∧ wr.drew.cell? ⟨w.heap.size, 1, none⟩ = some (.int .i64 v) :=
          ⟨kr.c0, kr.c1, kr.c2, kr.c3, HF.out.box.cell 0, HF.out.box.cell 1⟩
        have HBL := Lib.hid (Nat.lt_of_lt_of_le hbl HF.out.bel.size)
        have m0 : (0 : Int) ≤ hi := by omega
        have m1 : (hi : Int) < n := by omega
        have HC := Lib.hid (fun W => ask_any x t v W)
        have HKE := Lib.hid (fun (w5 : World) (b5 : Below wr.drew.heap.size wr.drew w5) => And.intro ((b5.cell (p := ⟨b, off + hi * 4, none⟩) HBL.out).trans cD.1) (And.intro ((b5.cell (p := ⟨b, off + hi * 4 + 1, none⟩) HBL.out).trans cD.2.1) (And.intro ((b5.cell (p := ⟨b, off + hi * 4 + 2, none⟩) HBL.out).trans cD.2.2.1) (And.intro ((b5.cell (p := ⟨b, off + hi * 4 + 3, none⟩) HBL.out).trans cD.2.2.2.1) (And.intro ((b5.cell (p := ⟨w.heap.size, 0, none⟩) HF.out.box.lt).trans cD.2.2.2.2.1) ((b5.cell (p := ⟨w.heap.size, 1, none⟩) HF.out.box.lt).trans cD.2.2.2.2.2))))))
        unfold Qs.val at HC
        have HE := Lib.hid (show AtQ l t v hi from ⟨by rw [HN.out]; exact hin, I.out.1, .inr (I.out.2.elim (fun e => absurd e (by omega)) id)⟩)
        have HX := Lib.hid (show (cmpA x.s.t x.s.v t v == 0) = hereQ l t v hi by rw [cmpA_eq]; unfold hereQ; rw [hx, HN.out, decide_eq_true hh, Bool.true_and])
        obtain ⟨cc, hcc⟩ : ∃ cc, cmpA x.s.t x.s.v t v = cc := ⟨_, rfl⟩
        rw [hcc] at HC HX
        obtain ⟨x0, hx0⟩ : ∃ x0, x.s.t = x0 := ⟨_, rfl⟩
        obtain ⟨x1, hx1⟩ : ∃ x1, x.s.v = x1 := ⟨_, rfl⟩
        rw [hx0, hx1] at cD HC HKE
        clear hbl kc kr hx hcc hx0 hx1 hh hlt hlh hin hg
        go_wp2_with fail
        go_region_held3 (fun w' => w'.cell? ⟨b, off + hi * 4, none⟩ = some (.int .i64 x0) ∧ w'.cell? ⟨b, off + hi * 4 + 1, none⟩ = some (.int .i64 x1) ∧ w'.cell? ⟨b, off + hi * 4 + 2, none⟩ = some (.pointer (some ⟨x.r, 0, none⟩)) ∧ w'.cell? ⟨b, off + hi * 4 + 3, none⟩ = some (.pointer (some ⟨x.a, 0, none⟩)) ∧ w'.cell? ⟨w.heap.size, 0, none⟩ = some (.int .i64 t) ∧ w'.cell? ⟨w.heap.size, 1, none⟩ = some (.int .i64 v))
          (first
            | (with_reducible exact cD)
            | (with_reducible exact cA)
            | fail)
          (first
            | (go_at_call 77; (with_reducible (refine (HC.out _).mono ?_)); rintro e w5 ⟨rfl, b5⟩; have cA := HKE.out w5 b5)
            | (go_at_fn 77; (with_reducible (refine (HC.out _).mono ?_)); rintro e w5 ⟨rfl, b5⟩; have cA := HKE.out w5 b5))
        have HB5 := Lib.hid (HF.out.bel.drew.trans (b5.mono HF.out.bel.size))
        clear cA b5 cD HKE
        go_wp2_with fail
        go_ret2
        exact ⟨hi, HE.out, by rw [← HX.out]; rfl, HB5.out⟩
      · obtain rfl : n = hi := by omega
        have HE := Lib.hid (show AtQ l t v n from ⟨by rw [HN.out]; exact hin, I.out.1, .inl HN.out.symm⟩)
        have HX := Lib.hid (show false = hereQ l t v n by unfold hereQ; rw [HN.out, decide_eq_false (Nat.lt_irrefl _), Bool.false_and])
        have n1 : ¬ (n : Int) < n := by omega
        clear hlt hlh hin hg hh
        go_wp2_with fail
        go_big_region
        go_wp2_with fail
        go_ret2
        exact ⟨n, HE.out, by rw [← HX.out]; rfl, HF.out.bel.drew⟩
end Go.Proofs.Ythghedlgeceepaa
