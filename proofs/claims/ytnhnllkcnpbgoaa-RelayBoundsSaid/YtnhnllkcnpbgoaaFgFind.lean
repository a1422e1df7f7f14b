/- Where a place is among others, or would be: the library's search by halves. Its condition: fewer than 2^20 places. -/
import Derived.Test.YtnhnllkcnpbgoaaFgRow
import Derived.Test.YtnhnllkcnpbgoaaFgCmp
import Derived.Deep.RegionHeld3
import Derived.Deep.RegionLaw
import Derived.Shelf.Abstract
import Derived.Deep.LoopGhost
import Derived.Deep.Draws
namespace Go.Proofs.Ytnhnllkcnpbgoaa
open Go.RowKit
set_option maxRecDepth 100000

def kf (v m : Int) : Pl := ⟨v, m, 0, 0, false⟩
/-- Where a place is, or would be, and whether it is there. -/
structure AtK (l : List Pl) (v m : Int) (k : Nat) : Prop where
  le : k ≤ l.length
  lo : k = 0 ∨ ltK (l.getD (k - 1) pl0) (kf v m)
  hi : k = l.length ∨ ¬ ltK (l.getD k pl0) (kf v m)
def hereK (l : List Pl) (v m : Int) (k : Nat) : Bool := decide (k < l.length) && decide ((l.getD k pl0).is v m)
theorem eg_cmp : ∀ args w, (callFunc 31 args).run Try.prog w = .ok (.enter 31 args) w := enters_of Try.func31 (by kernel_rfl) rfl
/-- What the search knows of memory: the box of what is asked for. -/
structure FindF (w : World) (v m : Int) (wr : World) : Prop where
  bel : Below w.heap.size w wr
  box : Blk wr w.heap.size 49 #[.int .i64 v, .int .i64 m, .int .i64 0, .int .i64 0, .bool false]
theorem half_wrap (lo hi : Nat) (h : lo + hi ≤ 4000000) : IntKind.i64.wrap (IntKind.u64.wrap (wrap64 ((lo : Int) + (hi : Int))) / 2) = (((lo + hi) / 2 : Nat) : Int) := by
  rw [IntWalk.wrap64_in _ (by omega), IntKind.wrap_u64, Int.emod_eq_of_lt (by omega) (by omega), IntWalk.i64_in _ (by omega)]
  omega
theorem here_eq (x : Pl) (v m : Int) : (cmpP x (kf v m) == 0) = decide (x.is v m) := by
  have h := cmpP_zero x (kf v m)
  by_cases c : cmpP x (kf v m) = 0
  · rw [decide_eq_true (show x.is v m from h.1 c), c]; rfl
  · rw [decide_eq_false (show ¬ x.is v m from fun q => c (h.2 q)), beq_eq_false_iff_ne.2 c]
set_option maxHeartbeats 8000000 in
theorem bsearch_any (A : Option Addr) (c : Nat) (l : List Pl) (v m : Int) (w : World) (hA : PlsAt w w.heap.size A l) (hn : l.length ≤ 1048000) :
    Calls Try.prog 30 #[.slice A l.length c, .agg #[.int .i64 v, .int .i64 m, .int .i64 0, .int .i64 0, .bool false], .func (.func 31) #[] #[]] w fun e w' =>
      ∃ k : Nat, AtK l v m k ∧ e = .returned (.tuple #[.int .i64 (k : Int), .bool (hereK l v m k)]) ∧ Below w.heap.size w w' := by
  obtain ⟨n, hnn⟩ : ∃ n, l.length = n := ⟨_, rfl⟩
  have HN := Lib.hid hnn
  have HF0 := Lib.hid (show FindF w v m (w.alloc (.cells #[.int .i64 v, .int .i64 m, .int .i64 0, .int .i64 0, .bool false] 49)) from ⟨bel_alloc w _, Blk.new w _ _⟩)
  have HA := Lib.hid hA
  rw [hnn] at hn ⊢
  have HNN := Lib.hid hn
  clear hA hnn hn
  go_enter Try.func30, Try.ntmps30
  go_wp2_with fail
  go_loopg [9, 10] n (fun kx s5 s6 wr => ∃ (lo hi : Nat), s5 = .int .i64 lo ∧ s6 = .int .i64 hi ∧ lo ≤ hi ∧ hi ≤ n ∧ hi - lo ≤ kx ∧ Hid (FindF w v m wr) ∧
    Aside ((lo = 0 ∨ ltK (l.getD (lo - 1) pl0) (kf v m)) ∧ (hi = n ∨ ¬ ltK (l.getD hi pl0) (kf v m))))
  case atStart => exact ⟨0, n, rfl, rfl, Nat.zero_le _, Nat.le_refl _, by omega, HF0, .inl rfl, .inl rfl⟩
  case round =>
    obtain ⟨lo, hi, rfl, rfl, hlh, hin, hg, HF, I⟩ := hrel
    by_cases hlt : lo < hi
    · obtain ⟨q, hm⟩ : ∃ q, (lo + hi) / 2 = q := ⟨_, rfl⟩
      have hmn : q < n := by omega
      obtain ⟨b, off, rfl, hbl, kc⟩ := HA.out q (by rw [HN.out]; exact hmn)
      obtain ⟨x, hx⟩ : ∃ x, l.getD q pl0 = x := ⟨_, rfl⟩
      rw [hx] at kc
      have kr := kc.below HF.out.bel hbl
      obtain ⟨x0, x1, x2, x3, x4⟩ := x
      have cD : wr.drew.cell? ⟨b, off + q * 5, none⟩ = some (.int .i64 x0) ∧ wr.drew.cell? ⟨b, off + q * 5 + 1, none⟩ = some (.int .i64 x1) ∧ wr.drew.cell? ⟨b, off + q * 5 + 2, none⟩ = some (.int .i64 x2) ∧ wr.drew.cell? ⟨b, off + q * 5 + 3, none⟩ = some (.int .i64 x3) ∧ wr.drew.cell? ⟨b, off + q * 5 + 4, none⟩ = some (.bool x4) ∧ wr.drew.cell? ⟨w.heap.size, 0, none⟩ = some (.int .i64 v) ∧ wr.drew.cell? ⟨w.heap.size, 1, none⟩ = some (.int .i64 m) ∧ wr.drew.cell? ⟨w.heap.size, 2, none⟩ = some (.int .i64 0) ∧ wr.drew.cell? ⟨w.heap.size, 3, none⟩ = some (.int .i64 0) ∧ wr.drew.cell? ⟨w.heap.size, 4, none⟩ = some (.bool false) :=
        ⟨kr.c0, kr.c1, kr.c2, kr.c3, kr.c4, HF.out.box.cell 0, HF.out.box.cell 1, HF.out.box.cell 2, HF.out.box.cell 3, HF.out.box.cell 4⟩
      have HBL := Lib.hid (Nat.lt_of_lt_of_le hbl HF.out.bel.size)
      have HC : Hid (∀ W, Calls Try.prog 31 #[.agg #[.int .i64 x0, .int .i64 x1, .int .i64 x2, .int .i64 x3, .bool x4], .agg #[.int .i64 v, .int .i64 m, .int .i64 0, .int .i64 0, .bool false]] W fun e w' => e = .returned (.int .i64 (cmpP ⟨x0, x1, x2, x3, x4⟩ (kf v m))) ∧ Below W.heap.size W w') := Lib.hid (fun W => fcompare_any ⟨x0, x1, x2, x3, x4⟩ (kf v m) W)
      have HKE : Hid (∀ (w5 : World) (b5 : Below wr.drew.heap.size wr.drew w5), w5.cell? ⟨b, off + q * 5, none⟩ = some (.int .i64 x0) ∧ w5.cell? ⟨b, off + q * 5 + 1, none⟩ = some (.int .i64 x1) ∧ w5.cell? ⟨b, off + q * 5 + 2, none⟩ = some (.int .i64 x2) ∧ w5.cell? ⟨b, off + q * 5 + 3, none⟩ = some (.int .i64 x3) ∧ w5.cell? ⟨b, off + q * 5 + 4, none⟩ = some (.bool x4) ∧ w5.cell? ⟨w.heap.size, 0, none⟩ = some (.int .i64 v) ∧ w5.cell? ⟨w.heap.size, 1, none⟩ = some (.int .i64 m) ∧ w5.cell? ⟨w.heap.size, 2, none⟩ = some (.int .i64 0) ∧ w5.cell? ⟨w.heap.size, 3, none⟩ = some (.int .i64 0) ∧ w5.cell? ⟨w.heap.size, 4, none⟩ = some (.bool false)) := Lib.hid (fun w5 b5 => ⟨(b5.cell (p := ⟨b, off + q * 5, none⟩) HBL.out).trans cD.1, (b5.cell (p := ⟨b, off + q * 5 + 1, none⟩) HBL.out).trans cD.2.1, (b5.cell (p := ⟨b, off + q * 5 + 2, none⟩) HBL.out).trans cD.2.2.1, (b5.cell (p := ⟨b, off + q * 5 + 3, none⟩) HBL.out).trans cD.2.2.2.1, (b5.cell (p := ⟨b, off + q * 5 + 4, none⟩) HBL.out).trans cD.2.2.2.2.1, (b5.cell (p := ⟨w.heap.size, 0, none⟩) HF.out.box.lt).trans cD.2.2.2.2.2.1, (b5.cell (p := ⟨w.heap.size, 1, none⟩) HF.out.box.lt).trans cD.2.2.2.2.2.2.1, (b5.cell (p := ⟨w.heap.size, 2, none⟩) HF.out.box.lt).trans cD.2.2.2.2.2.2.2.1, (b5.cell (p := ⟨w.heap.size, 3, none⟩) HF.out.box.lt).trans cD.2.2.2.2.2.2.2.2.1, (b5.cell (p := ⟨w.heap.size, 4, none⟩) HF.out.box.lt).trans cD.2.2.2.2.2.2.2.2.2⟩)
      have hnn := HNN.out
      have hw : IntKind.i64.wrap (IntKind.u64.wrap (wrap64 ((lo : Int) + (hi : Int))) / 2) = (q : Int) := by
        rw [← hm]
        exact half_wrap lo hi (by omega)
      have m0 : (0 : Int) ≤ q := by omega
      have m1 : (q : Int) < n := by omega
      have HM := Lib.hid (And.intro hm hmn)
      have HX := Lib.hid hx
      obtain ⟨cc, hcc⟩ : ∃ cc, cmpP ⟨x0, x1, x2, x3, x4⟩ (kf v m) = cc := ⟨_, rfl⟩
      have HCC := Lib.hid (show (cc < 0) ↔ ltK ⟨x0, x1, x2, x3, x4⟩ (kf v m) by rw [← hcc]; exact cmpP_lt _ _)
      rw [hcc] at HC
      clear hm hmn hbl kc kr hx hcc hnn
      go_wp2_with fail
      go_region_held3 (fun w' => w'.cell? ⟨b, off + q * 5, none⟩ = some (.int .i64 x0) ∧ w'.cell? ⟨b, off + q * 5 + 1, none⟩ = some (.int .i64 x1) ∧ w'.cell? ⟨b, off + q * 5 + 2, none⟩ = some (.int .i64 x2) ∧ w'.cell? ⟨b, off + q * 5 + 3, none⟩ = some (.int .i64 x3) ∧ w'.cell? ⟨b, off + q * 5 + 4, none⟩ = some (.bool x4) ∧ w'.cell? ⟨w.heap.size, 0, none⟩ = some (.int .i64 v) ∧ w'.cell? ⟨w.heap.size, 1, none⟩ = some (.int .i64 m) ∧ w'.cell? ⟨w.heap.size, 2, none⟩ = some (.int .i64 0) ∧ w'.cell? ⟨w.heap.size, 3, none⟩ = some (.int .i64 0) ∧ w'.cell? ⟨w.heap.size, 4, none⟩ = some (.bool false))
        (first
          | (with_reducible exact cD)
          | (with_reducible exact cA)
          | fail)
        (first
          | (go_at_call 31; (with_reducible (refine (HC.out _).mono ?_)); rintro e w5 ⟨rfl, b5⟩; have cA := HKE.out w5 b5)
          | (go_at_fn 31; (with_reducible (refine (HC.out _).mono ?_)); rintro e w5 ⟨rfl, b5⟩; have cA := HKE.out w5 b5))
      have HE := Lib.hid (show FindF w v m w5 from ⟨HF.out.bel.drew.trans (b5.mono HF.out.bel.size), HF.out.box.drew.below b5 HF.out.box.lt⟩)
      clear cA b5 cD HKE
      by_cases h1 : cc < 0
      · have HA1 := Lib.hid (HCC.out.1 h1)
        go_wp2_with fail
        go_roundg (hi - (q + 1))
        case measure => have := HM.out; omega
        case rel =>
          exact ⟨q + 1, hi, by rw [show wrap64 ((q : Int) + 1) = ((q + 1 : Nat) : Int) from IntWalk.wrap64_in _ (by have := HM.out; have := HNN.out; omega)], rfl, by have := HM.out; omega, hin, Nat.le_refl _, HE, .inr (by rw [Nat.add_sub_cancel, HX.out]; exact HA1.out), I.out.2⟩
      · have HA1 := Lib.hid (fun z => h1 (HCC.out.2 z))
        have h2 : 0 ≤ cc := by omega
        clear h1
        go_wp2_with fail
        go_roundg (q - lo)
        case measure => have := HM.out; omega
        case rel =>
          exact ⟨lo, q, rfl, rfl, by have := HM.out; omega, by have := HM.out; omega, Nat.le_refl _, HE, I.out.1, .inr (by rw [HX.out]; exact HA1.out)⟩
    · obtain rfl : hi = lo := by omega
      by_cases hh : hi < n
      · have HE := Lib.hid (show AtK l v m hi from ⟨by rw [HN.out]; exact hin, I.out.1, .inr (I.out.2.elim (fun e => absurd e (by omega)) id)⟩)
        obtain ⟨b, off, rfl, hbl, kc⟩ := HA.out hi (by rw [HN.out]; exact hh)
        obtain ⟨x, hx⟩ : ∃ x, l.getD hi pl0 = x := ⟨_, rfl⟩
        rw [hx] at kc
        have kr := kc.below HF.out.bel hbl
        obtain ⟨x0, x1, x2, x3, x4⟩ := x
        have cD : wr.drew.cell? ⟨b, off + hi * 5, none⟩ = some (.int .i64 x0) ∧ wr.drew.cell? ⟨b, off + hi * 5 + 1, none⟩ = some (.int .i64 x1) ∧ wr.drew.cell? ⟨b, off + hi * 5 + 2, none⟩ = some (.int .i64 x2) ∧ wr.drew.cell? ⟨b, off + hi * 5 + 3, none⟩ = some (.int .i64 x3) ∧ wr.drew.cell? ⟨b, off + hi * 5 + 4, none⟩ = some (.bool x4) ∧ wr.drew.cell? ⟨w.heap.size, 0, none⟩ = some (.int .i64 v) ∧ wr.drew.cell? ⟨w.heap.size, 1, none⟩ = some (.int .i64 m) ∧ wr.drew.cell? ⟨w.heap.size, 2, none⟩ = some (.int .i64 0) ∧ wr.drew.cell? ⟨w.heap.size, 3, none⟩ = some (.int .i64 0) ∧ wr.drew.cell? ⟨w.heap.size, 4, none⟩ = some (.bool false) :=
          ⟨kr.c0, kr.c1, kr.c2, kr.c3, kr.c4, HF.out.box.cell 0, HF.out.box.cell 1, HF.out.box.cell 2, HF.out.box.cell 3, HF.out.box.cell 4⟩
        have HBL := Lib.hid (Nat.lt_of_lt_of_le hbl HF.out.bel.size)
        have HC : Hid (∀ W, Calls Try.prog 31 #[.agg #[.int .i64 x0, .int .i64 x1, .int .i64 x2, .int .i64 x3, .bool x4], .agg #[.int .i64 v, .int .i64 m, .int .i64 0, .int .i64 0, .bool false]] W fun e w' => e = .returned (.int .i64 (cmpP ⟨x0, x1, x2, x3, x4⟩ (kf v m))) ∧ Below W.heap.size W w') := Lib.hid (fun W => fcompare_any ⟨x0, x1, x2, x3, x4⟩ (kf v m) W)
        have HKE : Hid (∀ (w5 : World) (b5 : Below wr.drew.heap.size wr.drew w5), w5.cell? ⟨b, off + hi * 5, none⟩ = some (.int .i64 x0) ∧ w5.cell? ⟨b, off + hi * 5 + 1, none⟩ = some (.int .i64 x1) ∧ w5.cell? ⟨b, off + hi * 5 + 2, none⟩ = some (.int .i64 x2) ∧ w5.cell? ⟨b, off + hi * 5 + 3, none⟩ = some (.int .i64 x3) ∧ w5.cell? ⟨b, off + hi * 5 + 4, none⟩ = some (.bool x4) ∧ w5.cell? ⟨w.heap.size, 0, none⟩ = some (.int .i64 v) ∧ w5.cell? ⟨w.heap.size, 1, none⟩ = some (.int .i64 m) ∧ w5.cell? ⟨w.heap.size, 2, none⟩ = some (.int .i64 0) ∧ w5.cell? ⟨w.heap.size, 3, none⟩ = some (.int .i64 0) ∧ w5.cell? ⟨w.heap.size, 4, none⟩ = some (.bool false)) := Lib.hid (fun w5 b5 => ⟨(b5.cell (p := ⟨b, off + hi * 5, none⟩) HBL.out).trans cD.1, (b5.cell (p := ⟨b, off + hi * 5 + 1, none⟩) HBL.out).trans cD.2.1, (b5.cell (p := ⟨b, off + hi * 5 + 2, none⟩) HBL.out).trans cD.2.2.1, (b5.cell (p := ⟨b, off + hi * 5 + 3, none⟩) HBL.out).trans cD.2.2.2.1, (b5.cell (p := ⟨b, off + hi * 5 + 4, none⟩) HBL.out).trans cD.2.2.2.2.1, (b5.cell (p := ⟨w.heap.size, 0, none⟩) HF.out.box.lt).trans cD.2.2.2.2.2.1, (b5.cell (p := ⟨w.heap.size, 1, none⟩) HF.out.box.lt).trans cD.2.2.2.2.2.2.1, (b5.cell (p := ⟨w.heap.size, 2, none⟩) HF.out.box.lt).trans cD.2.2.2.2.2.2.2.1, (b5.cell (p := ⟨w.heap.size, 3, none⟩) HF.out.box.lt).trans cD.2.2.2.2.2.2.2.2.1, (b5.cell (p := ⟨w.heap.size, 4, none⟩) HF.out.box.lt).trans cD.2.2.2.2.2.2.2.2.2⟩)
        have m0 : (0 : Int) ≤ hi := by omega
        have m1 : (hi : Int) < n := by omega
        have HX := Lib.hid (show (cmpP ⟨x0, x1, x2, x3, x4⟩ (kf v m) == 0) = hereK l v m hi by rw [here_eq]; unfold hereK; rw [hx, HN.out, decide_eq_true hh, Bool.true_and])
        obtain ⟨cc, hcc⟩ : ∃ cc, cmpP ⟨x0, x1, x2, x3, x4⟩ (kf v m) = cc := ⟨_, rfl⟩
        rw [hcc] at HC HX
        clear hbl kc kr hx hcc hh hlt hlh hin hg
        go_wp2_with fail
        go_region_held3 (fun w' => w'.cell? ⟨b, off + hi * 5, none⟩ = some (.int .i64 x0) ∧ w'.cell? ⟨b, off + hi * 5 + 1, none⟩ = some (.int .i64 x1) ∧ w'.cell? ⟨b, off + hi * 5 + 2, none⟩ = some (.int .i64 x2) ∧ w'.cell? ⟨b, off + hi * 5 + 3, none⟩ = some (.int .i64 x3) ∧ w'.cell? ⟨b, off + hi * 5 + 4, none⟩ = some (.bool x4) ∧ w'.cell? ⟨w.heap.size, 0, none⟩ = some (.int .i64 v) ∧ w'.cell? ⟨w.heap.size, 1, none⟩ = some (.int .i64 m) ∧ w'.cell? ⟨w.heap.size, 2, none⟩ = some (.int .i64 0) ∧ w'.cell? ⟨w.heap.size, 3, none⟩ = some (.int .i64 0) ∧ w'.cell? ⟨w.heap.size, 4, none⟩ = some (.bool false))
          (first
            | (with_reducible exact cD)
            | (with_reducible exact cA)
            | fail)
          (first
            | (go_at_call 31; (with_reducible (refine (HC.out _).mono ?_)); rintro e w5 ⟨rfl, b5⟩; have cA := HKE.out w5 b5)
            | (go_at_fn 31; (with_reducible (refine (HC.out _).mono ?_)); rintro e w5 ⟨rfl, b5⟩; have cA := HKE.out w5 b5))
        have HB5 := Lib.hid (HF.out.bel.drew.trans (b5.mono HF.out.bel.size))
        clear cA b5 cD HKE
        go_wp2_with fail
        go_ret2
        exact ⟨hi, HE.out, by rw [← HX.out]; rfl, HB5.out⟩
      · obtain rfl : n = hi := by omega
        have HE := Lib.hid (show AtK l v m n from ⟨by rw [HN.out]; exact hin, I.out.1, .inl HN.out.symm⟩)
        have HX := Lib.hid (show false = hereK l v m n by unfold hereK; rw [HN.out, decide_eq_false (Nat.lt_irrefl _), Bool.false_and])
        have n1 : ¬ (n : Int) < n := by omega
        clear hlt hlh hin hg hh
        go_wp2_with fail
        go_big_region
        go_wp2_with fail
        go_ret2
        exact ⟨n, HE.out, by rw [← HX.out]; rfl, HF.out.bel.drew⟩
end Go.Proofs.Ytnhnllkcnpbgoaa
