/- The latest word and the next one to it, as plain data, and spread.lastTwo. No condition but bounds on lengths. -/
import Derived.Test.YtaieopejabpegaaSnIdx
import Derived.Test.YtaieopejabpegaaSnWant
import Derived.Lib.SmallJoins
namespace Go.Proofs.Ytaieopejabpegaa
open Go.RowKit
set_option maxRecDepth 100000

/-- The latest, the next one, and whose the latest is, by the first j ports. -/
structure Two where
  hi : Int
  lo : Int
  at_ : Int
def stepT (s : Two) (b : Int) (j : Nat) : Two := if s.hi < b then ⟨b, s.hi, j⟩ else if s.lo < b then ⟨s.hi, b, s.at_⟩ else s
def twoTo (l : List Vw) (a : At) (own : Int) : Nat → Two
  | 0 => ⟨own, own, -1⟩
  | j + 1 => stepT (twoTo l a own j) (bornV (l.getD j vw0) a) j
theorem two_best (l : List Vw) (a : At) (own : Int) (j : Nat) :
    (twoTo l a (max own (-1)) j).lo ≤ (twoTo l a (max own (-1)) j).hi ∧ (twoTo l a (max own (-1)) j).at_ < j ∧ ∀ i : Nat, bestTo l a own i j = if (i : Int) = (twoTo l a (max own (-1)) j).at_ then (twoTo l a (max own (-1)) j).lo else (twoTo l a (max own (-1)) j).hi := by
  induction j with
  | zero =>
    refine ⟨Int.le_refl _, by show (-1 : Int) < 0; omega, fun i => ?_⟩
    show max own (-1) = _
    split <;> rfl
  | succ j ih =>
    obtain ⟨h1, h2, h3⟩ := ih
    unfold twoTo
    generalize twoTo l a (max own (-1)) j = s at *
    unfold stepT
    have hb : ∀ i, bestTo l a own i (j + 1) = if j ≠ i ∧ bestTo l a own i j < bornV (l.getD j vw0) a then bornV (l.getD j vw0) a else bestTo l a own i j := fun i => rfl
    generalize bornV (l.getD j vw0) a = b at *
    obtain ⟨p, q, r⟩ := s
    simp only at h1 h2 h3 ⊢
    by_cases c1 : p < b
    · rw [if_pos c1]
      refine ⟨by simp only; omega, by simp only; omega, fun i => ?_⟩
      rw [hb, h3]
      simp only
      repeat' split
      all_goals omega
    · rw [if_neg c1]
      by_cases c2 : q < b
      · rw [if_pos c2]
        refine ⟨by simp only; omega, by simp only; omega, fun i => ?_⟩
        rw [hb, h3]
        simp only
        repeat' split
        all_goals omega
      · rw [if_neg c2]
        refine ⟨by simp only; omega, by simp only; omega, fun i => ?_⟩
        rw [hb, h3]
        simp only
        repeat' split
        all_goals omega
/-- What is to be said at a port, by these two. -/
def wantT (op : Bool) (s : Two) (i : Nat) : Int := if op = false then -1 else if (i : Int) = s.at_ then s.lo else s.hi
theorem want_two (l : List Vw) (a : At) (own : Int) (i : Nat) : wantV l a own i = wantT (l.getD i vw0).op (twoTo l a (max own (-1)) l.length) i := by
  unfold wantV wantT
  cases (l.getD i vw0).op with
  | false => rfl
  | true =>
    rw [if_pos rfl, if_neg (by decide)]
    exact (two_best l a own l.length).2.2 i
set_option maxHeartbeats 8000000 in
theorem two_any (A : Option Addr) (c : Nat) (l : List Vx) (a : At) (own : Int) (w : World) (hA : VxAt w w.heap.size A l) (hl : l.length ≤ 1048576) (hx : ∀ k, k < l.length → (l.getD k vx0).xs.length ≤ 1048576) :
    Calls Try.prog 18 #[.slice A l.length c, .agg #[.int .i64 a.t, .int .i64 a.v], .int .i64 own] w fun e w' => e = .returned (.tuple #[.int .i64 (twoTo (vws l) a own l.length).hi, .int .i64 (twoTo (vws l) a own l.length).lo, .int .i64 (twoTo (vws l) a own l.length).at_]) ∧ Below w.heap.size w w' := by
  obtain ⟨n, hn⟩ : ∃ n, l.length = n := ⟨_, rfl⟩
  have HA := Lib.hid hA
  have HL := Lib.hid (And.intro hn (And.intro hl hx))
  rw [hn]
  have HX := Lib.hid (boxd w a)
  clear hA hl hx hn
  go_enter Try.func18, Try.ntmps18
  go_wp2_with fail
  go_loopw [6, 7, 8, 16] (fun pv qv rv iv wr => ∃ j : Nat, j ≤ n ∧ iv = .int .i64 j ∧ pv = .int .i64 (twoTo (vws l) a own j).hi ∧ qv = .int .i64 (twoTo (vws l) a own j).lo ∧ rv = .int .i64 (twoTo (vws l) a own j).at_ ∧ Hid (Boxd w wr a)) (fun _ _ _ iv _ => n - (intOf iv).toNat)
  case atStart => exact ⟨0, Nat.zero_le _, rfl, rfl, rfl, rfl, HX⟩
  case round =>
    obtain ⟨j, hj, rfl, rfl, rfl, rfl, HS⟩ := hrel
    by_cases hlt : j < n
    · have j1 : (j : Int) < n := by omega
      have j0 : (0 : Int) ≤ j := by omega
      have HLT := Lib.hid hlt
      have HJ := Lib.hid (show wrap64 ((j : Int) + 1) = (j : Int) + 1 from IntWalk.wrap64_in _ (by have := HL.out.2.1; have := HL.out.1; omega))
      obtain ⟨⟨b, off, eA, hbl, hc⟩, hr⟩ := HA.out j (by rw [HL.out.1]; exact hlt)
      have hc := hc.below HS.out.1 hbl
      have HST := Lib.hid (show twoTo (vws l) a own (j + 1) = stepT (twoTo (vws l) a own j) (bornV (l.getD j vx0).v a) j from by
        show stepT _ _ _ = _
        rw [vws_at l (by rw [HL.out.1]; exact HLT.out)])
      have hxl := HL.out.2.2 j (by rw [HL.out.1]; exact hlt)
      obtain ⟨x, hx⟩ : ∃ x, l.getD j vx0 = x := ⟨_, rfl⟩
      rw [hx] at hc hr HST hxl
      have HR := Lib.hid (fun (V : World) (hV : Below w.heap.size w V) => hands_any x a V (Vx.rows_more (Vx.rows_below hr hV) hV.size) hxl)
      obtain ⟨q0, q1, q2⟩ := hc
      obtain ⟨bo, hbo⟩ : ∃ bo, bornV x.v a = bo := ⟨_, rfl⟩
      obtain ⟨s, hs⟩ : ∃ s, twoTo (vws l) a own j = s := ⟨_, rfl⟩
      rw [hbo] at HR HST
      rw [hs] at HST
      rw [hs]
      obtain ⟨hiv, lov, atv⟩ := s
      obtain ⟨xop, xA, xc, xs, xA', xc', xbs⟩ := x
      obtain ⟨xn, hxn⟩ : ∃ xn, xs.length = xn := ⟨_, rfl⟩
      obtain ⟨xm, hxm⟩ : ∃ xm, xbs.length = xm := ⟨_, rfl⟩
      simp only [hxn, hxm] at q0 q1 q2
      simp only [Vx.cells, hxn, hxm] at HR
      have HB2 := Lib.hid (And.intro (HS.out.1.trans ((bel_alloc wr (.cells #[.bool xop, .slice xA xn xc, .slice xA' xm xc'] 43)).mono HS.out.1.size)) (HS.out.2.alloc (.cells #[.bool xop, .slice xA xn xc, .slice xA' xm xc'] 43)))
      have a0 := fun o => (HS.out.2.alloc o).cell 0
      have a1 := fun o => (HS.out.2.alloc o).cell 1
      subst eA
      clear hj hlt hbl hr hx hxl hbo hs hxn hxm
      go_wp2_with fail
      refine (HR.out _ HB2.out.1).mono ?_
      rintro e w2 ⟨rfl, b2⟩
      have HB3 := Lib.hid (show Boxd w w2 a from And.intro (HB2.out.1.trans (b2.mono HB2.out.1.size)) (HB2.out.2.below b2 HB2.out.2.lt))
      clear b2 a0 a1 q0 q1 q2
      by_cases c1 : hiv < bo
      · have HE := Lib.hid (show twoTo (vws l) a own (j + 1) = ⟨bo, hiv, j⟩ from HST.out.trans (if_pos c1))
        go_wp2_with fail
        go_roundw
        case rel =>
          rw [HJ.out]
          exact ⟨j + 1, HLT.out, by rw [Int.natCast_add]; rfl, by rw [HE.out], by rw [HE.out], by rw [HE.out], HB3⟩
        case measure =>
          rw [HJ.out]
          show n - ((j : Int) + 1).toNat < n - ((j : Int)).toNat
          have := HLT.out
          omega
      · have c1' : bo ≤ hiv := by omega
        by_cases c2 : lov < bo
        · have HE := Lib.hid (show twoTo (vws l) a own (j + 1) = ⟨hiv, bo, atv⟩ from HST.out.trans ((if_neg c1).trans (if_pos c2)))
          go_wp2_with fail
          go_roundw
          case rel =>
            rw [HJ.out]
            exact ⟨j + 1, HLT.out, by rw [Int.natCast_add]; rfl, by rw [HE.out], by rw [HE.out], by rw [HE.out], HB3⟩
          case measure =>
            rw [HJ.out]
            show n - ((j : Int) + 1).toNat < n - ((j : Int)).toNat
            have := HLT.out
            omega
        · have c2' : bo ≤ lov := by omega
          have HE := Lib.hid (show twoTo (vws l) a own (j + 1) = ⟨hiv, lov, atv⟩ from HST.out.trans ((if_neg c1).trans (if_neg c2)))
          go_wp2_with fail
          go_roundw
          case rel =>
            rw [HJ.out]
            exact ⟨j + 1, HLT.out, by rw [Int.natCast_add]; rfl, by rw [HE.out], by rw [HE.out], by rw [HE.out], HB3⟩
          case measure =>
            rw [HJ.out]
            show n - ((j : Int) + 1).toNat < n - ((j : Int)).toNat
            have := HLT.out
            omega
    · obtain rfl : j = n := by omega
      clear hj hlt
      go_wp2_with fail
      exact bodyPost_ret (results_tmp3 rfl _ _ _) rfl ⟨rfl, HS.out.1⟩
end Go.Proofs.Ytaieopejabpegaa
