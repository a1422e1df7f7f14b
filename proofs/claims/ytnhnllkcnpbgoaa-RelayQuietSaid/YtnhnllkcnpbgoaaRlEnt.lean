/- What the program asks first of a frame that came in (layer 19): its network, if it may go on. No condition. -/
import Derived.Test.YtnhnllkcnpbgoaaRlCls
import Derived.Test.YtnhnllkcnpbgoaaRlP
import Derived.Deep.RegionHeld3
import Derived.Deep.RegionLaw
namespace Go.Proofs.Ytnhnllkcnpbgoaa
open Go.Joins Go.ChangeShapes Go.WideShapes Go.ChangeAt Go.RowKit Go.Deep
set_option maxRecDepth 100000

/-- The network in which a frame goes on; 0: none. -/
def entP (l : List Px) (i : Int) (f : Fr) : Int := if (0 ≤ i ∧ i < l.length) ∧ keptB f.dst = false then classP (l.getD i.toNat px0).pv f else 0
set_option maxHeartbeats 2000000 in
theorem enters_any (A : Option Addr) (c : Nat) (l : List Px) (i : Int) (f : Fr) (w : World) (hA : PxAt w w.heap.size A l) :
    Calls Try.prog 11 #[.slice A l.length c, .int .i64 i, .agg #[.int .i64 f.dst, .int .i64 f.src, .bool f.tagged, .int .i64 f.vid, .int .i64 f.prio, .int .i64 f.typ, .string f.data]] w fun e w' => e = .returned (.int .i64 (entP l i f)) ∧ Below w.heap.size w w' := by
  obtain ⟨V, hV⟩ : ∃ V, entP l i f = V := ⟨_, rfl⟩
  rw [hV]
  obtain ⟨n, hn⟩ : ∃ n, l.length = n := ⟨_, rfl⟩
  have HB := Lib.hid (bel_alloc w (.cells #[.int .i64 f.dst, .int .i64 f.src, .bool f.tagged, .int .i64 f.vid, .int .i64 f.prio, .int .i64 f.typ, .string f.data] 24))
  rw [hn]
  by_cases h0 : i < 0
  · have HE := Lib.hid (show (0 : Int) = V by rw [← hV]; exact (if_neg (by omega)).symm)
    clear hV hA hn
    obtain ⟨f0, f1, f2, f3, f4, f5, f6⟩ := f
    go_enter Try.func11, Try.ntmps11
    go_wp2_with fail
    go_ret
    exact ⟨ret_i64 HE.out, HB.out⟩
  · obtain ⟨a, rfl⟩ := Int.eq_ofNat_of_zero_le (by omega : 0 ≤ i)
    clear h0
    have d0 : decide ((a : Int) < 0) = false := decide_eq_false (by omega)
    by_cases h1 : (n : Int) ≤ a
    · have HE := Lib.hid (show (0 : Int) = V by rw [← hV]; exact (if_neg (by rw [hn]; omega)).symm)
      clear hV hA hn
      obtain ⟨f0, f1, f2, f3, f4, f5, f6⟩ := f
      go_enter Try.func11, Try.ntmps11
      go_wp2_with fail
      go_ret
      exact ⟨ret_i64 HE.out, HB.out⟩
    · have h1' : (a : Int) < n := by omega
      have d1 : decide ((n : Int) ≤ a) = false := decide_eq_false h1
      clear h1
      obtain ⟨b, hb⟩ : ∃ b, keptB f.dst = b := ⟨_, rfl⟩
      cases b with
      | true =>
        have HE := Lib.hid (show (0 : Int) = V by rw [← hV]; exact (if_neg (by rw [hb]; intro h; cases h.2)).symm)
        clear hV hA hn
        obtain ⟨f0, f1, f2, f3, f4, f5, f6⟩ := f
        have HK := Lib.hid hb
        clear hb
        go_enter Try.func11, Try.ntmps11
        go_wp2_with (go_at_call 18; refine (kept_any _ _).mono ?_; rw [HK.out]; rintro e w' ⟨rfl, rfl⟩)
        go_ret
        exact ⟨ret_i64 HE.out, HB.out⟩
      | false =>
        obtain ⟨⟨bb, off, rfl, hbl, hc⟩, _⟩ := hA a (by omega)
        have HE := Lib.hid (show classP (l.getD a px0).pv f = V by rw [← hV]; exact (if_pos ⟨by omega, hb⟩).symm)
        have hc := hc.below (bel_alloc w (.cells #[.int .i64 f.dst, .int .i64 f.src, .bool f.tagged, .int .i64 f.vid, .int .i64 f.prio, .int .i64 f.typ, .string f.data] 24)) hbl
        obtain ⟨x, hx⟩ : ∃ x, l.getD a px0 = x := ⟨_, rfl⟩
        rw [hx] at hc HE
        obtain ⟨f0, f1, f2, f3, f4, f5, f6⟩ := f
        obtain ⟨x0, x1, x2, xA, xc, xs⟩ := x
        obtain ⟨xn, hxn⟩ : ∃ xn, xs.length = xn := ⟨_, rfl⟩
        obtain ⟨q0, q1, q2, q3⟩ := hc
        have HCL := Lib.hid (fun W => show Calls Try.prog 19 #[.agg #[.int .i64 x0, .int .i64 x1, .bool x2, .slice xA xn xc], .agg #[.int .i64 f0, .int .i64 f1, .bool f2, .int .i64 f3, .int .i64 f4, .int .i64 f5, .string f6]] W fun e w' => e = .returned (.int .i64 V) ∧ Below W.heap.size W w' from by
          have := class_any ⟨x0, x1, x2, xA, xc, xs⟩ ⟨f0, f1, f2, f3, f4, f5, f6⟩ W
          rw [HE.out] at this
          rw [← hxn]
          exact this)
        simp only [hxn] at q0 q1 q2 q3
        have HK := Lib.hid hb
        clear hb hV hA hn hx hbl
        go_enter Try.func11, Try.ntmps11
        go_wp2_with (go_at_call 18; refine (kept_any _ _).mono ?_; rw [HK.out]; rintro e w' ⟨rfl, rfl⟩)
        go_region_law ((go_simp; go_at_call 19; refine (HCL.out _).mono ?_; rintro e w5 ⟨rfl, b5⟩))
        all_goals
          go_wp2_with fail
          go_ret
          exact ⟨rfl, HB.out.drew.trans (b5.mono HB.out.drew.size)⟩
end Go.Proofs.Ytnhnllkcnpbgoaa
