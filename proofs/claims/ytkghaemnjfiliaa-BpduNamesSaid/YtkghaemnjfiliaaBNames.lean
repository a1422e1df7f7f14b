/- Id and Bridge answer what the document says, of all numbers; unlike ranks and addresses have unlike names, a lower rank a lower name. No condition. -/
import Derived.Test.YtkghaemnjfiliaaFrame
import Derived.Test.YtkghaemnjfiliaaBpAlive
import Derived.Test.YtkghaemnjfiliaaBpOpen
namespace Go.Proofs.Ytkghaemnjfiliaa
open Go.RowKit Go.ChangeShapes Go.WideShapes

set_option maxHeartbeats 8000000 in
theorem walkBpduNames (rank mac other less : Int) (w : World) (_hr : (Lit.int .i64 rank).wf = true) (hm : (Lit.int .i64 mac).wf = true) (_ho : (Lit.int .i64 other).wf = true) (_hl : (Lit.int .i64 less).wf = true) :
    Calls Try.prog 5 #[.int .i64 rank, .int .i64 mac, .int .i64 other, .int .i64 less] w fun e w' => e = .returned (.bool true) ∧ Below w.heap.size w w' := by
  have HMac := Lib.hid (wf_int hm).2
  clear _hr hm _ho _hl
  obtain ⟨bm, HBM⟩ : ∃ b, Hid (nameB mac = b) := ⟨_, Lib.hid rfl⟩
  obtain ⟨i, hi⟩ : ∃ i, idOf rank mac = i := ⟨_, rfl⟩
  obtain ⟨x, hx⟩ : ∃ i, idOf other less = i := ⟨_, rfl⟩
  obtain ⟨bi, HBI⟩ : ∃ b, Hid (nameB i = b) := ⟨_, Lib.hid rfl⟩
  have HI := Lib.hid hi
  have HX := Lib.hid hx
  have HIm := Lib.hid (show i ≤ 9223372036854775807 by rw [← hi]; exact (idOf_int _ _).2)
  obtain ⟨bg, HG⟩ : ∃ b, Hid (goodB mac = b) := ⟨_, Lib.hid rfl⟩
  obtain ⟨by_, HM⟩ : ∃ b, Hid (manyB mac = b) := ⟨_, Lib.hid rfl⟩
  by_cases c0 : rank < 0
  · obtain rfl : i = 0 := by rw [← hi]; exact if_neg (by omega)
    clear hi hx HIm HBI
    go_enter Try.func5, Try.ntmps5
    go_wp2_with (first
      | (go_at_call 8; (with_reducible (refine (balive_any _).mono ?_)); rintro e w' ⟨rfl, rfl⟩)
      | (go_at_call 14; (with_reducible (refine (id_any rank mac _).mono ?_)); rw [HI.out]; rintro e w' ⟨rfl, rfl⟩)
      | (go_at_call 14; (with_reducible (refine (id_any other less _).mono ?_)); rw [HX.out]; rintro e w' ⟨rfl, rfl⟩)
      | (go_at_call 15; (with_reducible (refine (goodr_any mac _).mono ?_)); rw [HG.out]; rintro e w' ⟨rfl, rfl⟩)
      | (go_at_call 16; (with_reducible (refine (manyr_any mac _).mono ?_)); rw [HM.out]; rintro e w' ⟨rfl, rfl⟩)
      | (go_at_call 17; (with_reducible (refine (bridge_any 0 (by decide) _).mono ?_)); rw [show nameB 0 = false from rfl]; rintro e w' ⟨rfl, rfl⟩)
      | (go_at_call 18; (with_reducible (refine (rbridge_any 0 (by decide) _).mono ?_)); rw [show nameB 0 = false from rfl]; rintro e w' ⟨rfl, rfl⟩)
      | (go_at_call 17; (with_reducible (refine (bridge_any mac HMac.out _).mono ?_)); rw [HBM.out]; rintro e w' ⟨rfl, rfl⟩)
      | (go_at_call 18; (with_reducible (refine (rbridge_any mac HMac.out _).mono ?_)); rw [HBM.out]; rintro e w' ⟨rfl, rfl⟩))
    go_ret
    exact ⟨rfl, Below.refl _ _⟩
  by_cases c0 : 15 < rank
  · obtain rfl : i = 0 := by rw [← hi]; exact if_neg (by omega)
    clear hi hx HIm HBI
    go_enter Try.func5, Try.ntmps5
    go_wp2_with (first
      | (go_at_call 8; (with_reducible (refine (balive_any _).mono ?_)); rintro e w' ⟨rfl, rfl⟩)
      | (go_at_call 14; (with_reducible (refine (id_any rank mac _).mono ?_)); rw [HI.out]; rintro e w' ⟨rfl, rfl⟩)
      | (go_at_call 14; (with_reducible (refine (id_any other less _).mono ?_)); rw [HX.out]; rintro e w' ⟨rfl, rfl⟩)
      | (go_at_call 15; (with_reducible (refine (goodr_any mac _).mono ?_)); rw [HG.out]; rintro e w' ⟨rfl, rfl⟩)
      | (go_at_call 16; (with_reducible (refine (manyr_any mac _).mono ?_)); rw [HM.out]; rintro e w' ⟨rfl, rfl⟩)
      | (go_at_call 17; (with_reducible (refine (bridge_any 0 (by decide) _).mono ?_)); rw [show nameB 0 = false from rfl]; rintro e w' ⟨rfl, rfl⟩)
      | (go_at_call 18; (with_reducible (refine (rbridge_any 0 (by decide) _).mono ?_)); rw [show nameB 0 = false from rfl]; rintro e w' ⟨rfl, rfl⟩)
      | (go_at_call 17; (with_reducible (refine (bridge_any mac HMac.out _).mono ?_)); rw [HBM.out]; rintro e w' ⟨rfl, rfl⟩)
      | (go_at_call 18; (with_reducible (refine (rbridge_any mac HMac.out _).mono ?_)); rw [HBM.out]; rintro e w' ⟨rfl, rfl⟩))
    go_ret
    exact ⟨rfl, Below.refl _ _⟩
  cases bg
  · obtain rfl : i = 0 := by rw [← hi]; exact if_neg (by simp [HG.out])
    clear hi hx HIm HBI
    go_enter Try.func5, Try.ntmps5
    go_wp2_with (first
      | (go_at_call 8; (with_reducible (refine (balive_any _).mono ?_)); rintro e w' ⟨rfl, rfl⟩)
      | (go_at_call 14; (with_reducible (refine (id_any rank mac _).mono ?_)); rw [HI.out]; rintro e w' ⟨rfl, rfl⟩)
      | (go_at_call 14; (with_reducible (refine (id_any other less _).mono ?_)); rw [HX.out]; rintro e w' ⟨rfl, rfl⟩)
      | (go_at_call 15; (with_reducible (refine (goodr_any mac _).mono ?_)); rw [HG.out]; rintro e w' ⟨rfl, rfl⟩)
      | (go_at_call 16; (with_reducible (refine (manyr_any mac _).mono ?_)); rw [HM.out]; rintro e w' ⟨rfl, rfl⟩)
      | (go_at_call 17; (with_reducible (refine (bridge_any 0 (by decide) _).mono ?_)); rw [show nameB 0 = false from rfl]; rintro e w' ⟨rfl, rfl⟩)
      | (go_at_call 18; (with_reducible (refine (rbridge_any 0 (by decide) _).mono ?_)); rw [show nameB 0 = false from rfl]; rintro e w' ⟨rfl, rfl⟩)
      | (go_at_call 17; (with_reducible (refine (bridge_any mac HMac.out _).mono ?_)); rw [HBM.out]; rintro e w' ⟨rfl, rfl⟩)
      | (go_at_call 18; (with_reducible (refine (rbridge_any mac HMac.out _).mono ?_)); rw [HBM.out]; rintro e w' ⟨rfl, rfl⟩))
    go_ret
    exact ⟨rfl, Below.refl _ _⟩
  cases by_
  rotate_left
  · obtain rfl : i = 0 := by rw [← hi]; exact if_neg (by simp [HM.out])
    clear hi hx HIm HBI
    go_enter Try.func5, Try.ntmps5
    go_wp2_with (first
      | (go_at_call 8; (with_reducible (refine (balive_any _).mono ?_)); rintro e w' ⟨rfl, rfl⟩)
      | (go_at_call 14; (with_reducible (refine (id_any rank mac _).mono ?_)); rw [HI.out]; rintro e w' ⟨rfl, rfl⟩)
      | (go_at_call 14; (with_reducible (refine (id_any other less _).mono ?_)); rw [HX.out]; rintro e w' ⟨rfl, rfl⟩)
      | (go_at_call 15; (with_reducible (refine (goodr_any mac _).mono ?_)); rw [HG.out]; rintro e w' ⟨rfl, rfl⟩)
      | (go_at_call 16; (with_reducible (refine (manyr_any mac _).mono ?_)); rw [HM.out]; rintro e w' ⟨rfl, rfl⟩)
      | (go_at_call 17; (with_reducible (refine (bridge_any 0 (by decide) _).mono ?_)); rw [show nameB 0 = false from rfl]; rintro e w' ⟨rfl, rfl⟩)
      | (go_at_call 18; (with_reducible (refine (rbridge_any 0 (by decide) _).mono ?_)); rw [show nameB 0 = false from rfl]; rintro e w' ⟨rfl, rfl⟩)
      | (go_at_call 17; (with_reducible (refine (bridge_any mac HMac.out _).mono ?_)); rw [HBM.out]; rintro e w' ⟨rfl, rfl⟩)
      | (go_at_call 18; (with_reducible (refine (rbridge_any mac HMac.out _).mono ?_)); rw [HBM.out]; rintro e w' ⟨rfl, rfl⟩))
    go_ret
    exact ⟨rfl, Below.refl _ _⟩
  have hi' : i = rank * 281474976710656 + mac := by rw [← hi]; exact if_pos ⟨by omega, by omega, HG.out, HM.out⟩
  have hg := HG.out
  simp only [goodB, decide_eq_true_eq] at hg
  obtain ⟨m0, m1⟩ := hg
  have HS := Lib.hid hi'
  have hw : wrap64 (rank * 281474976710656 + mac) = i := by rw [hi']; exact IntWalk.wrap64_in _ (by omega)
  by_cases i0 : i = 0
  · have r0 : rank = 0 := by omega
    have q0 : mac = 0 := by omega
    subst r0 q0 i0
    clear hi hx hi' HS hw c0 m0 m1 HIm HBI
    go_enter Try.func5, Try.ntmps5
    go_wp2_with (first
      | (go_at_call 8; (with_reducible (refine (balive_any _).mono ?_)); rintro e w' ⟨rfl, rfl⟩)
      | (go_at_call 14; (with_reducible (refine (id_any 0 0 _).mono ?_)); rw [HI.out]; rintro e w' ⟨rfl, rfl⟩)
      | (go_at_call 14; (with_reducible (refine (id_any other less _).mono ?_)); rw [HX.out]; rintro e w' ⟨rfl, rfl⟩)
      | (go_at_call 15; (with_reducible (refine (goodr_any 0 _).mono ?_)); rw [HG.out]; rintro e w' ⟨rfl, rfl⟩)
      | (go_at_call 16; (with_reducible (refine (manyr_any 0 _).mono ?_)); rw [HM.out]; rintro e w' ⟨rfl, rfl⟩)
      | (go_at_call 17; (with_reducible (refine (bridge_any 0 (by decide) _).mono ?_)); rw [show nameB 0 = false from rfl]; rintro e w' ⟨rfl, rfl⟩)
      | (go_at_call 18; (with_reducible (refine (rbridge_any 0 (by decide) _).mono ?_)); rw [show nameB 0 = false from rfl]; rintro e w' ⟨rfl, rfl⟩)
      | (go_at_call 17; (with_reducible (refine (bridge_any 0 (by decide) _).mono ?_)); rw [HBM.out]; rintro e w' ⟨rfl, rfl⟩)
      | (go_at_call 18; (with_reducible (refine (rbridge_any 0 (by decide) _).mono ?_)); rw [HBM.out]; rintro e w' ⟨rfl, rfl⟩))
    go_ret
    exact ⟨rfl, Below.refl _ _⟩
  have d0 : (i == 0) = false := by simpa using i0
  by_cases x0 : x = 0
  · subst x0
    clear hi hx hi' HS i0 m0 m1
    go_enter Try.func5, Try.ntmps5
    go_wp2_with (first
      | (go_at_call 8; (with_reducible (refine (balive_any _).mono ?_)); rintro e w' ⟨rfl, rfl⟩)
      | (go_at_call 14; (with_reducible (refine (id_any rank mac _).mono ?_)); rw [HI.out]; rintro e w' ⟨rfl, rfl⟩)
      | (go_at_call 14; (with_reducible (refine (id_any other less _).mono ?_)); rw [HX.out]; rintro e w' ⟨rfl, rfl⟩)
      | (go_at_call 15; (with_reducible (refine (goodr_any mac _).mono ?_)); rw [HG.out]; rintro e w' ⟨rfl, rfl⟩)
      | (go_at_call 16; (with_reducible (refine (manyr_any mac _).mono ?_)); rw [HM.out]; rintro e w' ⟨rfl, rfl⟩)
      | (go_at_call 17; (with_reducible (refine (bridge_any i HIm.out _).mono ?_)); rw [HBI.out]; rintro e w' ⟨rfl, rfl⟩)
      | (go_at_call 18; (with_reducible (refine (rbridge_any i HIm.out _).mono ?_)); rw [HBI.out]; rintro e w' ⟨rfl, rfl⟩)
      | (go_at_call 17; (with_reducible (refine (bridge_any mac HMac.out _).mono ?_)); rw [HBM.out]; rintro e w' ⟨rfl, rfl⟩)
      | (go_at_call 18; (with_reducible (refine (rbridge_any mac HMac.out _).mono ?_)); rw [HBM.out]; rintro e w' ⟨rfl, rfl⟩))
    go_ret
    exact ⟨rfl, Below.refl _ _⟩
  have d1 : (x == 0) = false := by simpa using x0
  obtain hxx | ⟨_, ox0, ox1, lx0, lx1, hxx⟩ := idOf_range other less
  · exact absurd (hx.symm.trans hxx) x0
  rw [hx] at hxx
  rcases (show (rank < other ∨ (rank = other ∧ mac < less)) ∨ (rank = other ∧ mac = less) ∨ (rank = other ∧ less < mac) ∨ other < rank from by omega) with (h | ⟨h, h'⟩) | ⟨h, h'⟩ | ⟨h, h'⟩ | h
  · have e1 : (i == x) = false := by simp; omega
    have e2 : decide (i < x) = true := by simp; omega
    have e3 : (rank == other) = false := by simp; omega
    have e4 : decide (rank < other) = true := by simp; omega
    clear hi hx hi' HS i0 x0 hxx m0 m1 ox0 ox1 lx0 lx1 h
    go_enter Try.func5, Try.ntmps5
    go_wp2_with (first
      | (go_at_call 8; (with_reducible (refine (balive_any _).mono ?_)); rintro e w' ⟨rfl, rfl⟩)
      | (go_at_call 14; (with_reducible (refine (id_any rank mac _).mono ?_)); rw [HI.out]; rintro e w' ⟨rfl, rfl⟩)
      | (go_at_call 14; (with_reducible (refine (id_any other less _).mono ?_)); rw [HX.out]; rintro e w' ⟨rfl, rfl⟩)
      | (go_at_call 15; (with_reducible (refine (goodr_any mac _).mono ?_)); rw [HG.out]; rintro e w' ⟨rfl, rfl⟩)
      | (go_at_call 16; (with_reducible (refine (manyr_any mac _).mono ?_)); rw [HM.out]; rintro e w' ⟨rfl, rfl⟩)
      | (go_at_call 17; (with_reducible (refine (bridge_any i HIm.out _).mono ?_)); rw [HBI.out]; rintro e w' ⟨rfl, rfl⟩)
      | (go_at_call 18; (with_reducible (refine (rbridge_any i HIm.out _).mono ?_)); rw [HBI.out]; rintro e w' ⟨rfl, rfl⟩)
      | (go_at_call 17; (with_reducible (refine (bridge_any mac HMac.out _).mono ?_)); rw [HBM.out]; rintro e w' ⟨rfl, rfl⟩)
      | (go_at_call 18; (with_reducible (refine (rbridge_any mac HMac.out _).mono ?_)); rw [HBM.out]; rintro e w' ⟨rfl, rfl⟩))
    go_ret
    exact ⟨rfl, Below.refl _ _⟩
  · have e1 : (i == x) = false := by simp; omega
    have e2 : decide (i < x) = true := by simp; omega
    have e3 : (rank == other) = true := by simp; omega
    have e4 : decide (rank < other) = false := by simp; omega
    have e5 : (mac == less) = false := by simp; omega
    have e6 : decide (mac < less) = true := by simp; omega
    clear hi hx hi' HS i0 x0 hxx m0 m1 ox0 ox1 lx0 lx1 h h'
    go_enter Try.func5, Try.ntmps5
    go_wp2_with (first
      | (go_at_call 8; (with_reducible (refine (balive_any _).mono ?_)); rintro e w' ⟨rfl, rfl⟩)
      | (go_at_call 14; (with_reducible (refine (id_any rank mac _).mono ?_)); rw [HI.out]; rintro e w' ⟨rfl, rfl⟩)
      | (go_at_call 14; (with_reducible (refine (id_any other less _).mono ?_)); rw [HX.out]; rintro e w' ⟨rfl, rfl⟩)
      | (go_at_call 15; (with_reducible (refine (goodr_any mac _).mono ?_)); rw [HG.out]; rintro e w' ⟨rfl, rfl⟩)
      | (go_at_call 16; (with_reducible (refine (manyr_any mac _).mono ?_)); rw [HM.out]; rintro e w' ⟨rfl, rfl⟩)
      | (go_at_call 17; (with_reducible (refine (bridge_any i HIm.out _).mono ?_)); rw [HBI.out]; rintro e w' ⟨rfl, rfl⟩)
      | (go_at_call 18; (with_reducible (refine (rbridge_any i HIm.out _).mono ?_)); rw [HBI.out]; rintro e w' ⟨rfl, rfl⟩)
      | (go_at_call 17; (with_reducible (refine (bridge_any mac HMac.out _).mono ?_)); rw [HBM.out]; rintro e w' ⟨rfl, rfl⟩)
      | (go_at_call 18; (with_reducible (refine (rbridge_any mac HMac.out _).mono ?_)); rw [HBM.out]; rintro e w' ⟨rfl, rfl⟩))
    go_ret
    exact ⟨rfl, Below.refl _ _⟩
  · have e1 : (i == x) = true := by simp; omega
    have e2 : decide (i < x) = false := by simp; omega
    have e3 : (rank == other) = true := by simp; omega
    have e4 : decide (rank < other) = false := by simp; omega
    have e5 : (mac == less) = true := by simp; omega
    have e6 : decide (mac < less) = false := by simp; omega
    clear hi hx hi' HS i0 x0 hxx m0 m1 ox0 ox1 lx0 lx1 h h'
    go_enter Try.func5, Try.ntmps5
    go_wp2_with (first
      | (go_at_call 8; (with_reducible (refine (balive_any _).mono ?_)); rintro e w' ⟨rfl, rfl⟩)
      | (go_at_call 14; (with_reducible (refine (id_any rank mac _).mono ?_)); rw [HI.out]; rintro e w' ⟨rfl, rfl⟩)
      | (go_at_call 14; (with_reducible (refine (id_any other less _).mono ?_)); rw [HX.out]; rintro e w' ⟨rfl, rfl⟩)
      | (go_at_call 15; (with_reducible (refine (goodr_any mac _).mono ?_)); rw [HG.out]; rintro e w' ⟨rfl, rfl⟩)
      | (go_at_call 16; (with_reducible (refine (manyr_any mac _).mono ?_)); rw [HM.out]; rintro e w' ⟨rfl, rfl⟩)
      | (go_at_call 17; (with_reducible (refine (bridge_any i HIm.out _).mono ?_)); rw [HBI.out]; rintro e w' ⟨rfl, rfl⟩)
      | (go_at_call 18; (with_reducible (refine (rbridge_any i HIm.out _).mono ?_)); rw [HBI.out]; rintro e w' ⟨rfl, rfl⟩)
      | (go_at_call 17; (with_reducible (refine (bridge_any mac HMac.out _).mono ?_)); rw [HBM.out]; rintro e w' ⟨rfl, rfl⟩)
      | (go_at_call 18; (with_reducible (refine (rbridge_any mac HMac.out _).mono ?_)); rw [HBM.out]; rintro e w' ⟨rfl, rfl⟩))
    go_ret
    exact ⟨rfl, Below.refl _ _⟩
  · have e1 : (i == x) = false := by simp; omega
    have e2 : decide (i < x) = false := by simp; omega
    have e3 : (rank == other) = true := by simp; omega
    have e4 : decide (rank < other) = false := by simp; omega
    have e5 : (mac == less) = false := by simp; omega
    have e6 : decide (mac < less) = false := by simp; omega
    clear hi hx hi' HS i0 x0 hxx m0 m1 ox0 ox1 lx0 lx1 h h'
    go_enter Try.func5, Try.ntmps5
    go_wp2_with (first
      | (go_at_call 8; (with_reducible (refine (balive_any _).mono ?_)); rintro e w' ⟨rfl, rfl⟩)
      | (go_at_call 14; (with_reducible (refine (id_any rank mac _).mono ?_)); rw [HI.out]; rintro e w' ⟨rfl, rfl⟩)
      | (go_at_call 14; (with_reducible (refine (id_any other less _).mono ?_)); rw [HX.out]; rintro e w' ⟨rfl, rfl⟩)
      | (go_at_call 15; (with_reducible (refine (goodr_any mac _).mono ?_)); rw [HG.out]; rintro e w' ⟨rfl, rfl⟩)
      | (go_at_call 16; (with_reducible (refine (manyr_any mac _).mono ?_)); rw [HM.out]; rintro e w' ⟨rfl, rfl⟩)
      | (go_at_call 17; (with_reducible (refine (bridge_any i HIm.out _).mono ?_)); rw [HBI.out]; rintro e w' ⟨rfl, rfl⟩)
      | (go_at_call 18; (with_reducible (refine (rbridge_any i HIm.out _).mono ?_)); rw [HBI.out]; rintro e w' ⟨rfl, rfl⟩)
      | (go_at_call 17; (with_reducible (refine (bridge_any mac HMac.out _).mono ?_)); rw [HBM.out]; rintro e w' ⟨rfl, rfl⟩)
      | (go_at_call 18; (with_reducible (refine (rbridge_any mac HMac.out _).mono ?_)); rw [HBM.out]; rintro e w' ⟨rfl, rfl⟩))
    go_ret
    exact ⟨rfl, Below.refl _ _⟩
  · have e1 : (i == x) = false := by simp; omega
    have e2 : decide (i < x) = false := by simp; omega
    have e3 : (rank == other) = false := by simp; omega
    have e4 : decide (rank < other) = false := by simp; omega
    clear hi hx hi' HS i0 x0 hxx m0 m1 ox0 ox1 lx0 lx1 h
    go_enter Try.func5, Try.ntmps5
    go_wp2_with (first
      | (go_at_call 8; (with_reducible (refine (balive_any _).mono ?_)); rintro e w' ⟨rfl, rfl⟩)
      | (go_at_call 14; (with_reducible (refine (id_any rank mac _).mono ?_)); rw [HI.out]; rintro e w' ⟨rfl, rfl⟩)
      | (go_at_call 14; (with_reducible (refine (id_any other less _).mono ?_)); rw [HX.out]; rintro e w' ⟨rfl, rfl⟩)
      | (go_at_call 15; (with_reducible (refine (goodr_any mac _).mono ?_)); rw [HG.out]; rintro e w' ⟨rfl, rfl⟩)
      | (go_at_call 16; (with_reducible (refine (manyr_any mac _).mono ?_)); rw [HM.out]; rintro e w' ⟨rfl, rfl⟩)
      | (go_at_call 17; (with_reducible (refine (bridge_any i HIm.out _).mono ?_)); rw [HBI.out]; rintro e w' ⟨rfl, rfl⟩)
      | (go_at_call 18; (with_reducible (refine (rbridge_any i HIm.out _).mono ?_)); rw [HBI.out]; rintro e w' ⟨rfl, rfl⟩)
      | (go_at_call 17; (with_reducible (refine (bridge_any mac HMac.out _).mono ?_)); rw [HBM.out]; rintro e w' ⟨rfl, rfl⟩)
      | (go_at_call 18; (with_reducible (refine (rbridge_any mac HMac.out _).mono ?_)); rw [HBM.out]; rintro e w' ⟨rfl, rfl⟩))
    go_ret
    exact ⟨rfl, Below.refl _ _⟩
set_option maxRecDepth 100000 in
theorem liftedBpduNames (os : Os) (started : os.Started) (H : Type) (enc : TypeId × Value → H) :
    ReturnsInHanded {} Try.checked os 5 .any (Rows.bpduNamesSpec.pre6 enc Try.prog Try.f5 Rows.bpduNamesRow.domain false) (Rows.bpduNamesSpec.post enc Try.prog Try.f5 false true false false) := by
  refine returnsInHanded_of_change (C := Try.checked) own started (by kernel_rfl) Try.func5
    (ChangeSpec.witness6 (enc := enc) (C := Try.checked) false ⟨#[], #[.int .i64 0, .int .i64 0, .int .i64 0, .int .i64 0], []⟩ 8 (by kernel_rfl) (by kernel_rfl) (by kernel_rfl) (by kernel_rfl)) ?_
  intro W base args ds gs before hval0 hW hcnd _
  have hval : ∀ (j : Nat) t v, Try.f5.params[j]? = some t → args[j]? = some v → Value.okWide Try.prog W .any base t v := hval0
  have hW' := hW
  obtain ⟨p, q, hA0, hV, rfl, hfz, hnd⟩ := hW
  have hA : DataW.TrodAll enc Try.prog W 0 (fun _ => true) true Try.f5.params.toList args.toList ds p := hA0
  rw [Try.params5] at hA hval
  obtain ⟨v0, vs0, d0, ds0, p0, q0, hargs, rfl, rfl, h0, r0⟩ := trodAll_cons hA
  obtain ⟨v1, vs1, d1, ds1, p1, q1, rfl, rfl, rfl, h1, r1⟩ := trodAll_cons r0
  obtain ⟨v2, vs2, d2, ds2, p2, q2, rfl, rfl, rfl, h2, r2⟩ := trodAll_cons r1
  obtain ⟨v3, vs3, d3, ds3, p3, q3, rfl, rfl, rfl, h3, r3⟩ := trodAll_cons r2
  obtain ⟨rfl, rfl, rfl⟩ := trodAll_nil r3
  obtain rfl : args = #[v0, v1, v2, v3] := by cases args; simp_all
  obtain ⟨rfl, rfl⟩ := trodVars_none hV
  obtain ⟨a0, rfl, rfl, rfl, w0⟩ := open_int Try.underlying3 (hval 0 3 v0 rfl rfl) h0
  obtain ⟨a1, rfl, rfl, rfl, w1⟩ := open_int Try.underlying3 (hval 1 3 v1 rfl rfl) h1
  obtain ⟨a2, rfl, rfl, rfl, w2⟩ := open_int Try.underlying3 (hval 2 3 v2 rfl rfl) h2
  obtain ⟨a3, rfl, rfl, rfl, w3⟩ := open_int Try.underlying3 (hval 3 3 v3 rfl rfl) h3
  clear hA0 hval0
  refine (walkBpduNames a0 a1 a2 a3 W w0 w1 w2 w3).mono fun e W' ⟨he, bel⟩ => ?_
  subst he
  exact ⟨_, rfl, _, _, _, [], _, [], hW', trodAll_mk1 (shut_bool Try.underlying4 _), (trodAll_cons_mk (shut_int Try.underlying3 w0) (trodAll_cons_mk (shut_int Try.underlying3 w1) (trodAll_cons_mk (shut_int Try.underlying3 w2) (trodAll_cons_mk (shut_int Try.underlying3 w3) trodAll_mk0)))), rfl, bel.frame _, fun h => by cases h⟩

theorem overBpduNames : Rows.bpduNamesRow.holds Try.pinned (OpenSpec.ofChange Rows.bpduNamesSpec) :=
  OpenClaim.holds_of_wide 5 Try.f5 rfl rfl rfl rfl rfl rfl rfl ⟨rfl, rfl, rfl, rfl, rfl⟩ rfl rfl rfl rfl rfl (by kernel_rfl) Try.func5 (by kernel_rfl)
    (of_decide_eq_true (by kernel_rfl)) (by unfold Func.isWrapper; first | (rw [if_pos (by decide +kernel)]; kernel_rfl) | (rw [if_neg (by decide +kernel)]; exact ⟨rfl, rfl⟩))
    (fun os started H enc _ => liftedBpduNames os started H enc)

/-- The statement. -/
theorem bpduNames_holds : Rows.BpduNamesSaid := overBpduNames

#print axioms bpduNames_holds
end Go.Proofs.Ytkghaemnjfiliaa
