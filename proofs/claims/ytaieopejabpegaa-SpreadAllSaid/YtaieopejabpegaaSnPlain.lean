/- What stage 17's statements ask first: the ports' views for the document. No condition but the reach. -/
import Derived.Test.YtaieopejabpegaaSnWant
namespace Go.Proofs.Ytaieopejabpegaa
open Go.RowKit
set_option maxRecDepth 100000

theorem take_x (l : List Vx) (j : Nat) (h : j < l.length) : l.take (j + 1) = l.take j ++ [l.getD j vx0] := by
  rw [List.take_add_one, List.getD_eq_getElem?_getD, List.getElem?_eq_getElem h]
  rfl
set_option maxHeartbeats 8000000 in
theorem splain_any (A : Option Addr) (c : Nat) (l : List Vx) (w : World) (hA : VxAt w w.heap.size A l) (hl : l.length * 56 ≤ 140737488351232) :
    Calls Try.prog 9 #[.slice A l.length c] w fun e w' => ((∃ z, e = .returned (.tuple #[z, .bool false])) ∨ (∃ A' c', e = .returned (.tuple #[.slice A' l.length c', .bool true]) ∧ VxAt w' w'.heap.size A' l ∧ l.length ≤ c' ∧ l.length ≤ 20 ∧ (∀ k, k < l.length → (l.getD k vx0).xs.length ≤ 40 ∧ (l.getD k vx0).bs.length ≤ 100))) ∧ Below w.heap.size w w' := by
  obtain ⟨n, hn⟩ : ∃ n, l.length = n := ⟨_, rfl⟩
  have HA := Lib.hid hA
  have HN := Lib.hid (And.intro hn hl)
  rw [hn]
  clear hA hl hn
  go_enter Try.func9, Try.ntmps9
  go_wp2_with fail
  go_loopw [4, 9] (fun pv iv wr => ∃ (j : Nat) (A1 : Option Addr) (c1 : Nat), j ≤ n ∧ iv = .int .i64 j ∧ pv = .slice A1 j c1 ∧ Hid ((OwnX wr w.heap.size A1 c1 (l.take j) ∧ Below w.heap.size w wr) ∧ ∀ k, k < j → (l.getD k vx0).xs.length ≤ 40 ∧ (l.getD k vx0).bs.length ≤ 100)) (fun _ iv _ => n - (intOf iv).toNat)
  case atStart => exact ⟨0, none, 0, Nat.zero_le _, rfl, rfl, Lib.hid ⟨⟨World.ownsRow_nil _ _ _ _, Below.refl _ _⟩, fun k hk => absurd hk (Nat.not_lt_zero k)⟩⟩
  case round =>
    obtain ⟨j, A1, c1, hj, rfl, rfl, hS'⟩ := hrel
    have hS := Lib.hid hS'.out.1
    by_cases hlt : j < n
    · have hj' : j < l.length := by rw [HN.out.1]; exact hlt
      have htk := take_x l j hj'
      obtain ⟨⟨b, off, rfl, hbl, hc⟩, hr⟩ := HA.out j hj'
      have hc := hc.below hS.out.2 hbl
      obtain ⟨x, hx⟩ : ∃ x, l.getD j vx0 = x := ⟨_, rfl⟩
      have HSM := Lib.hid (And.intro hS'.out.2 hx)
      rw [hx] at hc htk
      obtain ⟨xop, xA, xc, xs, xA', xc', xbs⟩ := x
      obtain ⟨xn, hxn⟩ : ∃ xn, xs.length = xn := ⟨_, rfl⟩
      obtain ⟨xm, hxm⟩ : ∃ xm, xbs.length = xm := ⟨_, rfl⟩
      obtain ⟨q0, q1, q2⟩ := hc
      simp only [hxn, hxm] at q0 q1 q2
      have HX := Lib.hid (And.intro hxn hxm)
      have hlen : (l.take j).length = j := by rw [List.length_take]; omega
      have j1 : (j : Int) < n := by omega
      have j0 : (0 : Int) ≤ j := by omega
      have HLT := Lib.hid hlt
      have HJ := Lib.hid (show wrap64 ((j : Int) + 1) = (j : Int) + 1 from IntWalk.wrap64_in _ (by have := HN.out.2; have := HN.out.1; omega))
      have HBB := Lib.hid (hS.out.2.trans ((bel_alloc wr (.cells #[.bool xop, .slice xA xn xc, .slice xA' xm xc'] 43)).mono hS.out.2.size))
      by_cases d0 : 40 < (xn : Int)
      · clear hr hbl hx hj hj' htk hlen hxn hxm
        go_wp2_with fail
        go_ret2
        exact ⟨.inl ⟨_, rfl⟩, HBB.out⟩
      · have d0' : (xn : Int) ≤ 40 := by omega
        clear d0
        by_cases d1 : 100 < (xm : Int)
        · clear hr hbl hx hj hj' htk hlen hxn hxm
          go_wp2_with fail
          go_ret2
          exact ⟨.inl ⟨_, rfl⟩, HBB.out⟩
        · have d1' : (xm : Int) ≤ 100 := by omega
          clear d1
          have o1 : OwnX (wr.alloc (.cells #[.bool xop, .slice xA xn xc, .slice xA' xm xc'] 43)) w.heap.size A1 c1 (l.take j) := World.ownsRow.alloc hS.out.1 _
          have o2 : OwnX ((wr.alloc (.cells #[.bool xop, .slice xA xn xc, .slice xA' xm xc'] 43)).alloc (.cells #[.bool xop, .slice xA xn xc, .slice xA' xm xc'] 38)) w.heap.size A1 c1 (l.take j) := World.ownsRow.alloc o1 _
          have z2 : Blk ((wr.alloc (.cells #[.bool xop, .slice xA xn xc, .slice xA' xm xc'] 43)).alloc (.cells #[.bool xop, .slice xA xn xc, .slice xA' xm xc'] 38)) (wr.heap.size + 1) 38 (Vx.cells ⟨xop, xA, xc, xs, xA', xc', xbs⟩).toArray := by
            have := Blk.new (wr.alloc (.cells #[.bool xop, .slice xA xn xc, .slice xA' xm xc'] 43)) 38 #[.bool xop, .slice xA xn xc, .slice xA' xm xc']
            rw [show (wr.alloc (.cells #[.bool xop, .slice xA xn xc, .slice xA' xm xc'] 43)).heap.size = wr.heap.size + 1 by simp] at this
            rw [← hxn, ← hxm] at this ⊢
            exact this
          have hsz : w.heap.size ≤ ((wr.alloc (.cells #[.bool xop, .slice xA xn xc, .slice xA' xm xc'] 43)).alloc (.cells #[.bool xop, .slice xA xn xc, .slice xA' xm xc'] 38)).heap.size := Nat.le_trans hS.out.2.size (bel_alloc2 wr _ _).size
          obtain ⟨a', c', w3, hrun, ho3, hg3⟩ := append_x ((wr.alloc (.cells #[.bool xop, .slice xA xn xc, .slice xA' xm xc'] 43)).alloc (.cells #[.bool xop, .slice xA xn xc, .slice xA' xm xc'] 38)) w.heap.size A1 c1 j (l.take j) hlen o2 (wr.heap.size + 1) _ z2 (by rw [hlen]; have := HN.out.2; have := HN.out.1; omega) hsz
          have hb3 : Below w.heap.size w w3 := (hS.out.2.trans ((bel_alloc2 wr _ _).mono hS.out.2.size)).trans (by have ho := o2; unfold OwnX at ho; rw [hlen] at ho; exact bel_own ho hg3 (Nat.le_refl _) hsz)
          rw [← htk] at ho3
          have HR := Lib.hid hrun
          have HEND := Lib.hid (show (OwnX w3 w.heap.size a' c' (l.take (j + 1)) ∧ Below w.heap.size w w3) ∧ ∀ k, k < j + 1 → (l.getD k vx0).xs.length ≤ 40 ∧ (l.getD k vx0).bs.length ≤ 100 from ⟨⟨ho3, hb3⟩, fun k hk => by
            by_cases e : k = j
            · subst e
              rw [HSM.out.2]
              have := HX.out
              show xs.length ≤ 40 ∧ xbs.length ≤ 100
              omega
            · exact HSM.out.1 k (by omega)⟩)
          clear hr hbl hx hj hj' htk hlen hxn hxm o1 o2 z2 hsz hrun ho3 hg3 hb3
          go_wp2_with (at_builtin; refine Lib.wpList_append_run _ rfl _ _ _ _ rfl _ _ rfl rfl _ _ HR.out ?_)
          go_roundw
          case rel =>
            rw [HJ.out]
            exact ⟨j + 1, a', c', HLT.out, by rw [Int.natCast_add]; rfl, rfl, HEND⟩
          case measure =>
            rw [HJ.out]
            show n - ((j : Int) + 1).toNat < n - ((j : Int)).toNat
            have := HLT.out
            omega
    · obtain rfl : n = j := by omega
      have htk : l.take n = l := List.take_of_length_le (by rw [HN.out.1]; exact Nat.le_refl _)
      have ho : OwnX wr w.heap.size A1 c1 l := by have := hS.out.1; rw [htk] at this; exact this
      have HO := Lib.hid (And.intro ho (And.intro hS.out.2 hS'.out.2))
      have HC := Lib.hid (show n ≤ c1 by have h := ho; unfold OwnX at h; rw [HN.out.1] at h; exact (own_cap h).1)
      clear htk ho hS hS' hj hlt
      by_cases d : (n : Int) ≤ 20
      · go_wp2_with fail
        go_ret2
        have hv : VxAt wr wr.heap.size A1 l := HO.out.1.vx fun k hk => Vx.rows_more (Vx.rows_below (HA.out k hk).2 HO.out.2.1) HO.out.2.1.size
        exact ⟨.inr ⟨A1, c1, rfl, hv, HC.out, by omega, HO.out.2.2⟩, HO.out.2.1⟩
      · have d' : 20 < (n : Int) := by omega
        go_wp2_with fail
        go_ret2
        exact ⟨.inl ⟨_, rfl⟩, HO.out.2.1⟩
end Go.Proofs.Ytaieopejabpegaa
