/- spread.Wants, as a contract. Its condition: at most 20 ports of 40 attributes. -/
import Derived.Test.YtaieopejabpegaaSnTwo
import Derived.Test.YtaieopejabpegaaSnAlive
import Derived.Laws.MakeOwn
namespace Go.Proofs.Ytaieopejabpegaa
open Go.RowKit
set_option maxRecDepth 100000

/-- Numbers at block g: of n places the first j are known. -/
def RowAt (w : World) (g n : Nat) (f : Nat → Int) (j : Nat) : Prop := ∃ cs, Blk w g 3 cs ∧ cs.size = n ∧ ∀ k, k < j → cs[k]? = some (.int .i64 (f k))
structure WSt (w wr : World) (a : At) (g n : Nat) (f : Nat → Int) (j : Nat) : Prop where
  box : Boxd w wr a
  row : RowAt wr g n f j
  ne : w.heap.size < g
theorem WSt.go {w wr w' : World} {a : At} {g n j : Nat} {f : Nat → Int} (h : WSt w wr a g n f j) (hb : Below wr.heap.size wr w') : WSt w w' a g n f j := by
  obtain ⟨cs, hk, h1, h2⟩ := h.row
  exact ⟨⟨h.box.1.trans (hb.mono h.box.1.size), h.box.2.below hb h.box.2.lt⟩, ⟨cs, hk.below hb hk.lt, h1, h2⟩, h.ne⟩
theorem WSt.cell {w wr : World} {a : At} {g n j : Nat} {f : Nat → Int} (h : WSt w wr a g n f j) {k : Nat} (hk : k < n) : (∃ v0, wr.cell? ⟨g, k, none⟩ = some v0) ∧ wr.frozen? ⟨g, k, none⟩ = false := by
  obtain ⟨cs, hb, h1, h2⟩ := h.row
  exact ⟨⟨cs[k]'(by omega), by rw [hb.cell, Array.getElem?_eq_getElem (by omega)]⟩, hb.frozen k⟩
theorem WSt.next {w wr : World} {a : At} {g n j : Nat} {f : Nat → Int} (h : WSt w wr a g n f j) (hj : j < n) {v : Int} (hv : f j = v) : WSt w (wr.setCell ⟨g, j, none⟩ (.int .i64 v)) a g n f (j + 1) := by
  obtain ⟨cs, hb, h1, h2⟩ := h.row
  have hbr := Blk.set_ hb j (.int .i64 v)
  have hne : w.heap.size ≠ (⟨g, j, none⟩ : Addr).block := Nat.ne_of_lt h.ne
  refine ⟨⟨h.box.1.setCell (Nat.le_of_lt h.ne) _, h.box.2.far hne _⟩, ⟨_, hbr, by simp [h1], fun k hk => ?_⟩, h.ne⟩
  by_cases e : k = j
  · subst e
    rw [hv]
    simp [h1, hj]
  · rw [Array.getElem?_setIfInBounds_ne (by omega)]
    exact h2 k (by omega)
theorem RowAt.ints {w : World} {g n : Nat} {f : Nat → Int} (h : RowAt w g n f n) {l : List Int} (hl : l.length = n) (hf : ∀ k, k < n → l.getD k 0 = f k) : IntAt w w.heap.size (some ⟨g, 0, none⟩) l := fun k hk => by
  obtain ⟨cs, hb, h1, h2⟩ := h
  refine ⟨g, 0, rfl, hb.lt, ?_⟩
  rw [Nat.zero_add, hb.cell, h2 k (by omega), hf k (by omega)]
set_option maxHeartbeats 8000000 in
theorem swants_any (A : Option Addr) (c : Nat) (l : List Vx) (a : At) (own : Int) (w : World) (hA : VxAt w w.heap.size A l) (hl : l.length ≤ 1048576) (hx : ∀ k, k < l.length → (l.getD k vx0).xs.length ≤ 1048576) :
    Calls Try.prog 10 #[.slice A l.length c, .agg #[.int .i64 a.t, .int .i64 a.v], .int .i64 own] w fun e w' => ∃ A' c', e = .returned (.slice A' l.length c') ∧ IntAt w' w'.heap.size A' (wantsL (vws l) a own) ∧ l.length ≤ c' ∧ Below w.heap.size w w' := by
  have HT := Lib.hid (fun (V : World) (hV : Below w.heap.size w V) (o : Int) => two_any A c l a o V ((hA.below hV).more hV.size) hl hx)
  obtain ⟨n, hn⟩ : ∃ n, l.length = n := ⟨_, rfl⟩
  have HA := Lib.hid hA
  have HL := Lib.hid (And.intro hn hl)
  obtain ⟨s, hs⟩ : ∃ s, twoTo (vws l) a (max own (-1)) n = s := ⟨_, rfl⟩
  have HW := Lib.hid (show ∀ i, i < n → wantV (vws l) a own i = wantT (l.getD i vx0).op s i from fun i hi => by
    rw [want_two, vws_at l (by omega), vws_length, hn, hs]
    rfl)
  have HN := Lib.hid (show (wantsL (vws l) a own).length = n from by rw [wantsL_length, vws_length, hn])
  have HG := Lib.hid (show ∀ i, i < n → (wantsL (vws l) a own).getD i 0 = wantV (vws l) a own i from fun i hi => wantsL_at _ _ _ (by rw [vws_length, hn]; exact hi))
  rw [hn] at HT ⊢
  have HX := Lib.hid (boxd w a)
  obtain ⟨mo, hmo⟩ : ∃ mo, max own (-1) = mo := ⟨_, rfl⟩
  rw [hmo] at hs
  have HMO := Lib.hid hmo
  have HS := Lib.hid hs
  clear hA hl hx hn hs
  go_enter Try.func10, Try.ntmps10
  go_wp2_with fail
  all_goals
    refine (HT.out _ HX.out.1 _).mono ?_
    rintro e w1 ⟨rfl, b1⟩
    first
      | rw [show twoTo (vws l) a own n = s by rw [← HS.out, ← HMO.out]; congr 1; omega]
      | rw [show twoTo (vws l) a (-1) n = s by rw [← HS.out, ← HMO.out]; congr 1; omega]
    have HB1 := Lib.hid (show Boxd w w1 a from And.intro (HX.out.1.trans (b1.mono HX.out.1.size)) (HX.out.2.below b1 HX.out.2.lt))
    obtain ⟨i0, hi0, hz0, hz1, hz2⟩ := info_parts int_info
    obtain ⟨w5, hms, hrow, hgr⟩ := run_makeSlice_full (P := Try.prog) (w := w1) w1.heap.size 29 3 i0 _ 1 Try.underlying29 hi0 hz0 hz1 .i64 .i64 n (by have := HL.out.2; have := HL.out.1; omega) (by rw [hz2]; have := HL.out.2; have := HL.out.1; omega) (by have := HL.out.2; have := HL.out.1; unfold maxLen; omega) (Nat.le_refl _)
    obtain ⟨gR, hgR⟩ : ∃ z, w1.heap.size = z := ⟨_, rfl⟩
    have hst : WSt w w5 a gR n (fun i => wantT (l.getD i vx0).op s i) 0 := by
      have hb5 : Below w1.heap.size w1 w5 := ⟨hgr.os, hgr.tape, hgr.output, hgr.size, fun k hk => hgr.block k (by omega) (by simp)⟩
      refine ⟨⟨HB1.out.1.trans (hb5.mono HB1.out.1.size), HB1.out.2.below hb5 HB1.out.2.lt⟩, ?_, by rw [← hgR]; exact HB1.out.2.lt⟩
      rcases hrow.2 with ⟨e0, _⟩ | ⟨g', cap', cur, e0, _, hg', _, _, hs', _⟩
      · cases e0
      · injection e0 with e1 _ e3
        injection e1 with e1
        injection e1 with e1
        rw [hgR] at e1
        subst e1 e3
        exact ⟨cur, hg', by rw [hs', Nat.mul_one], fun k hk => absurd hk (Nat.not_lt_zero _)⟩
    rw [hgR] at hms
    have HST := Lib.hid hst
    clear hst hrow hgr hi0 hz0 hz1 hz2 b1
    obtain ⟨hiv, lov, atv⟩ := s
    go_wp2_with fail
    clear hms
    go_loopw [27] (fun iv wr => ∃ j : Nat, j ≤ n ∧ iv = .int .i64 j ∧ Hid (WSt w wr a gR n (fun i => wantT (l.getD i vx0).op ⟨hiv, lov, atv⟩ i) j)) (fun iv _ => n - (intOf iv).toNat)
    case atStart => exact ⟨0, Nat.zero_le _, rfl, HST⟩
    case round =>
      obtain ⟨j, hj, rfl, HS⟩ := hrel
      by_cases hlt : j < n
      · have j1 : (j : Int) < n := by omega
        have j0 : (0 : Int) ≤ j := by omega
        have HLT := Lib.hid hlt
        have HJ := Lib.hid (show wrap64 ((j : Int) + 1) = (j : Int) + 1 from IntWalk.wrap64_in _ (by have := HL.out.2; have := HL.out.1; omega))
        obtain ⟨⟨b, off, eA, hbl, hc⟩, hr⟩ := HA.out j (by rw [HL.out.1]; exact hlt)
        have hc := hc.below HS.out.box.1 hbl
        have hnx : ∀ wz v, WSt w wz a gR n (fun i => wantT (l.getD i vx0).op ⟨hiv, lov, atv⟩ i) j → wantT (l.getD j vx0).op ⟨hiv, lov, atv⟩ j = v → WSt w (wz.setCell ⟨gR, j, none⟩ (.int .i64 v)) a gR n (fun i => wantT (l.getD i vx0).op ⟨hiv, lov, atv⟩ i) (j + 1) := fun wz v hz hv => hz.next hlt hv
        have HNX := Lib.hid hnx
        clear hnx
        obtain ⟨x, hx⟩ : ∃ x, l.getD j vx0 = x := ⟨_, rfl⟩
        rw [hx] at hc HNX
        obtain ⟨q0, q1, q2⟩ := hc
        obtain ⟨xop, xA, xc, xs, xA', xc', xbs⟩ := x
        obtain ⟨xn, hxn⟩ : ∃ xn, xs.length = xn := ⟨_, rfl⟩
        obtain ⟨xm, hxm⟩ : ∃ xm, xbs.length = xm := ⟨_, rfl⟩
        simp only [hxn, hxm] at q0 q1 q2
        have HS2 := Lib.hid (HS.out.go (bel_alloc wr (.cells #[.bool xop, .slice xA xn xc, .slice xA' xm xc'] 43)))
        obtain ⟨⟨v0, c0⟩, f0⟩ := HS2.out.cell hlt
        subst eA
        clear hj hlt hbl hr hx hxn hxm
        cases xop with
        | false =>
          have HE := Lib.hid (HNX.out _ (-1) HS2.out rfl)
          go_wp2_with fail
          go_roundw
          case rel =>
            rw [HJ.out]
            exact ⟨j + 1, HLT.out, by rw [Int.natCast_add]; rfl, HE⟩
          case measure =>
            rw [HJ.out]
            show n - ((j : Int) + 1).toNat < n - ((j : Int)).toNat
            have := HLT.out
            omega
        | true =>
          by_cases hat : (j : Int) = atv
          · have ea : ((j : Int) == atv) = true := by simpa using hat
            have HE := Lib.hid (HNX.out _ lov HS2.out (by show (if (true = false) then _ else _) = _; rw [if_neg (by decide)]; exact if_pos hat))
            clear hat
            go_wp2_with fail
            go_roundw
            case rel =>
              rw [HJ.out]
              exact ⟨j + 1, HLT.out, by rw [Int.natCast_add]; rfl, HE⟩
            case measure =>
              rw [HJ.out]
              show n - ((j : Int) + 1).toNat < n - ((j : Int)).toNat
              have := HLT.out
              omega
          · have ea : ((j : Int) == atv) = false := by simpa using hat
            have HE := Lib.hid (HNX.out _ hiv HS2.out (by show (if (true = false) then _ else _) = _; rw [if_neg (by decide)]; exact if_neg hat))
            clear hat
            go_wp2_with fail
            go_roundw
            case rel =>
              rw [HJ.out]
              exact ⟨j + 1, HLT.out, by rw [Int.natCast_add]; rfl, HE⟩
            case measure =>
              rw [HJ.out]
              show n - ((j : Int) + 1).toNat < n - ((j : Int)).toNat
              have := HLT.out
              omega
      · obtain rfl : j = n := by omega
        clear hj hlt
        have HE := Lib.hid (show IntAt wr wr.heap.size (some ⟨gR, 0, none⟩) (wantsL (vws l) a own) from HS.out.row.ints HN.out (fun k hk => by rw [HG.out k hk, HW.out k hk]))
        go_wp2_with fail
        go_ret
        exact ⟨_, _, rfl, HE.out, Nat.le_refl _, HS.out.box.1⟩
theorem wantsIs : WantsIs := fun A c l a own w hA hl hx => swants_any A c l a own w hA (by omega) (fun k hk => by have := hx k hk; omega)
end Go.Proofs.Ytaieopejabpegaa
