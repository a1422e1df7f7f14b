/- RegisKeeps: what is registered, and Normal, was said at most Life ticks ago; a Forbidden one never is, a Fixed one always. No condition. -/
import Derived.Test.YtoiapdcleagepaaRgAlive
import Derived.Test.YtoiapdcleagepaaRgSteps
namespace Go.Proofs.Ytoiapdcleagepaa
open Go.ChangeShapes Go.WideShapes Go.ChangeAt Go.RowKit Go.Deep
set_option maxRecDepth 100000

/-- What is registered was said, not too long ago, and no later than the last word. -/
def Kept (r : Rg) (last T : Int) : Prop := r.state ≠ 0 → 0 ≤ r.born ∧ r.born ≤ last ∧ T - r.born ≤ 120
theorem kept_step {r : Rg} {last T : Int} (h : Kept r last T) (_hs : r.state = 0 ∨ r.state = 1 ∨ r.state = 2) {e : Int} (he : e = 1 ∨ e = 2 ∨ e = 3 ∨ e = 4) : Kept (stepR r e T) last T := fun hn => h (fun h0 => by
  apply hn
  show (cellR r.state e).1 = 0
  rw [h0]
  rcases he with rfl | rfl | rfl | rfl <;> rfl)
theorem kept_hear {r : Rg} {last T ev b : Int} (h : Kept r last T) (hs : r.state = 0 ∨ r.state = 1 ∨ r.state = 2) : Kept (hearR r ev b T) (if ev = 0 ∨ ev = 1 ∨ ev = 3 then max last (min b T) else last) T := by
  unfold hearR
  by_cases hj : ev = 0 ∨ ev = 1 ∨ ev = 3
  · rw [if_pos hj, if_pos hj]
    unfold joinR
    by_cases hc : min b T < 0 ∨ 120 < T - min b T
    · rw [if_pos hc]
      intro hn
      have := h hn
      have := Int.le_max_left last (min b T)
      omega
    · rw [if_neg hc]
      intro _
      show 0 ≤ (if r.state = 0 then min b T else max (min b T) r.born) ∧ (if r.state = 0 then min b T else max (min b T) r.born) ≤ max last (min b T) ∧ T - (if r.state = 0 then min b T else max (min b T) r.born) ≤ 120
      have h1 := Int.le_max_right last (min b T)
      have h2 := Int.le_max_left last (min b T)
      by_cases h0 : r.state = 0
      · rw [if_pos h0]
        omega
      · rw [if_neg h0]
        have := h h0
        have h3 := Int.le_max_left (min b T) r.born
        have h4 : max (min b T) r.born ≤ max last (min b T) := Int.max_le.2 ⟨h1, by omega⟩
        omega
  · rw [if_neg hj, if_neg hj]
    split
    · exact kept_step h hs (.inl rfl)
    · exact h
theorem kept_tick {r : Rg} {last T : Int} (T0 : Int) (h : Kept r last T0) (hs : r.state = 0 ∨ r.state = 1 ∨ r.state = 2) : Kept (tickR r T) last T := by
  by_cases h0 : r.state = 0
  · rw [tickR_0 T h0]
    exact fun hn => absurd h0 hn
  by_cases hd : r.state = 1 ∧ 24 ≤ T - r.left
  · rw [tickR_A hd.1 hd.2]
    intro hn
    exact absurd (show (cellR r.state 3).1 = 0 by rw [hd.1]; rfl) hn
  by_cases ho : 120 < T - r.born
  · rw [tickR_B h0 hd ho]
    intro hn
    exact absurd (show (cellR r.state 4).1 = 0 by rcases hs with e | e | e <;> rw [e] <;> rfl) hn
  · rw [tickR_C hd ho]
    intro hn
    have := h hn
    exact ⟨this.1, this.2.1, by omega⟩
theorem kmode_hear (r : Rg) (ev b T : Int) : (hearR r ev b T).mode = r.mode := by
  unfold hearR joinR
  repeat' split
  all_goals rfl
theorem kmode_tick (r : Rg) (T : Int) : (tickR r T).mode = r.mode := by
  unfold tickR ageR leaveR
  repeat' split
  all_goals rfl
theorem kgoodB_of {m : Int} (h0 : ¬ m < 0) (h2 : ¬ 2 < m) : goodB m = true := by
  unfold goodB
  rw [decide_eq_true (by omega : 0 ≤ m), decide_eq_true (by omega : m ≤ 2)]
  rfl
/-- All that is so at a loop's head. -/
structure KeepS (w0 w : World) (g : Nat) (m : Int) (r : Rg) (last T : Int) : Prop where
  at_ : RgAt w g r
  low : w0.heap.size ≤ g
  bel : Below w0.heap.size w0 w
  mode : r.mode = m
  ok : OkR T r
  kept : Kept r last T
  last : -1 ≤ last ∧ last ≤ T
theorem KeepS.go {w0 w w' : World} {g : Nat} {m : Int} {r r' : Rg} {last T : Int} (h : KeepS w0 w g m r last T) (h1 : RgAt w' g r') (t : Touch (fun k => k = g) w w') (hm : r'.mode = r.mode) {T' last' : Int} (ho : OkR T' r') (hk : Kept r' last' T') (hl : -1 ≤ last' ∧ last' ≤ T') : KeepS w0 w' g m r' last' T' :=
  ⟨h1, h.low, below_reg h.bel t h.low, hm.trans h.mode, ho, hk, hl⟩
theorem KeepS.alloc {w0 w : World} {g : Nat} {m : Int} {r : Rg} {last T : Int} (h : KeepS w0 w g m r last T) (o : Obj) : KeepS w0 (w.alloc o) g m r last T := ⟨Blk.alloc h.at_ o, h.low, h.bel.alloc h.bel.size o, h.mode, h.ok, h.kept, h.last⟩
set_option maxHeartbeats 8000000 in
theorem walkRegisKeeps (mode : Int) (A : Option Addr) (c : Nat) (l : List St) (w : World) (_hm : (Lit.int .i64 mode).wf = true) (hl : StAt w w.heap.size A l ∧ (∀ x ∈ l, x.ok) ∧ l.length ≤ maxLen) :
    Calls Try.prog 4 #[.int .i64 mode, .slice A l.length c] w fun e w' => e = .returned (.bool true) ∧ Below w.heap.size w w' := by
  have HAL := Lib.hid (ralive_any w)
  have HG := Lib.hid (fun w (h : StAt w w.heap.size A l) => sgreat_any A c l w h hl.2.2)
  have HL := Lib.hid hl
  obtain ⟨n, hn⟩ : ∃ n, l.length = n := ⟨_, rfl⟩
  rw [hn] at HG ⊢
  have HN := Lib.hid hn
  have n0 : (0 : Int) ≤ n := by omega
  clear hl hn _hm
  go_enter Try.func4, Try.ntmps4
  go_wp2_with fail
  refine HAL.out.mono ?_
  rintro e w1 ⟨rfl, b1⟩
  have HGG := Lib.hid (HG.out w1 ((HL.out.1.below b1).more b1.size))
  have HB1 := Lib.hid b1
  clear b1
  by_cases q0 : mode < 0
  · go_wp2_with fail
    refine HGG.out.mono ?_
    rintro e w2 (⟨rfl, b2⟩ | ⟨rfl, _, b2⟩)
    all_goals
      have hf := HB1.out.trans (b2.mono HB1.out.size)
      clear b2
      go_wp2_with fail
      go_ret
      exact ⟨rfl, hf⟩
  have e0 : decide (mode < 0) = false := decide_eq_false q0
  by_cases q1 : 2 < mode
  · go_wp2_with fail
    refine HGG.out.mono ?_
    rintro e w2 (⟨rfl, b2⟩ | ⟨rfl, _, b2⟩)
    all_goals
      have hf := HB1.out.trans (b2.mono HB1.out.size)
      clear b2
      go_wp2_with fail
      go_ret
      exact ⟨rfl, hf⟩
  have e1 : decide (2 < mode) = false := decide_eq_false q1
  have HGB := Lib.hid (kgoodB_of q0 q1)
  have HMO := Lib.hid (show mode = 0 ∨ mode = 1 ∨ mode = 2 by omega)
  clear q0 q1
  go_wp2_with fail
  refine HGG.out.mono ?_
  rintro e w2 (⟨rfl, b2⟩ | ⟨rfl, ⟨hn100, hpl⟩, b2⟩)
  · have hf := HB1.out.trans (b2.mono HB1.out.size)
    clear b2
    go_wp2_with fail
    go_ret
    exact ⟨rfl, hf⟩
  have HP := Lib.hid (And.intro hn100 (And.intro hpl (HB1.out.trans (b2.mono HB1.out.size))))
  clear b2 hn100 hpl
  go_wp2_with fail
  refine (rnew_ok mode HGB.out _).mono ?_
  rintro e w3 ⟨g, rfl, h3, b3, hg⟩
  have HST := Lib.hid (show KeepS w w3 g mode ⟨mode, 0, 0, 0⟩ (-1) 0 from ⟨h3, Nat.le_trans HP.out.2.2.size hg, HP.out.2.2.trans (b3.mono HP.out.2.2.size), rfl, okR_new HGB.out (Int.le_refl _), fun h => absurd rfl h, by decide, by decide⟩)
  clear h3 b3 hg
  go_wp2_with fail
  go_loopw [7, 8, 30] (fun nv lv iv wr => ∃ (j : Nat) (r : Rg) (last T : Int), j ≤ n ∧ iv = .int .i64 j ∧ nv = .int .i64 T ∧ lv = .int .i64 last ∧ Hid (KeepS w wr g mode r last T ∧ (0 ≤ T ∧ T ≤ 1000 * j))) (fun _ _ iv _ => n - (intOf iv).toNat)
  case atStart => exact ⟨0, _, -1, 0, Nat.zero_le _, rfl, rfl, rfl, Lib.hid ⟨HST.out, Int.le_refl _, Int.le_refl _⟩⟩
  case round =>
    obtain ⟨j, r, last, T, hj, rfl, rfl, rfl, hS⟩ := hrel
    by_cases hlt : j < n
    rotate_left
    · go_wp2_with fail
      go_ret
      exact ⟨rfl, hS.out.1.bel⟩
    have j1 : (j : Int) < n := by omega
    have j0 : (0 : Int) ≤ j := by omega
    have HJ := Lib.hid (show wrap64 ((j : Int) + 1) = (j : Int) + 1 from IntWalk.wrap64_in _ (by have := HP.out.1; omega))
    have hj' : j < l.length := by rw [HN.out]; exact hlt
    obtain ⟨b, off, rfl, hbl, hc⟩ := HL.out.1 j hj'
    have hc := hc.below hS.out.1.bel hbl
    have hxo := HL.out.2.1 (l.getD j st0) (by rw [List.getD_eq_getElem?_getD, List.getElem?_eq_getElem hj']; exact List.getElem_mem hj')
    have hwt := HP.out.2.1 j hlt
    obtain ⟨x, hx⟩ : ∃ x, l.getD j st0 = x := ⟨_, rfl⟩
    rw [hx] at hc hxo hwt
    obtain ⟨k0, k1, k2, k3⟩ := x
    obtain ⟨c0, c1, c2, c3⟩ := hc
    obtain ⟨W, hW⟩ : ∃ W, wr.alloc (.cells #[.int .i64 k0, .int .i64 k1, .int .i64 k2, .int .i64 k3] 38) = W := ⟨_, rfl⟩
    have hbk : Blk W wr.heap.size 38 #[.int .i64 k0, .int .i64 k1, .int .i64 k2, .int .i64 k3] := by rw [← hW]; exact Blk.new _ _ _
    have hKW : KeepS w W g mode r last T := by rw [← hW]; exact hS.out.1.alloc _
    have hne : wr.heap.size ≠ g := by have := hS.out.1.at_.lt; omega
    have hTk : Tk T := ⟨hS.out.2.1, by have := hS.out.2.2; have := HP.out.1; omega⟩
    have HX := Lib.hid (And.intro hxo hwt)
    have HW := Lib.hid (And.intro hKW (And.intro hTk (And.intro hbk hne)))
    have s0 : W.cell? ⟨wr.heap.size, 0, none⟩ = some (.int .i64 k0) := hbk.cell 0
    have s1 : W.cell? ⟨wr.heap.size, 1, none⟩ = some (.int .i64 k1) := hbk.cell 1
    have s2 : W.cell? ⟨wr.heap.size, 2, none⟩ = some (.int .i64 k2) := hbk.cell 2
    have s3 : W.cell? ⟨wr.heap.size, 3, none⟩ = some (.int .i64 k3) := hbk.cell 3
    have HEND := Lib.hid (fun (V : World) (r' : Rg) (last' T' : Int) (h : KeepS w V g mode r' last' T') (hT : 0 ≤ T' ∧ T' ≤ 1000 * ((j : Int) + 1)) => show ∃ (j' : Nat) (r : Rg) (last T : Int), j' ≤ n ∧ Value.int .i64 ((j : Int) + 1) = .int .i64 j' ∧ Value.int .i64 T' = .int .i64 T ∧ Value.int .i64 last' = .int .i64 last ∧ Hid (KeepS w V g mode r last T ∧ (0 ≤ T ∧ T ≤ 1000 * j')) from
      ⟨j + 1, r', last', T', hlt, by rw [Int.natCast_add]; rfl, rfl, rfl, Lib.hid ⟨h, hT.1, by have := hT.2; omega⟩⟩)
    have HT0 := Lib.hid (show 0 ≤ T ∧ T ≤ 1000 * ((j : Int) + 1) from ⟨hS.out.2.1, by have := hS.out.2.2; omega⟩)
    clear hbl hx hxo hwt hj' hj hbk hKW hne hTk
    have HTK := Lib.hid HW.out.2.1
    have HTB := HT0
    by_cases d0 : k0 = 0
    · subst d0
      go_wp2_with fail
      refine (rhear_any HW.out.1.at_ HW.out.1.ok HW.out.2.1 k1 k2).mono ?_
      rintro e w5 ⟨rfl, h5, t5⟩
      have hb5 := HW.out.2.2.1.touch t5 HW.out.2.2.2
      have z1 : w5.cell? ⟨wr.heap.size, 1, none⟩ = some (.int .i64 k1) := hb5.cell 1
      have z2 : w5.cell? ⟨wr.heap.size, 2, none⟩ = some (.int .i64 k2) := hb5.cell 2
      have hkh := kept_hear (ev := k1) (b := k2) HW.out.1.kept HW.out.1.ok.state
      have hll : -1 ≤ (if k1 = 0 ∨ k1 = 1 ∨ k1 = 3 then max last (min k2 T) else last) ∧ (if k1 = 0 ∨ k1 = 1 ∨ k1 = 3 then max last (min k2 T) else last) ≤ T := by
        have h := HW.out.1.last
        have h2 := Int.le_max_left last (min k2 T)
        split
        · exact ⟨by omega, Int.max_le.2 ⟨h.2, by omega⟩⟩
        · exact h
      have HE := Lib.hid (HW.out.1.go h5 t5 (kmode_hear r k1 k2 T) (HW.out.1.ok.hear HW.out.2.1.1 k1 k2) hkh hll)
      obtain ⟨last', hla'⟩ : ∃ last', (if k1 = 0 ∨ k1 = 1 ∨ k1 = 3 then max last (min k2 T) else last) = last' := ⟨_, rfl⟩
      rw [hla'] at HE
      obtain ⟨r', hr'⟩ : ∃ r', hearR r k1 k2 T = r' := ⟨_, rfl⟩
      rw [hr'] at HE
      clear hr'
      have HLA := Lib.hid hla'
      clear h5 t5 hb5 hkh hll hla' s0 s1 s2 s3 c0 c1 c2 c3
      by_cases hj : k1 = 0 ∨ k1 = 1 ∨ k1 = 3
      · obtain ⟨mn, hmn⟩ : ∃ mn, (if T < k2 then T else k2) = mn := ⟨_, rfl⟩
        have hmn2 : min k2 T = mn := by rw [← hmn]; split <;> omega
        have hmx : (if last < mn then mn else last) = last' := by rw [← HLA.out, if_pos hj, hmn2]; split <;> omega
        clear hmn2 HLA
        rcases hj with rfl | rfl | rfl
        all_goals
          obtain ⟨hok, hkp, hla, hmd⟩ : OkR T r' ∧ Kept r' last' T ∧ (-1 ≤ last' ∧ last' ≤ T) ∧ r'.mode = mode := ⟨HE.out.ok, HE.out.kept, HE.out.last, HE.out.mode⟩
          have HHA := Lib.hid (rhas_any HE.out.at_)
          have HBO := Lib.hid (rborn_any HE.out.at_ T)
          have hbnd : Tk T := HTK.out
          have HD := Lib.hid (show mode = 0 → hasR r' = true → (0 ≤ last' ∧ T - last' ≤ 120 ∧ bornR r' T ≤ last') by
            intro hm hh
            have hs : r'.state ≠ 0 := fun h0 => by unfold hasR at hh; rw [hmd, hm, h0] at hh; exact absurd hh (by decide)
            have hk := hkp hs
            unfold bornR
            rw [hh, if_pos rfl, if_neg (by rw [hmd, hm]; decide)]
            omega)
          have HWR := Lib.hid (show wrap64 (T - last') = T - last' from IntWalk.wrap64_in _ (by unfold Tk at hbnd; omega))
          have HH2 := Lib.hid (show mode = 2 → hasR r' = false from fun h => by unfold hasR; rw [hmd, h]; rfl)
          have HH1 := Lib.hid (show mode = 1 → hasR r' = true from fun h => by unfold hasR; rw [hmd, h]; rfl)
          obtain ⟨bh, hbh⟩ : ∃ bh, hasR r' = bh := ⟨_, rfl⟩
          obtain ⟨bo, hbo⟩ : ∃ bo, bornR r' T = bo := ⟨_, rfl⟩
          rw [hbh] at HHA HD HH1 HH2
          rw [hbo] at HBO HD
          clear hok hkp hla hmd hbnd hbh hbo
          have hmm := HMO.out
          have HM3 := HMO
          rcases hmm with hm | hm | hm
          · have HDD := Lib.hid (HD.out hm)
            have z0 : (mode == 0) = true := by rw [hm]; rfl
            have z1 : (mode == 1) = false := by rw [hm]; rfl
            have z2 : (mode == 2) = false := by rw [hm]; rfl
            clear hm
            cases bh with
            | false =>
              go_wp2_with (first | (go_at_call 14; (with_reducible (refine HHA.out.mono ?_)); rintro e w' ⟨rfl, rfl⟩) | (go_at_call 15; (with_reducible (refine HBO.out.mono ?_)); rintro e w' ⟨rfl, rfl⟩))
              go_roundw
              case rel =>
                rw [HJ.out]
                exact HEND.out _ _ _ _ HE.out HTB.out
              case measure =>
                rw [HJ.out]
                show n - ((j : Int) + 1).toNat < n - ((j : Int)).toNat
                omega
            | true =>
              obtain ⟨u0, u1, u2⟩ := HDD.out rfl
              have v0 : decide (last' < 0) = false := decide_eq_false (by omega)
              obtain ⟨df, hdf⟩ : ∃ df, T - last' = df := ⟨_, rfl⟩
              have v2 : decide (last' < bo) = false := decide_eq_false (by omega)
              rw [hdf] at HWR u1
              have v1 : decide (120 < df) = false := decide_eq_false (by omega)
              have hw : wrap64 (T - last') = df := by rw [hdf]; exact HWR.out
              clear u0 u1 u2 hdf
              go_wp2_with (first | (go_at_call 14; (with_reducible (refine HHA.out.mono ?_)); rintro e w' ⟨rfl, rfl⟩) | (go_at_call 15; (with_reducible (refine HBO.out.mono ?_)); rintro e w' ⟨rfl, rfl⟩))
              go_roundw
              case rel =>
                rw [HJ.out]
                exact HEND.out _ _ _ _ HE.out HTB.out
              case measure =>
                rw [HJ.out]
                show n - ((j : Int) + 1).toNat < n - ((j : Int)).toNat
                omega
          · obtain rfl : bh = true := HH1.out hm
            have z0 : (mode == 0) = false := by rw [hm]; rfl
            have z1 : (mode == 1) = true := by rw [hm]; rfl
            have z2 : (mode == 2) = false := by rw [hm]; rfl
            clear hm
            go_wp2_with (first | (go_at_call 14; (with_reducible (refine HHA.out.mono ?_)); rintro e w' ⟨rfl, rfl⟩) | (go_at_call 15; (with_reducible (refine HBO.out.mono ?_)); rintro e w' ⟨rfl, rfl⟩))
            go_roundw
            case rel =>
              rw [HJ.out]
              exact HEND.out _ _ _ _ HE.out HTB.out
            case measure =>
              rw [HJ.out]
              show n - ((j : Int) + 1).toNat < n - ((j : Int)).toNat
              omega
          · obtain rfl : bh = false := HH2.out hm
            have z0 : (mode == 0) = false := by rw [hm]; rfl
            have z1 : (mode == 1) = false := by rw [hm]; rfl
            have z2 : (mode == 2) = true := by rw [hm]; rfl
            clear hm
            go_wp2_with (first | (go_at_call 14; (with_reducible (refine HHA.out.mono ?_)); rintro e w' ⟨rfl, rfl⟩) | (go_at_call 15; (with_reducible (refine HBO.out.mono ?_)); rintro e w' ⟨rfl, rfl⟩))
            go_roundw
            case rel =>
              rw [HJ.out]
              exact HEND.out _ _ _ _ HE.out HTB.out
            case measure =>
              rw [HJ.out]
              show n - ((j : Int) + 1).toNat < n - ((j : Int)).toNat
              omega
      · obtain rfl : last = last' := by rw [← HLA.out, if_neg hj]
        have y0 : (k1 == 0) = false := by simpa using fun h => hj (.inl h)
        have y1 : (k1 == 1) = false := by simpa using fun h => hj (.inr (.inl h))
        have y3 : (k1 == 3) = false := by simpa using fun h => hj (.inr (.inr h))
        clear hj HLA
        obtain ⟨hok, hkp, hla, hmd⟩ : OkR T r' ∧ Kept r' last T ∧ (-1 ≤ last ∧ last ≤ T) ∧ r'.mode = mode := ⟨HE.out.ok, HE.out.kept, HE.out.last, HE.out.mode⟩
        have HHA := Lib.hid (rhas_any HE.out.at_)
        have HBO := Lib.hid (rborn_any HE.out.at_ T)
        have hbnd : Tk T := HTK.out
        have HD := Lib.hid (show mode = 0 → hasR r' = true → (0 ≤ last ∧ T - last ≤ 120 ∧ bornR r' T ≤ last) by
          intro hm hh
          have hs : r'.state ≠ 0 := fun h0 => by unfold hasR at hh; rw [hmd, hm, h0] at hh; exact absurd hh (by decide)
          have hk := hkp hs
          unfold bornR
          rw [hh, if_pos rfl, if_neg (by rw [hmd, hm]; decide)]
          omega)
        have HWR := Lib.hid (show wrap64 (T - last) = T - last from IntWalk.wrap64_in _ (by unfold Tk at hbnd; omega))
        have HH2 := Lib.hid (show mode = 2 → hasR r' = false from fun h => by unfold hasR; rw [hmd, h]; rfl)
        have HH1 := Lib.hid (show mode = 1 → hasR r' = true from fun h => by unfold hasR; rw [hmd, h]; rfl)
        obtain ⟨bh, hbh⟩ : ∃ bh, hasR r' = bh := ⟨_, rfl⟩
        obtain ⟨bo, hbo⟩ : ∃ bo, bornR r' T = bo := ⟨_, rfl⟩
        rw [hbh] at HHA HD HH1 HH2
        rw [hbo] at HBO HD
        clear hok hkp hla hmd hbnd hbh hbo
        have hmm := HMO.out
        have HM3 := HMO
        rcases hmm with hm | hm | hm
        · have HDD := Lib.hid (HD.out hm)
          have z0 : (mode == 0) = true := by rw [hm]; rfl
          have z1 : (mode == 1) = false := by rw [hm]; rfl
          have z2 : (mode == 2) = false := by rw [hm]; rfl
          clear hm
          cases bh with
          | false =>
            go_wp2_with (first | (go_at_call 14; (with_reducible (refine HHA.out.mono ?_)); rintro e w' ⟨rfl, rfl⟩) | (go_at_call 15; (with_reducible (refine HBO.out.mono ?_)); rintro e w' ⟨rfl, rfl⟩))
            go_roundw
            case rel =>
              rw [HJ.out]
              exact HEND.out _ _ _ _ HE.out HTB.out
            case measure =>
              rw [HJ.out]
              show n - ((j : Int) + 1).toNat < n - ((j : Int)).toNat
              omega
          | true =>
            obtain ⟨u0, u1, u2⟩ := HDD.out rfl
            have v0 : decide (last < 0) = false := decide_eq_false (by omega)
            obtain ⟨df, hdf⟩ : ∃ df, T - last = df := ⟨_, rfl⟩
            have v2 : decide (last < bo) = false := decide_eq_false (by omega)
            rw [hdf] at HWR u1
            have v1 : decide (120 < df) = false := decide_eq_false (by omega)
            have hw : wrap64 (T - last) = df := by rw [hdf]; exact HWR.out
            clear u0 u1 u2 hdf
            go_wp2_with (first | (go_at_call 14; (with_reducible (refine HHA.out.mono ?_)); rintro e w' ⟨rfl, rfl⟩) | (go_at_call 15; (with_reducible (refine HBO.out.mono ?_)); rintro e w' ⟨rfl, rfl⟩))
            go_roundw
            case rel =>
              rw [HJ.out]
              exact HEND.out _ _ _ _ HE.out HTB.out
            case measure =>
              rw [HJ.out]
              show n - ((j : Int) + 1).toNat < n - ((j : Int)).toNat
              omega
        · obtain rfl : bh = true := HH1.out hm
          have z0 : (mode == 0) = false := by rw [hm]; rfl
          have z1 : (mode == 1) = true := by rw [hm]; rfl
          have z2 : (mode == 2) = false := by rw [hm]; rfl
          clear hm
          go_wp2_with (first | (go_at_call 14; (with_reducible (refine HHA.out.mono ?_)); rintro e w' ⟨rfl, rfl⟩) | (go_at_call 15; (with_reducible (refine HBO.out.mono ?_)); rintro e w' ⟨rfl, rfl⟩))
          go_roundw
          case rel =>
            rw [HJ.out]
            exact HEND.out _ _ _ _ HE.out HTB.out
          case measure =>
            rw [HJ.out]
            show n - ((j : Int) + 1).toNat < n - ((j : Int)).toNat
            omega
        · obtain rfl : bh = false := HH2.out hm
          have z0 : (mode == 0) = false := by rw [hm]; rfl
          have z1 : (mode == 1) = false := by rw [hm]; rfl
          have z2 : (mode == 2) = true := by rw [hm]; rfl
          clear hm
          go_wp2_with (first | (go_at_call 14; (with_reducible (refine HHA.out.mono ?_)); rintro e w' ⟨rfl, rfl⟩) | (go_at_call 15; (with_reducible (refine HBO.out.mono ?_)); rintro e w' ⟨rfl, rfl⟩))
          go_roundw
          case rel =>
            rw [HJ.out]
            exact HEND.out _ _ _ _ HE.out HTB.out
          case measure =>
            rw [HJ.out]
            show n - ((j : Int) + 1).toNat < n - ((j : Int)).toNat
            omega
    by_cases d1 : k0 = 1
    · subst d1
      go_wp2_with fail
      refine (rall_any HW.out.1.at_ HW.out.1.ok).mono ?_
      rintro e w5 ⟨rfl, h5, t5⟩
      have HE := Lib.hid (HW.out.1.go h5 t5 (rfl) (HW.out.1.ok.step HW.out.2.1.1 (.inr (.inr (.inl rfl)))) (kept_step HW.out.1.kept HW.out.1.ok.state (.inr (.inl rfl))) HW.out.1.last)
      obtain ⟨r', hr'⟩ : ∃ r', stepR r 2 T = r' := ⟨_, rfl⟩
      rw [hr'] at HE
      clear hr'
      clear h5 t5 s0 s1 s2 s3 c0 c1 c2 c3 d0
      obtain ⟨hok, hkp, hla, hmd⟩ : OkR T r' ∧ Kept r' last T ∧ (-1 ≤ last ∧ last ≤ T) ∧ r'.mode = mode := ⟨HE.out.ok, HE.out.kept, HE.out.last, HE.out.mode⟩
      have HHA := Lib.hid (rhas_any HE.out.at_)
      have HBO := Lib.hid (rborn_any HE.out.at_ T)
      have hbnd : Tk T := HTK.out
      have HD := Lib.hid (show mode = 0 → hasR r' = true → (0 ≤ last ∧ T - last ≤ 120 ∧ bornR r' T ≤ last) by
        intro hm hh
        have hs : r'.state ≠ 0 := fun h0 => by unfold hasR at hh; rw [hmd, hm, h0] at hh; exact absurd hh (by decide)
        have hk := hkp hs
        unfold bornR
        rw [hh, if_pos rfl, if_neg (by rw [hmd, hm]; decide)]
        omega)
      have HWR := Lib.hid (show wrap64 (T - last) = T - last from IntWalk.wrap64_in _ (by unfold Tk at hbnd; omega))
      have HH2 := Lib.hid (show mode = 2 → hasR r' = false from fun h => by unfold hasR; rw [hmd, h]; rfl)
      have HH1 := Lib.hid (show mode = 1 → hasR r' = true from fun h => by unfold hasR; rw [hmd, h]; rfl)
      obtain ⟨bh, hbh⟩ : ∃ bh, hasR r' = bh := ⟨_, rfl⟩
      obtain ⟨bo, hbo⟩ : ∃ bo, bornR r' T = bo := ⟨_, rfl⟩
      rw [hbh] at HHA HD HH1 HH2
      rw [hbo] at HBO HD
      clear hok hkp hla hmd hbnd hbh hbo
      have hmm := HMO.out
      have HM3 := HMO
      rcases hmm with hm | hm | hm
      · have HDD := Lib.hid (HD.out hm)
        have z0 : (mode == 0) = true := by rw [hm]; rfl
        have z1 : (mode == 1) = false := by rw [hm]; rfl
        have z2 : (mode == 2) = false := by rw [hm]; rfl
        clear hm
        cases bh with
        | false =>
          go_wp2_with (first | (go_at_call 14; (with_reducible (refine HHA.out.mono ?_)); rintro e w' ⟨rfl, rfl⟩) | (go_at_call 15; (with_reducible (refine HBO.out.mono ?_)); rintro e w' ⟨rfl, rfl⟩))
          go_roundw
          case rel =>
            rw [HJ.out]
            exact HEND.out _ _ _ _ HE.out HTB.out
          case measure =>
            rw [HJ.out]
            show n - ((j : Int) + 1).toNat < n - ((j : Int)).toNat
            omega
        | true =>
          obtain ⟨u0, u1, u2⟩ := HDD.out rfl
          have v0 : decide (last < 0) = false := decide_eq_false (by omega)
          obtain ⟨df, hdf⟩ : ∃ df, T - last = df := ⟨_, rfl⟩
          have v2 : decide (last < bo) = false := decide_eq_false (by omega)
          rw [hdf] at HWR u1
          have v1 : decide (120 < df) = false := decide_eq_false (by omega)
          have hw : wrap64 (T - last) = df := by rw [hdf]; exact HWR.out
          clear u0 u1 u2 hdf
          go_wp2_with (first | (go_at_call 14; (with_reducible (refine HHA.out.mono ?_)); rintro e w' ⟨rfl, rfl⟩) | (go_at_call 15; (with_reducible (refine HBO.out.mono ?_)); rintro e w' ⟨rfl, rfl⟩))
          go_roundw
          case rel =>
            rw [HJ.out]
            exact HEND.out _ _ _ _ HE.out HTB.out
          case measure =>
            rw [HJ.out]
            show n - ((j : Int) + 1).toNat < n - ((j : Int)).toNat
            omega
      · obtain rfl : bh = true := HH1.out hm
        have z0 : (mode == 0) = false := by rw [hm]; rfl
        have z1 : (mode == 1) = true := by rw [hm]; rfl
        have z2 : (mode == 2) = false := by rw [hm]; rfl
        clear hm
        go_wp2_with (first | (go_at_call 14; (with_reducible (refine HHA.out.mono ?_)); rintro e w' ⟨rfl, rfl⟩) | (go_at_call 15; (with_reducible (refine HBO.out.mono ?_)); rintro e w' ⟨rfl, rfl⟩))
        go_roundw
        case rel =>
          rw [HJ.out]
          exact HEND.out _ _ _ _ HE.out HTB.out
        case measure =>
          rw [HJ.out]
          show n - ((j : Int) + 1).toNat < n - ((j : Int)).toNat
          omega
      · obtain rfl : bh = false := HH2.out hm
        have z0 : (mode == 0) = false := by rw [hm]; rfl
        have z1 : (mode == 1) = false := by rw [hm]; rfl
        have z2 : (mode == 2) = true := by rw [hm]; rfl
        clear hm
        go_wp2_with (first | (go_at_call 14; (with_reducible (refine HHA.out.mono ?_)); rintro e w' ⟨rfl, rfl⟩) | (go_at_call 15; (with_reducible (refine HBO.out.mono ?_)); rintro e w' ⟨rfl, rfl⟩))
        go_roundw
        case rel =>
          rw [HJ.out]
          exact HEND.out _ _ _ _ HE.out HTB.out
        case measure =>
          rw [HJ.out]
          show n - ((j : Int) + 1).toNat < n - ((j : Int)).toNat
          omega
    by_cases d2 : k0 = 2
    · subst d2
      go_wp2_with fail
      refine (rflush_any HW.out.1.at_ HW.out.1.ok).mono ?_
      rintro e w5 ⟨rfl, h5, t5⟩
      have HE := Lib.hid (HW.out.1.go h5 t5 (rfl) (HW.out.1.ok.step HW.out.2.1.1 (.inr (.inr (.inr (.inr rfl))))) (kept_step HW.out.1.kept HW.out.1.ok.state (.inr (.inr (.inr rfl)))) HW.out.1.last)
      obtain ⟨r', hr'⟩ : ∃ r', stepR r 4 T = r' := ⟨_, rfl⟩
      rw [hr'] at HE
      clear hr'
      clear h5 t5 s0 s1 s2 s3 c0 c1 c2 c3 d0 d1
      obtain ⟨hok, hkp, hla, hmd⟩ : OkR T r' ∧ Kept r' last T ∧ (-1 ≤ last ∧ last ≤ T) ∧ r'.mode = mode := ⟨HE.out.ok, HE.out.kept, HE.out.last, HE.out.mode⟩
      have HHA := Lib.hid (rhas_any HE.out.at_)
      have HBO := Lib.hid (rborn_any HE.out.at_ T)
      have hbnd : Tk T := HTK.out
      have HD := Lib.hid (show mode = 0 → hasR r' = true → (0 ≤ last ∧ T - last ≤ 120 ∧ bornR r' T ≤ last) by
        intro hm hh
        have hs : r'.state ≠ 0 := fun h0 => by unfold hasR at hh; rw [hmd, hm, h0] at hh; exact absurd hh (by decide)
        have hk := hkp hs
        unfold bornR
        rw [hh, if_pos rfl, if_neg (by rw [hmd, hm]; decide)]
        omega)
      have HWR := Lib.hid (show wrap64 (T - last) = T - last from IntWalk.wrap64_in _ (by unfold Tk at hbnd; omega))
      have HH2 := Lib.hid (show mode = 2 → hasR r' = false from fun h => by unfold hasR; rw [hmd, h]; rfl)
      have HH1 := Lib.hid (show mode = 1 → hasR r' = true from fun h => by unfold hasR; rw [hmd, h]; rfl)
      obtain ⟨bh, hbh⟩ : ∃ bh, hasR r' = bh := ⟨_, rfl⟩
      obtain ⟨bo, hbo⟩ : ∃ bo, bornR r' T = bo := ⟨_, rfl⟩
      rw [hbh] at HHA HD HH1 HH2
      rw [hbo] at HBO HD
      clear hok hkp hla hmd hbnd hbh hbo
      have hmm := HMO.out
      have HM3 := HMO
      rcases hmm with hm | hm | hm
      · have HDD := Lib.hid (HD.out hm)
        have z0 : (mode == 0) = true := by rw [hm]; rfl
        have z1 : (mode == 1) = false := by rw [hm]; rfl
        have z2 : (mode == 2) = false := by rw [hm]; rfl
        clear hm
        cases bh with
        | false =>
          go_wp2_with (first | (go_at_call 14; (with_reducible (refine HHA.out.mono ?_)); rintro e w' ⟨rfl, rfl⟩) | (go_at_call 15; (with_reducible (refine HBO.out.mono ?_)); rintro e w' ⟨rfl, rfl⟩))
          go_roundw
          case rel =>
            rw [HJ.out]
            exact HEND.out _ _ _ _ HE.out HTB.out
          case measure =>
            rw [HJ.out]
            show n - ((j : Int) + 1).toNat < n - ((j : Int)).toNat
            omega
        | true =>
          obtain ⟨u0, u1, u2⟩ := HDD.out rfl
          have v0 : decide (last < 0) = false := decide_eq_false (by omega)
          obtain ⟨df, hdf⟩ : ∃ df, T - last = df := ⟨_, rfl⟩
          have v2 : decide (last < bo) = false := decide_eq_false (by omega)
          rw [hdf] at HWR u1
          have v1 : decide (120 < df) = false := decide_eq_false (by omega)
          have hw : wrap64 (T - last) = df := by rw [hdf]; exact HWR.out
          clear u0 u1 u2 hdf
          go_wp2_with (first | (go_at_call 14; (with_reducible (refine HHA.out.mono ?_)); rintro e w' ⟨rfl, rfl⟩) | (go_at_call 15; (with_reducible (refine HBO.out.mono ?_)); rintro e w' ⟨rfl, rfl⟩))
          go_roundw
          case rel =>
            rw [HJ.out]
            exact HEND.out _ _ _ _ HE.out HTB.out
          case measure =>
            rw [HJ.out]
            show n - ((j : Int) + 1).toNat < n - ((j : Int)).toNat
            omega
      · obtain rfl : bh = true := HH1.out hm
        have z0 : (mode == 0) = false := by rw [hm]; rfl
        have z1 : (mode == 1) = true := by rw [hm]; rfl
        have z2 : (mode == 2) = false := by rw [hm]; rfl
        clear hm
        go_wp2_with (first | (go_at_call 14; (with_reducible (refine HHA.out.mono ?_)); rintro e w' ⟨rfl, rfl⟩) | (go_at_call 15; (with_reducible (refine HBO.out.mono ?_)); rintro e w' ⟨rfl, rfl⟩))
        go_roundw
        case rel =>
          rw [HJ.out]
          exact HEND.out _ _ _ _ HE.out HTB.out
        case measure =>
          rw [HJ.out]
          show n - ((j : Int) + 1).toNat < n - ((j : Int)).toNat
          omega
      · obtain rfl : bh = false := HH2.out hm
        have z0 : (mode == 0) = false := by rw [hm]; rfl
        have z1 : (mode == 1) = false := by rw [hm]; rfl
        have z2 : (mode == 2) = true := by rw [hm]; rfl
        clear hm
        go_wp2_with (first | (go_at_call 14; (with_reducible (refine HHA.out.mono ?_)); rintro e w' ⟨rfl, rfl⟩) | (go_at_call 15; (with_reducible (refine HBO.out.mono ?_)); rintro e w' ⟨rfl, rfl⟩))
        go_roundw
        case rel =>
          rw [HJ.out]
          exact HEND.out _ _ _ _ HE.out HTB.out
        case measure =>
          rw [HJ.out]
          show n - ((j : Int) + 1).toNat < n - ((j : Int)).toNat
          omega
    by_cases d3 : k0 = 3
    · subst d3
      have hn3 := HX.out.2 rfl
      simp only at hn3
      obtain ⟨k, rfl⟩ : ∃ k : Nat, k3 = k := ⟨k3.toNat, by omega⟩
      have HK := Lib.hid (show k ≤ 1000 by omega)
      have k00 : (0 : Int) ≤ k := by omega
      clear hn3 d0 d1 d2
      go_wp2_with fail
      go_loopw [7, 78] (fun nv iv wq => ∃ (q : Nat) (r : Rg) (t : Int), q ≤ k ∧ iv = .int .i64 q ∧ nv = .int .i64 t ∧ Hid (t = T + q ∧ KeepS w wq g mode r last t)) (fun _ iv _ => k - (intOf iv).toNat)
      case atStart => exact ⟨0, r, T, Nat.zero_le _, rfl, rfl, Lib.hid ⟨by omega, HW.out.1⟩⟩
      case round =>
        obtain ⟨q, r, t, hq, rfl, rfl, hQ⟩ := hrel
        by_cases hlq : q < k
        · have q1 : (q : Int) < k := by omega
          have q0 : (0 : Int) ≤ q := by omega
          have HJQ := Lib.hid (show wrap64 ((q : Int) + 1) = (q : Int) + 1 from IntWalk.wrap64_in _ (by have := HK.out; omega))
          obtain ⟨t2, ht2⟩ : ∃ t2, t + 1 = t2 := ⟨_, rfl⟩
          have HT2 := Lib.hid (show t2 = T + ((q + 1 : Nat) : Int) ∧ t ≤ t2 by have := hQ.out.1; omega)
          have HTK2 := Lib.hid (show Tk t2 from by have h1 := HT2.out.1; have h2 := HTK.out; have h3 := HK.out; have h4 := HTB.out.2; have h5 := HP.out.1; unfold Tk at h2 ⊢; omega)
          have hw : wrap64 (t + 1) = t2 := by rw [ht2]; exact IntWalk.wrap64_in _ (by have := HTK2.out; unfold Tk at this; omega)
          have HW2 := Lib.hid hw
          have HO2 := Lib.hid (hQ.out.2.ok.more HT2.out.2)
          clear ht2 hq
          go_wp2_with fail
          refine (rtick_any hQ.out.2.at_ HO2.out HTK2.out).mono ?_
          rintro e w6 ⟨rfl, h6, t6⟩
          have HE := Lib.hid (hQ.out.2.go h6 t6 (kmode_tick r t2) (HO2.out.tick HTK2.out.1) (kept_tick t hQ.out.2.kept hQ.out.2.ok.state) ⟨hQ.out.2.last.1, by have := hQ.out.2.last.2; have := HT2.out.2; omega⟩)
          clear h6 t6 hw
          go_wp2_with fail
          go_roundw
          case rel =>
            rw [HJQ.out]
            exact ⟨q + 1, _, t2, hlq, by rw [Int.natCast_add]; rfl, by first | rfl | rw [HW2.out], Lib.hid ⟨HT2.out.1, HE.out⟩⟩
          case measure =>
            rw [HJQ.out]
            show k - ((q : Int) + 1).toNat < k - ((q : Int)).toNat
            omega
        · obtain rfl : q = k := by omega
          have HE := Lib.hid hQ.out.2
          have HTT := Lib.hid (show Tk t ∧ (0 ≤ t ∧ t ≤ 1000 * ((j : Int) + 1)) from by have h1 := hQ.out.1; have h2 := HTK.out; have h3 := HK.out; have h4 := hS.out.2.2; have h5 := HP.out.1; unfold Tk at h2 ⊢; omega)
          have HTK := Lib.hid HTT.out.1
          have HTB := Lib.hid HTT.out.2
          clear hq hlq
          obtain ⟨hok, hkp, hla, hmd⟩ : OkR t r ∧ Kept r last t ∧ (-1 ≤ last ∧ last ≤ t) ∧ r.mode = mode := ⟨HE.out.ok, HE.out.kept, HE.out.last, HE.out.mode⟩
          have HHA := Lib.hid (rhas_any HE.out.at_)
          have HBO := Lib.hid (rborn_any HE.out.at_ t)
          have hbnd : Tk t := HTK.out
          have HD := Lib.hid (show mode = 0 → hasR r = true → (0 ≤ last ∧ t - last ≤ 120 ∧ bornR r t ≤ last) by
            intro hm hh
            have hs : r.state ≠ 0 := fun h0 => by unfold hasR at hh; rw [hmd, hm, h0] at hh; exact absurd hh (by decide)
            have hk := hkp hs
            unfold bornR
            rw [hh, if_pos rfl, if_neg (by rw [hmd, hm]; decide)]
            omega)
          have HWR := Lib.hid (show wrap64 (t - last) = t - last from IntWalk.wrap64_in _ (by unfold Tk at hbnd; omega))
          have HH2 := Lib.hid (show mode = 2 → hasR r = false from fun h => by unfold hasR; rw [hmd, h]; rfl)
          have HH1 := Lib.hid (show mode = 1 → hasR r = true from fun h => by unfold hasR; rw [hmd, h]; rfl)
          obtain ⟨bh, hbh⟩ : ∃ bh, hasR r = bh := ⟨_, rfl⟩
          obtain ⟨bo, hbo⟩ : ∃ bo, bornR r t = bo := ⟨_, rfl⟩
          rw [hbh] at HHA HD HH1 HH2
          rw [hbo] at HBO HD
          clear hok hkp hla hmd hbnd hbh hbo
          have hmm := HMO.out
          have HM3 := HMO
          rcases hmm with hm | hm | hm
          · have HDD := Lib.hid (HD.out hm)
            have z0 : (mode == 0) = true := by rw [hm]; rfl
            have z1 : (mode == 1) = false := by rw [hm]; rfl
            have z2 : (mode == 2) = false := by rw [hm]; rfl
            clear hm
            cases bh with
            | false =>
              go_wp2_with (first | (go_at_call 14; (with_reducible (refine HHA.out.mono ?_)); rintro e w' ⟨rfl, rfl⟩) | (go_at_call 15; (with_reducible (refine HBO.out.mono ?_)); rintro e w' ⟨rfl, rfl⟩))
              go_roundw
              case rel =>
                rw [HJ.out]
                exact HEND.out _ _ _ _ HE.out HTB.out
              case measure =>
                rw [HJ.out]
                show n - ((j : Int) + 1).toNat < n - ((j : Int)).toNat
                omega
            | true =>
              obtain ⟨u0, u1, u2⟩ := HDD.out rfl
              have v0 : decide (last < 0) = false := decide_eq_false (by omega)
              obtain ⟨df, hdf⟩ : ∃ df, t - last = df := ⟨_, rfl⟩
              have v2 : decide (last < bo) = false := decide_eq_false (by omega)
              rw [hdf] at HWR u1
              have v1 : decide (120 < df) = false := decide_eq_false (by omega)
              have hw : wrap64 (t - last) = df := by rw [hdf]; exact HWR.out
              clear u0 u1 u2 hdf
              go_wp2_with (first | (go_at_call 14; (with_reducible (refine HHA.out.mono ?_)); rintro e w' ⟨rfl, rfl⟩) | (go_at_call 15; (with_reducible (refine HBO.out.mono ?_)); rintro e w' ⟨rfl, rfl⟩))
              go_roundw
              case rel =>
                rw [HJ.out]
                exact HEND.out _ _ _ _ HE.out HTB.out
              case measure =>
                rw [HJ.out]
                show n - ((j : Int) + 1).toNat < n - ((j : Int)).toNat
                omega
          · obtain rfl : bh = true := HH1.out hm
            have z0 : (mode == 0) = false := by rw [hm]; rfl
            have z1 : (mode == 1) = true := by rw [hm]; rfl
            have z2 : (mode == 2) = false := by rw [hm]; rfl
            clear hm
            go_wp2_with (first | (go_at_call 14; (with_reducible (refine HHA.out.mono ?_)); rintro e w' ⟨rfl, rfl⟩) | (go_at_call 15; (with_reducible (refine HBO.out.mono ?_)); rintro e w' ⟨rfl, rfl⟩))
            go_roundw
            case rel =>
              rw [HJ.out]
              exact HEND.out _ _ _ _ HE.out HTB.out
            case measure =>
              rw [HJ.out]
              show n - ((j : Int) + 1).toNat < n - ((j : Int)).toNat
              omega
          · obtain rfl : bh = false := HH2.out hm
            have z0 : (mode == 0) = false := by rw [hm]; rfl
            have z1 : (mode == 1) = false := by rw [hm]; rfl
            have z2 : (mode == 2) = true := by rw [hm]; rfl
            clear hm
            go_wp2_with (first | (go_at_call 14; (with_reducible (refine HHA.out.mono ?_)); rintro e w' ⟨rfl, rfl⟩) | (go_at_call 15; (with_reducible (refine HBO.out.mono ?_)); rintro e w' ⟨rfl, rfl⟩))
            go_roundw
            case rel =>
              rw [HJ.out]
              exact HEND.out _ _ _ _ HE.out HTB.out
            case measure =>
              rw [HJ.out]
              show n - ((j : Int) + 1).toNat < n - ((j : Int)).toNat
              omega
    have f0 : (k0 == 0) = false := by simpa using d0
    have f1 : (k0 == 1) = false := by simpa using d1
    have f2 : (k0 == 2) = false := by simpa using d2
    have f3 : (k0 == 3) = false := by simpa using d3
    have HE := Lib.hid HW.out.1
    clear d0 d1 d2 d3
    obtain ⟨hok, hkp, hla, hmd⟩ : OkR T r ∧ Kept r last T ∧ (-1 ≤ last ∧ last ≤ T) ∧ r.mode = mode := ⟨HE.out.ok, HE.out.kept, HE.out.last, HE.out.mode⟩
    have HHA := Lib.hid (rhas_any HE.out.at_)
    have HBO := Lib.hid (rborn_any HE.out.at_ T)
    have hbnd : Tk T := HTK.out
    have HD := Lib.hid (show mode = 0 → hasR r = true → (0 ≤ last ∧ T - last ≤ 120 ∧ bornR r T ≤ last) by
      intro hm hh
      have hs : r.state ≠ 0 := fun h0 => by unfold hasR at hh; rw [hmd, hm, h0] at hh; exact absurd hh (by decide)
      have hk := hkp hs
      unfold bornR
      rw [hh, if_pos rfl, if_neg (by rw [hmd, hm]; decide)]
      omega)
    have HWR := Lib.hid (show wrap64 (T - last) = T - last from IntWalk.wrap64_in _ (by unfold Tk at hbnd; omega))
    have HH2 := Lib.hid (show mode = 2 → hasR r = false from fun h => by unfold hasR; rw [hmd, h]; rfl)
    have HH1 := Lib.hid (show mode = 1 → hasR r = true from fun h => by unfold hasR; rw [hmd, h]; rfl)
    obtain ⟨bh, hbh⟩ : ∃ bh, hasR r = bh := ⟨_, rfl⟩
    obtain ⟨bo, hbo⟩ : ∃ bo, bornR r T = bo := ⟨_, rfl⟩
    rw [hbh] at HHA HD HH1 HH2
    rw [hbo] at HBO HD
    clear hok hkp hla hmd hbnd hbh hbo
    have hmm := HMO.out
    have HM3 := HMO
    rcases hmm with hm | hm | hm
    · have HDD := Lib.hid (HD.out hm)
      have z0 : (mode == 0) = true := by rw [hm]; rfl
      have z1 : (mode == 1) = false := by rw [hm]; rfl
      have z2 : (mode == 2) = false := by rw [hm]; rfl
      clear hm
      cases bh with
      | false =>
        go_wp2_with (first | (go_at_call 14; (with_reducible (refine HHA.out.mono ?_)); rintro e w' ⟨rfl, rfl⟩) | (go_at_call 15; (with_reducible (refine HBO.out.mono ?_)); rintro e w' ⟨rfl, rfl⟩))
        go_roundw
        case rel =>
          rw [HJ.out]
          exact HEND.out _ _ _ _ HE.out HTB.out
        case measure =>
          rw [HJ.out]
          show n - ((j : Int) + 1).toNat < n - ((j : Int)).toNat
          omega
      | true =>
        obtain ⟨u0, u1, u2⟩ := HDD.out rfl
        have v0 : decide (last < 0) = false := decide_eq_false (by omega)
        obtain ⟨df, hdf⟩ : ∃ df, T - last = df := ⟨_, rfl⟩
        have v2 : decide (last < bo) = false := decide_eq_false (by omega)
        rw [hdf] at HWR u1
        have v1 : decide (120 < df) = false := decide_eq_false (by omega)
        have hw : wrap64 (T - last) = df := by rw [hdf]; exact HWR.out
        clear u0 u1 u2 hdf
        go_wp2_with (first | (go_at_call 14; (with_reducible (refine HHA.out.mono ?_)); rintro e w' ⟨rfl, rfl⟩) | (go_at_call 15; (with_reducible (refine HBO.out.mono ?_)); rintro e w' ⟨rfl, rfl⟩))
        go_roundw
        case rel =>
          rw [HJ.out]
          exact HEND.out _ _ _ _ HE.out HTB.out
        case measure =>
          rw [HJ.out]
          show n - ((j : Int) + 1).toNat < n - ((j : Int)).toNat
          omega
    · obtain rfl : bh = true := HH1.out hm
      have z0 : (mode == 0) = false := by rw [hm]; rfl
      have z1 : (mode == 1) = true := by rw [hm]; rfl
      have z2 : (mode == 2) = false := by rw [hm]; rfl
      clear hm
      go_wp2_with (first | (go_at_call 14; (with_reducible (refine HHA.out.mono ?_)); rintro e w' ⟨rfl, rfl⟩) | (go_at_call 15; (with_reducible (refine HBO.out.mono ?_)); rintro e w' ⟨rfl, rfl⟩))
      go_roundw
      case rel =>
        rw [HJ.out]
        exact HEND.out _ _ _ _ HE.out HTB.out
      case measure =>
        rw [HJ.out]
        show n - ((j : Int) + 1).toNat < n - ((j : Int)).toNat
        omega
    · obtain rfl : bh = false := HH2.out hm
      have z0 : (mode == 0) = false := by rw [hm]; rfl
      have z1 : (mode == 1) = false := by rw [hm]; rfl
      have z2 : (mode == 2) = true := by rw [hm]; rfl
      clear hm
      go_wp2_with (first | (go_at_call 14; (with_reducible (refine HHA.out.mono ?_)); rintro e w' ⟨rfl, rfl⟩) | (go_at_call 15; (with_reducible (refine HBO.out.mono ?_)); rintro e w' ⟨rfl, rfl⟩))
      go_roundw
      case rel =>
        rw [HJ.out]
        exact HEND.out _ _ _ _ HE.out HTB.out
      case measure =>
        rw [HJ.out]
        show n - ((j : Int) + 1).toNat < n - ((j : Int)).toNat
        omega

set_option maxRecDepth 100000 in
theorem liftedRegisKeeps (os : Os) (started : os.Started) (H : Type) (enc : TypeId × Value → H) :
    ReturnsInHanded {} Try.checked os 4 .any (Rows.regisKeepsSpec.pre6 enc Try.prog Try.f4 Rows.regisKeepsRow.domain false) (Rows.regisKeepsSpec.post enc Try.prog Try.f4 false true false false) := by
  refine returnsInHanded_of_change (C := Try.checked) own started (by kernel_rfl) Try.func4
    (ChangeSpec.witness6 (enc := enc) (C := Try.checked) false ⟨#[], #[.int .i64 0, .slice none 0 0], []⟩ 8 (by kernel_rfl) (by kernel_rfl) (by kernel_rfl) (by kernel_rfl)) ?_
  intro W base args ds gs before hval0 hW hcnd _
  have hval : ∀ (j : Nat) t v, Try.f4.params[j]? = some t → args[j]? = some v → Value.okWide Try.prog W .any base t v := hval0
  have hW' := hW
  obtain ⟨p, q, hA0, hV, rfl, hfz, hnd⟩ := hW
  have hA : DataW.TrodAll enc Try.prog W 0 (fun _ => true) true Try.f4.params.toList args.toList ds p := hA0
  rw [Try.params4] at hA hval
  obtain ⟨v0, vs0, d0, ds0, p0, q0, hargs, rfl, rfl, h0, r0⟩ := trodAll_cons hA
  obtain ⟨v1, vs1, d1, ds1, p1, q1, rfl, rfl, rfl, h1, r1⟩ := trodAll_cons r0
  obtain ⟨rfl, rfl, rfl⟩ := trodAll_nil r1
  obtain rfl : args = #[v0, v1] := by cases args; simp_all
  obtain ⟨rfl, rfl⟩ := trodVars_none hV
  obtain ⟨a0, rfl, rfl, rfl, w0⟩ := open_int Try.underlying3 (hval 0 3 v0 rfl rfl) h0
  obtain ⟨a1', len1', cap1', rfl⟩ := okWide_slice Try.underlying22 (hval 1 22 v1 rfl rfl)
  have k1 := h1
  have lt1 : ∀ x ∈ p1, x.block < W.heap.size := by obtain ⟨m, hm⟩ := k1; exact DataW.trod_lt m _ _ _ hm
  obtain ⟨a1, cap1, l1, w1, e1, e2, e3⟩ : ∃ a cap, ∃ l : List St, (StAt W W.heap.size a l ∧ (∀ x ∈ l, x.ok) ∧ l.length ≤ maxLen) ∧ a1' = a ∧ len1' = l.length ∧ cap1' = cap := by
    obtain ⟨fuel, hf⟩ := h1
    obtain ⟨a, cap, l, hcs, q⟩ := open_steps hf
    simp [Value.cells] at hcs
    obtain ⟨rfl, rfl, rfl⟩ := hcs
    exact ⟨_, _, l, q, rfl, rfl, rfl⟩
  subst e1 e2 e3
  clear hA0 hval0
  refine (walkRegisKeeps a0 a1' cap1' l1 W w0 w1).mono fun e W' ⟨he, bel⟩ => ?_
  subst he
  exact ⟨_, rfl, _, _, _, [], _, [], hW', trodAll_mk1 (shut_bool Try.underlying4 _), (trodAll_cons_mk (shut_int Try.underlying3 w0) (trodAll_cons_mk (Below.trod laidOut (by kernel_rfl) (of_decide_eq_true (by kernel_rfl)) k1 bel lt1) trodAll_mk0)), rfl, bel.frame _, fun h => by cases h⟩

theorem overRegisKeeps : Rows.regisKeepsRow.holds Try.pinned (OpenSpec.ofChange Rows.regisKeepsSpec) :=
  OpenClaim.holds_of_wide 4 Try.f4 rfl rfl rfl rfl rfl rfl rfl ⟨rfl, rfl, rfl, rfl, rfl⟩ rfl rfl rfl rfl rfl (by kernel_rfl) Try.func4 (by kernel_rfl)
    (of_decide_eq_true (by kernel_rfl)) (by unfold Func.isWrapper; first | (rw [if_pos (by decide +kernel)]; kernel_rfl) | (rw [if_neg (by decide +kernel)]; exact ⟨rfl, rfl⟩))
    (fun os started H enc _ => liftedRegisKeeps os started H enc)

/-- The statement. -/
theorem regisKeeps_holds : Rows.RegisKeepsSaid := overRegisKeeps

#print axioms regisKeeps_holds
end Go.Proofs.Ytoiapdcleagepaa
