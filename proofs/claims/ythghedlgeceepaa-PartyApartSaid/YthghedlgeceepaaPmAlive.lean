/- What the statements of stage 16 ask first; a network as an attribute. No condition. -/
import Derived.Test.YthghedlgeceepaaPmTop
import Derived.Test.YthghedlgeceepaaPyTalk
namespace Go.Proofs.Ythghedlgeceepaa
open Go.RowKit
set_option maxRecDepth 100000

theorem PyF.lt {w : World} {B g : Nat} {p : Py} {jl : List Int} {F : Nat → Prop} (h : PyF w B g p jl F) : ∀ k, F k → B ≤ k ∧ k < w.heap.size := by
  obtain ⟨y, h⟩ := h
  exact h.lt
theorem PyF.keep {w w' : World} {B g : Nat} {p : Py} {jl : List Int} {F P : Nat → Prop} (h : PyF w B g p jl F) (ht : Touch P w w') (hp : ∀ k, F k → ¬ P k) : PyF w' B g p jl F := by
  obtain ⟨y, h⟩ := h
  exact ⟨y, h.keep ht hp⟩
theorem PyF.low {w : World} {B B' g : Nat} {p : Py} {jl : List Int} {F : Nat → Prop} (h : PyF w B g p jl F) (hB : B' ≤ B) : PyF w B' g p jl F := by
  obtain ⟨y, h⟩ := h
  exact ⟨y, h.blk, h.row, h.ls, h.slots, h.draws, h.fg, h.frow, h.fgd, h.fdr, h.fq, fun k hk => ⟨Nat.le_trans hB (h.lt k hk).1, (h.lt k hk).2⟩⟩
theorem said_few (jit : Nat → Int) {p : Py} {T : Int} (hok : PyOk T p) (h0 : 0 ≤ T) : (saidP jit p T).all.length ≤ 3 ∧ (saidP jit p T).ws.length ≤ 16 := by
  have h1 := (hok.tick1 h0 jit).len
  unfold saidP tellP
  split
  · refine ⟨?_, ?_⟩
    · show (if _ then _ else _ : List Int).length ≤ 3
      split
      · exact (types_le _).2
      · exact Nat.zero_le _
    · exact Nat.le_trans (by unfold saysL; exact List.length_filterMap_le _ _) h1
  · exact ⟨Nat.zero_le _, Nat.zero_le _⟩
theorem attrv_size : (Try.prog.info? 29).map (·.size) = some 2 := by kernel_rfl
set_option maxHeartbeats 1000000 in
theorem netv_any (v : Int) (w : World) : Calls Try.prog 17 #[.int .i64 v] w fun e w' => e = .returned (.agg #[.int .i64 1, .int .i64 v]) ∧ Below w.heap.size w w' := by
  have hb := bel_alloc w (.cells #[.int .i64 1, .int .i64 v] 29)
  have hx := Blk.new w 29 #[.int .i64 1, .int .i64 v]
  have HE := Lib.hid (And.intro hx hb)
  clear hx hb
  go_enter Try.func17, Try.ntmps17
  go_wp2_with fail
  exact bodyPost_ret (results_cell_row rfl _ _ w.heap.size 29 _ (0, 0) _ rfl HE.out.1 Try.underlying29 rfl attrv_size) rfl ⟨rfl, HE.out.2⟩
/-- What is wanted is said at the next even tick. -/
theorem alive_said (jit : Nat → Int) (h : 60 ≤ jit 0) : saidP jit (wantP (newP jit) 1 7 3 false) 4 = ⟨[], [⟨1, 7, 0, 3⟩]⟩ := by
  have e : wantP (newP jit) 1 7 3 false = ⟨[⟨1, 7, ⟨0, 0, 0, 0⟩, ⟨1, 3⟩⟩], jit 0, false, 1, 0⟩ := rfl
  unfold saidP tick1
  rw [e, if_neg (by show ¬ jit 0 ≤ 4; omega)]
  rfl
theorem tk_of {T : Int} (h0 : 0 ≤ T) (h1 : T ≤ 1000000) : Tk T := ⟨h0, by omega⟩
theorem want_w {p : Py} {T : Int} (hok : PyOk T p) (hT : 0 ≤ T) (htd : TidyOk p) {v b : Int} (n : Bool) (hv : 1 ≤ v ∧ v ≤ 4094) (hb : b ≤ 1048576) : wantW p 1 v b n = wantP p 1 v b n := by
  unfold wantW
  have ha : attrP 1 v := .inl ⟨rfl, hv⟩
  rw [if_pos ⟨decide_eq_true ha, hb⟩]
  exact want_is hok hT htd ha b n
set_option maxHeartbeats 4000000 in
theorem palive_any (w : World) : Calls Try.prog 6 #[] w fun e w' => e = .returned (.bool true) ∧ Below w.heap.size w w' := by
  have HN := Lib.hid (pnew_any none 0 [] w (.inl rfl) (by decide))
  go_enter Try.func6, Try.ntmps6
  go_wp2_with fail
  refine HN.out.mono ?_
  rintro e w1 ⟨g, F, rfl, ⟨y1, h1⟩, b1⟩
  have HV := Lib.hid (netv_any 7 w1)
  have H1 := Lib.hid (And.intro h1 b1)
  clear h1 b1
  go_wp2_with fail
  refine HV.out.mono ?_
  rintro e w2 ⟨rfl, b2⟩
  have h2 := H1.out.1.below b2
  have hok : PyOk 4 (newP (jitD [])) := PyOk.new _ _
  have HW := Lib.hid (want_any h2 hok (by decide) (Nat.le_trans H1.out.2.size b2.size) 1 7 3 false)
  rw [want_w hok (by decide) (fun _ h => absurd h List.not_mem_nil) false (by decide) (by decide), show wantE (newP (jitD [])) 1 7 3 = 0 from rfl] at HW
  have H2 := Lib.hid (H1.out.2.trans (b2.mono H1.out.2.size))
  have HLT := Lib.hid h2.lt
  clear b2 h2
  go_wp2_with fail
  refine HW.out.mono ?_
  rintro e w3 ⟨rfl, ⟨y3, h3⟩, t3⟩
  have hok3 : PyOk 4 (wantP (newP (jitD [])) 1 7 3 false) := hok.want (by decide) (.inl ⟨rfl, by decide⟩) (by decide)
  have HT := Lib.hid (tick_any h3 hok3 (tk_of (by decide) (by decide)))
  rw [alive_said _ (jitD_in [] 0).1] at HT
  have H3 := Lib.hid (show Below w.heap.size w w3 from H2.out.trans (t3.below (by have := H2.out.size; omega) (fun k hk => (HLT.out k hk).1)))
  have HL3 := Lib.hid h3.lt
  clear h3 t3 hok hok3
  go_wp2_with fail
  refine HT.out.mono ?_
  rintro e w4 ⟨A4, c4, B4, d4, rfl, ho4, hw4, hp4, t4⟩
  rw [show sayB' ⟨[], [⟨1, 7, 0, 3⟩]⟩ = true from rfl]
  obtain ⟨gb, hgb, hgl, hcell⟩ := own_at hw4 (by decide : 0 < [(⟨1, 7, 0, 3⟩ : Wd)].length)
  have e0 := hcell 0 _ rfl
  have e1 := hcell 1 _ rfl
  have e2 := hcell 2 _ rfl
  have e3 := hcell 3 _ rfl
  subst hgb
  have H4 := Lib.hid (show Below w.heap.size w w4 from H3.out.trans (t4.below H3.out.size (fun k hk => (HL3.out k hk).1)))
  have HVV := Lib.hid (netv_any 7)
  have hb5 := bel_alloc w4 (.cells #[.slice A4 0 c4, .slice (some ⟨gb, 0, none⟩) 1 d4] 32)
  have hm5 := Blk.new w4 32 #[.slice A4 0 c4, .slice (some ⟨gb, 0, none⟩) 1 d4]
  have k := fun j => hb5.cell (p := ⟨gb, j, none⟩) hgl
  obtain ⟨W5, hW5⟩ : ∃ W5, w4.alloc (.cells #[.slice A4 0 c4, .slice (some ⟨gb, 0, none⟩) 1 d4] 32) = W5 := ⟨_, rfl⟩
  rw [hW5] at hb5 hm5 k
  have cD : W5.drew.cell? ⟨w4.heap.size, 1, none⟩ = some (.slice (some ⟨gb, 0, none⟩) 1 d4) ∧ W5.drew.cell? ⟨gb, 0, none⟩ = some (.int .i64 1) ∧ W5.drew.cell? ⟨gb, 1, none⟩ = some (.int .i64 7) ∧ W5.drew.cell? ⟨gb, 2, none⟩ = some (.int .i64 0) ∧ W5.drew.cell? ⟨gb, 3, none⟩ = some (.int .i64 3) := ⟨hm5.cell 1, (k 0).trans e0, (k 1).trans e1, (k 2).trans e2, (k 3).trans e3⟩
  have HKE := Lib.hid (fun (w6 : World) (b6 : Below W5.drew.heap.size W5.drew w6) => And.intro ((b6.cell (p := ⟨w4.heap.size, 1, none⟩) hm5.lt).trans cD.1) (And.intro ((b6.cell (p := ⟨gb, 0, none⟩) (Nat.lt_of_lt_of_le hgl hb5.size)).trans cD.2.1) (And.intro ((b6.cell (p := ⟨gb, 1, none⟩) (Nat.lt_of_lt_of_le hgl hb5.size)).trans cD.2.2.1) (And.intro ((b6.cell (p := ⟨gb, 2, none⟩) (Nat.lt_of_lt_of_le hgl hb5.size)).trans cD.2.2.2.1) ((b6.cell (p := ⟨gb, 3, none⟩) (Nat.lt_of_lt_of_le hgl hb5.size)).trans cD.2.2.2.2)))))
  have HW5 := Lib.hid hW5
  have HB5 := Lib.hid (H4.out.trans (hb5.mono H4.out.size))
  clear ho4 hw4 hp4 t4 hcell hb5 hm5 k hW5 e0 e1 e2 e3 hgl
  go_wp2_with fail
  rw [HW5.out]
  go_region_held3 (fun w' => w'.cell? ⟨w4.heap.size, 1, none⟩ = some (.slice (some ⟨gb, 0, none⟩) 1 d4) ∧ w'.cell? ⟨gb, 0, none⟩ = some (.int .i64 1) ∧ w'.cell? ⟨gb, 1, none⟩ = some (.int .i64 7) ∧ w'.cell? ⟨gb, 2, none⟩ = some (.int .i64 0) ∧ w'.cell? ⟨gb, 3, none⟩ = some (.int .i64 3))
    (first
      | (with_reducible exact cD)
      | (with_reducible exact cA)
      | fail)
    (first
      | (go_at_call 17; (with_reducible (refine (HVV.out _).mono ?_)); rintro e w6 ⟨rfl, b6⟩; have cA := HKE.out w6 b6))
  have HE := Lib.hid (HB5.out.drew.trans (b6.mono HB5.out.size))
  clear cA cD b6 HKE
  go_wp2_with fail
  go_ret
  exact ⟨rfl, HE.out⟩
end Go.Proofs.Ythghedlgeceepaa
