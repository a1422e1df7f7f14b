/- slices.DeleteFunc of the timers that are late, walked. Its condition: fewer than 2^20 timers. -/
import Derived.Test.YtogghcbijdljkaaWdel
namespace Go.Proofs.Ytogghcbijdljkaa
open Go.RowKit
set_option maxRecDepth 100000

/-- A row of timers that is one of the program's own, by its block. -/
structure RowT (w : World) (base g c : Nat) (l : List Tm) : Prop where
  own : OwnT w base (some ⟨g, 0, none⟩) c l
theorem RowT.cell {w : World} {base g c : Nat} {l : List Tm} (h : RowT w base g c l) (k : Nat) (hk : k < l.length) : w.cell? ⟨g, k * 2, none⟩ = some (.int .i64 (l.getD k tm0).due) ∧ w.cell? ⟨g, k * 2 + 1, none⟩ = some (.int .i64 (l.getD k tm0).key) := by
  obtain ⟨b, off, e, _, p0, p1⟩ := h.own.at_ k hk
  injection e with e
  injection e with e1 e2
  subst e1 e2
  rw [Nat.zero_add] at p0 p1
  exact ⟨p0, p1⟩
theorem RowT.set_ {w : World} {base g c : Nat} {l : List Tm} (h : RowT w base g c l) (i : Nat) (x : Tm) (hi : i < l.length) : RowT ((w.setCell ⟨g, i * 2, none⟩ (.int .i64 x.due)).setCell ⟨g, i * 2 + 1, none⟩ (.int .i64 x.key)) base g c (l.set i x) := by
  have h1 := own_setk (own_setk h.own (i * 2) (.int .i64 x.due)) (i * 2 + 1) (.int .i64 x.key)
  have e : tmL (l.set i x) = ((tmL l).set (i * 2) (.int .i64 x.due)).set (i * 2 + 1) (.int .i64 x.key) := by
    clear h h1
    induction l generalizing i with
    | nil => simp at hi
    | cons a l ih =>
      cases i with
      | zero => simp [tmL, Tm.cells]
      | succ i =>
        rw [List.set_cons_succ, tmL, ih i (by simpa using hi), tmL, List.set_append_right _ _ (by simp [Tm.cells]; omega), List.set_append_right _ _ (by simp [Tm.cells]; omega)]
        congr 2
        · congr 1
          simp [Tm.cells]; omega
        · simp [Tm.cells]; omega
  refine ⟨?_⟩
  unfold OwnT
  rw [List.length_set, e]
  exact h1
theorem RowT.below {w w' : World} {base g c : Nat} {l : List Tm} (h : RowT w base g c l) (b : Below w.heap.size w w') : RowT w' base g c l :=
  ⟨own_heap h.own fun k hk => b.block k (World.ownsRow.lt h.own k hk).2⟩
theorem row_cut {w : World} {base g c i : Nat} {L : List Tm} (h : RowT w base g c L) (hi : i ≤ L.length) (vs : List Value) : OwnT (w.setCells g (i * 2) vs) base (some ⟨g, 0, none⟩) c (L.take i) := by
  have hc := (own_cap h.own).1
  have hl : (L.take i).length = i := by rw [List.length_take]; omega
  rcases h.own.2 with ⟨e0, _⟩ | ⟨g', cap', cur, e0, hb, hg, hn', hm, hs, ht⟩
  · cases e0
  · injection e0 with e1 _ e3
    injection e1 with e1
    injection e1 with e1
    subst e1 e3
    obtain ⟨c2, h2, z2⟩ := setCells_blk g vs (i * 2) w cur hg
    refine own_of_cells h2 hb (by omega) (by rw [hl]; omega) hm (by rw [tmL_length]) (fun j u hu => ?_)
    rw [tmL_take, List.getElem?_take] at hu
    split at hu
    · rename_i hj
      rw [World.cell?_setCells_out g _ _ _ _ (fun _ _ => Or.inl hj)]
      have := h.own.cells (g := g) rfl j u hu
      rwa [Addr.add_lit, Nat.zero_add] at this
    · cases hu
set_option maxRecDepth 100000 in
set_option maxHeartbeats 4000000 in
theorem del_any (A : Option Addr) (c : Nat) (l : List Tm) (bn : Nat) (now : Int) (base : Nat) (w : World) (h : OwnT w base A c l) (hn : l.length ≤ 1048000) (hb : Blk w bn 3 #[.int .i64 now]) :
    Calls Try.prog 42 #[.slice A l.length c, .func (.func 41) #[] #[.pointer (some ⟨bn, 0, none⟩)]] w fun e w' =>
      e = .returned (.slice A (keepT now l).length c) ∧ OwnT w' base A c (keepT now l) ∧ Touch (fun k => (Value.slice A l.length c).ownBlock = some k) w w' := by
  have HIX := Lib.hid (index_late A c l bn now w h.at_ hn (hb.cell 0) hb.lt)
  by_cases hf : firstL now l < l.length
  · obtain ⟨g, cap, e, hbg, hlg⟩ := h.form (show 0 < l.length by omega)
    injection e with e1 _ e3
    subst e1 e3
    have hix : idxL now l = (firstL now l : Int) := by unfold idxL; rw [if_pos hf]
    rw [hix] at HIX
    have hfil := fil_start now l hf
    obtain ⟨i0, hi0⟩ : ∃ i, firstL now l = i := ⟨_, rfl⟩
    rw [hi0] at HIX hfil hf
    have hrow : RowT w base g c l := ⟨h⟩
    have hgb : g ≠ bn := fun e => own_ne h hb (by decide) (by rw [← e]; rfl)
    have hcap := (own_cap h).1
    obtain ⟨n, hnn⟩ : ∃ n, l.length = n := ⟨_, rfl⟩
    have HN := Lib.hid hnn
    have HN5 := Lib.hid hn
    have HGB := Lib.hid hgb
    have HR0 := Lib.hid (And.intro hrow hb)
    have HF0 := Lib.hid hfil
    have HCAP := Lib.hid hcap
    have HLG := Lib.hid hlg
    have HF := Lib.hid hf
    have i1 : ((i0 : Int) == -1) = false := by rw [beq_eq_false_iff_ne]; omega
    have i2 : (0 : Int) ≤ i0 := by omega
    have i3 : wrap64 ((i0 : Int) + 1) = (i0 : Int) + 1 := IntWalk.wrap64_in _ (by omega)
    rw [hnn] at HIX ⊢
    clear h hn hb hix hfil hi0 hrow hgb hcap hnn hbg hlg hf
    go_enter Try.func42, Try.ntmps42
    go_wp2_with fail
    refine HIX.out.mono ?_
    rintro e w1 ⟨rfl, b1⟩
    have HB1 := Lib.hid b1
    clear b1
    go_wp2_with fail
    rw [i3]
    clear i3
    go_loopw [5, 6] (fun iv jv wr => ∃ i j : Nat, iv = .int .i64 i ∧ jv = .int .i64 j ∧ i < j ∧ j ≤ n ∧ Hid (∃ L, Fil now l L i j ∧ RowT wr base g c L ∧ Blk wr bn 3 #[.int .i64 now] ∧ Touch (· = g) w wr)) (fun _ jv _ => n - (intOf jv).toNat)
    case atStart => exact ⟨i0, i0 + 1, rfl, by rw [Int.natCast_add]; rfl, by omega, by have := HF.out; have := HN.out; omega, Lib.hid ⟨l, HF0.out, HR0.out.1.below HB1.out, HR0.out.2.below HB1.out HR0.out.2.lt, (Below.touch HB1.out).mono (fun k hk hp => absurd hp (by omega))⟩⟩
    case round =>
      obtain ⟨i, j, rfl, rfl, hij, hj, hL⟩ := hrel
      by_cases hlt : j < n
      · obtain ⟨L, hfl, hrw, hbn, ht⟩ := hL.out
        have hLl : L.length = n := hfl.1.trans HN.out
        obtain ⟨x, hx⟩ : ∃ x, l.getD j tm0 = x := ⟨_, rfl⟩
        have hLx : L.getD j tm0 = x := (drop_at l L j hfl.2.2 j (Nat.le_refl _)).trans hx
        have q := hrw.cell j (by omega)
        rw [hLx] at q
        obtain ⟨q0, q1⟩ := q
        have hbn1 := hbn.alloc (.cells #[.int .i64 x.due, .int .i64 x.key] 46)
        have hcl := late_any bn now x _ (hbn1.cell 0) hbn1.lt
        have bal := (Below.refl wr.heap.size wr).alloc (Nat.le_refl _) (.cells #[.int .i64 x.due, .int .i64 x.key] 46)
        have zx := Blk.new wr 46 #[.int .i64 x.due, .int .i64 x.key]
        have j1 : (j : Int) < n := by omega
        have j0 : (0 : Int) ≤ j := by omega
        have k0 : (0 : Int) ≤ i := by omega
        have k1 : (i : Int) < n := by omega
        have HJ := Lib.hid (show wrap64 ((j : Int) + 1) = (j : Int) + 1 from IntWalk.wrap64_in _ (by have := HN5.out; have := HN.out; omega))
        have HI := Lib.hid (show wrap64 ((i : Int) + 1) = (i : Int) + 1 from IntWalk.wrap64_in _ (by have := HN5.out; have := HN.out; omega))
        have HST := Lib.hid (And.intro hfl (And.intro hrw (And.intro hbn (And.intro ht (And.intro hLl hx)))))
        have HAL := Lib.hid (And.intro bal zx)
        clear hfl hrw hbn ht hLl hx hLx hbn1 bal zx hL
        cases hlb : lateB now x with
        | true =>
          rw [hlb] at hcl
          have HCL := Lib.hid hcl
          have HLB := Lib.hid hlb
          have jw := HJ.out
          clear hcl hlb
          go_wp2_with fail
          refine HCL.out.mono ?_
          rintro e w2 ⟨rfl, b2⟩
          have b3 : Below wr.heap.size wr w2 := HAL.out.1.trans (b2.mono HAL.out.1.size)
          have HB3 := Lib.hid b3
          clear b2 b3
          go_wp2_with fail
          go_roundw
          case rel =>
            rw [jw]
            refine ⟨i, j + 1, rfl, by rw [Int.natCast_add]; rfl, by omega, hlt, Lib.hid ⟨L, fil_late HST.out.1 (by rw [HN.out]; exact hlt) (by rw [HST.out.2.2.2.2.2]; exact HLB.out), HST.out.2.1.below HB3.out, HST.out.2.2.1.below HB3.out HST.out.2.2.1.lt, HST.out.2.2.2.1.trans ((Below.touch HB3.out).mono (fun k hk hp => absurd hp (by omega)))⟩⟩
          case measure =>
            rw [jw]
            show n - ((j : Int) + 1).toNat < n - ((j : Int)).toNat
            omega
        | false =>
          rw [hlb] at hcl
          have HCL := Lib.hid hcl
          have HLB := Lib.hid hlb
          clear hcl hlb
          go_wp2_with fail
          refine HCL.out.mono ?_
          rintro e w2 ⟨rfl, b2⟩
          have b3 : Below wr.heap.size wr w2 := HAL.out.1.trans (b2.mono HAL.out.1.size)
          have zx2 := HAL.out.2.below b2 HAL.out.2.lt
          have hr2 := HST.out.2.1.below b3
          have x0 := zx2.cell 0
          have x1 := zx2.cell 1
          have c := hr2.cell i (by rw [HST.out.2.2.2.2.1]; omega)
          obtain ⟨c0, c1⟩ := c
          have f0 : w2.frozen? ⟨g, i * 2, none⟩ = false := hr2.own.frozenAt (i * 2)
          have f1 : w2.frozen? ⟨g, i * 2 + 1, none⟩ = false := hr2.own.frozenAt (i * 2 + 1)
          have HB3 := Lib.hid b3
          have HR2 := Lib.hid hr2
          have jw := HJ.out
          have iw := HI.out
          clear b2 b3 zx2 hr2
          go_wp2_with fail
          go_roundw
          case rel =>
            rw [iw, jw]
            refine ⟨i + 1, j + 1, by rw [Int.natCast_add]; rfl, by rw [Int.natCast_add]; rfl, by omega, hlt, Lib.hid ⟨_, ?_, HR2.out.set_ i x (by rw [HST.out.2.2.2.2.1]; omega), ?_, ?_⟩⟩
            · have := fil_keep HST.out.1 hij (by rw [HN.out]; exact hlt) (by rw [HST.out.2.2.2.2.2]; exact HLB.out)
              rw [HST.out.2.2.2.2.2] at this
              exact this
            · exact ((HST.out.2.2.1.below HB3.out HST.out.2.2.1.lt).far (fun e => HGB.out e.symm) _).far (fun e => HGB.out e.symm) _
            · exact ((HST.out.2.2.2.1.trans ((Below.touch HB3.out).mono (fun k hk hp => absurd hp (by omega)))).set_ (fun _ => rfl) _).set_ (fun _ => rfl) _
          case measure =>
            rw [jw]
            show n - ((j : Int) + 1).toNat < n - ((j : Int)).toNat
            omega
      · obtain rfl : n = j := by omega
        obtain ⟨L, hfl, hrw, hbn, ht⟩ := hL.out
        have hLl : L.length = n := hfl.1.trans HN.out
        have hkeep : L.take i = keepT now l := fil_end (by rw [HN.out]; exact hfl)
        have hcut := row_cut hrw (show i ≤ L.length by omega) (List.replicate ((n - i) * 2) (.int .i64 0))
        rw [hkeep] at hcut
        have hkl : (keepT now l).length = i := by rw [← hkeep, List.length_take]; omega
        have hsome : ∀ q, q < (n - i) * 2 → (wr.cell? ⟨g, i * 2 + q, none⟩).isSome = true := fun q hq => by
          have h1 : i * 2 + q = (i * 2 + q) / 2 * 2 + (i * 2 + q) % 2 := by omega
          have h2 := hrw.cell ((i * 2 + q) / 2) (by omega)
          have h3 : (i * 2 + q) % 2 = 0 ∨ (i * 2 + q) % 2 = 1 := by omega
          rcases h3 with h3 | h3
          · rw [h1, h3, Nat.add_zero, h2.1]; rfl
          · rw [h1, h3, h2.2]; rfl
        have hcl : ∀ ty, (Builtin.clear_ #[38] ty #[.slice (some ⟨g, i * 2, none⟩) (n - i) (c - i)]).run Try.prog wr = .ok (.tuple #[]) (wr.setCells g (i * 2) (List.replicate ((n - i) * 2) (.int .i64 0))) := fun ty =>
          run_clear_tms wr ty g (i * 2) (n - i) (c - i) (by omega) hsome (fun q hq => hrw.own.frozenAt (i * 2 + q))
        have HEND := Lib.hid (And.intro hcut (ht.trans (setCells_touch g (List.replicate ((n - i) * 2) (.int .i64 0)) (i * 2) wr)))
        have HKL := Lib.hid hkl
        have b1 : ¬ (c = i) := by have := HCAP.out; have := HN.out; omega
        have b2 : (0 : Int) ≤ i := by omega
        have b3 : (i : Int) ≤ n := by omega
        have b4 : (i : Int) ≤ c := by have := HCAP.out; have := HN.out; omega
        clear hfl hrw hbn ht hLl hkeep hcut hkl hsome hL hj hlt hij i1 i2
        go_wp2_with (simp only [hcl])
        go_ret
        exact ⟨by rw [HKL.out]; rfl, HEND.out.1, HEND.out.2.mono (fun k _ hk => by rw [hk]; rfl)⟩
  · have hix : idxL now l = -1 := by unfold idxL; rw [if_neg hf]
    rw [hix] at HIX
    have hk := keep_none now l hf
    rw [hk]
    have HO := Lib.hid h
    clear hix hk h hb hn hf
    go_enter Try.func42, Try.ntmps42
    go_wp2_with fail
    refine HIX.out.mono ?_
    rintro e w1 ⟨rfl, b1⟩
    have HB := Lib.hid b1
    clear b1
    go_wp2_with fail
    go_ret
    exact ⟨rfl, own_heap HO.out fun k hk => HB.out.block k (World.ownsRow.lt HO.out k hk).2, (Below.touch HB.out).mono (fun k hk hp => absurd hp (by omega))⟩
end Go.Proofs.Ytogghcbijdljkaa
