/- The document's Role, as a contract. Its condition: fewer than 2^20 ports, and a port that is there. -/
import Derived.Test.YtogkminlhjmafaaVlist
namespace Go.Proofs.Ytogkminlhjmafaa
open Go.RowKit
set_option maxRecDepth 100000

theorem HdCells.drew {w : World} {b i : Nat} {h : Hd} (k : HdCells w b i h) : HdCells w.drew b i h := ⟨k.c0, k.c1, k.c2, k.c3, k.c4, k.c5, k.c6⟩
/-- The role of port i. -/
def roleAt (id : Int) (l : List Hd) (i : Nat) : Int := if (i : Int) = (bestTo id l l.length).2 then 1 else roleO id (l.getD i hd0) (offerV (bestTo id l l.length).1 id i)
set_option maxHeartbeats 4000000 in
theorem rrole_any (A : Option Addr) (c : Nat) (id : Int) (l : List Hd) (i : Nat) (w : World) (h : HdAt w w.heap.size A l) (hok : ∀ x ∈ l, x.ok) (hn : l.length ≤ 1048576) (hi : i < l.length) :
    Calls Try.prog 65 #[.int .i64 id, .slice A l.length c, .int .i64 i] w fun e w' => e = .returned (.int .i64 (roleAt id l i)) ∧ Below w.heap.size w w' := by
  have HB := Lib.hid (rbest_any A c id l w h hok hn)
  have hmem : l.getD i hd0 ∈ l := by rw [List.getD_eq_getElem?_getD, List.getElem?_eq_getElem hi]; exact List.getElem_mem hi
  have hxok := hok _ hmem
  obtain ⟨b, off, rfl, hbl, hc⟩ := h i hi
  obtain ⟨x, hx⟩ : ∃ x, l.getD i hd0 = x := ⟨_, rfl⟩
  rw [hx] at hc hxok
  obtain ⟨s, hs⟩ : ∃ s, bestTo id l l.length = s := ⟨_, rfl⟩
  rw [hs] at HB
  obtain ⟨bv, at_⟩ := s
  have hrole : roleAt id l i = if (i : Int) = at_ then 1 else roleO id x (offerV bv id i) := by unfold roleAt; rw [hs, hx]
  rw [hrole]
  obtain ⟨n, hnn⟩ : ∃ n, l.length = n := ⟨_, rfl⟩
  rw [hnn] at HB hi ⊢
  obtain ⟨r, k, bb, p, a, cc, nn⟩ := x
  have HC := Lib.hid (And.intro hc hbl)
  have hr : r ≤ 9223372036854775807 := hxok.1.1.2
  have HU := Lib.hid (fun w => use_any id ⟨r, k, bb, p, a, cc, nn⟩ hr w)
  have HBE := Lib.hid (fun w => rbetter_any (offerV bv id i) (Hd.mk r k bb p a cc nn).vec w)
  obtain ⟨bl, hbl'⟩ : ∃ bl, decide (ltV (offerV bv id i) (Hd.mk r k bb p a cc nn).vec) = bl := ⟨_, rfl⟩
  rw [hbl'] at HBE
  simp only [Hd.v, Hd.arr, Hd.vec, Vec.v, Vec.arr, offerV] at HU HBE HB
  have HBL := Lib.hid hbl'
  have i0 : (0 : Int) ≤ i := by omega
  have i1 : (i : Int) < n := by omega
  clear h hok hn hmem hxok hc hbl hx hs hrole hnn hr hbl' hi
  by_cases hat : (i : Int) = at_
  · rw [if_pos hat]
    have d0 : ((i : Int) == at_) = true := by simpa using hat
    clear hat
    go_enter Try.func65, Try.ntmps65
    go_wp2_with fail
    refine HB.out.mono ?_
    rintro e w1 ⟨rfl, b1⟩
    have hf := b1.trans ((bel_alloc w1 (.cells bv.arr 32)).mono b1.size)
    clear b1
    go_wp2_with fail
    go_ret
    exact ⟨rfl, hf⟩
  · rw [if_neg hat]
    have d0 : ((i : Int) == at_) = false := by simpa using hat
    clear hat
    cases hu : useB id ⟨r, k, bb, p, a, cc, nn⟩
    · rw [hu] at HU
      rw [show roleO id ⟨r, k, bb, p, a, cc, nn⟩ (offerV bv id i) = 2 from if_neg (by simp [hu])]
      clear hu
      go_enter Try.func65, Try.ntmps65
      go_wp2_with fail
      refine HB.out.mono ?_
      rintro e w1 ⟨rfl, b1⟩
      have hc1 := HC.out.1.below b1 HC.out.2
      obtain ⟨q0, q1, q2, q3, q4, q5, q6⟩ := (hc1.below (bel_alloc2 w1 (.cells bv.arr 32) (.cells (offerV bv id i).arr 32)) (Nat.lt_of_lt_of_le HC.out.2 b1.size))
      simp only [Vec.arr, offerV] at q0 q1 q2 q3 q4 q5 q6
      have hf := b1.trans ((bel_alloc2 w1 (.cells bv.arr 32) (.cells (offerV bv id i).arr 32)).mono b1.size)
      clear b1 hc1
      go_wp2_with fail
      refine wp_region_pf (by kernel_rfl) (fun _ _ _ _ _ h => h) (fun hPF => ?_)
      refine wpAny_takeD (i := 0) 26 (v := ?_) hPF rfl rfl (by kernel_rfl) (by kernel_rfl) (by kernel_rfl) (Or.inl ⟨by kernel_rfl, ?_⟩) ?_
      rotate_left
      · intro w; go_simp; try with_reducible rfl
      simp only [Act.put]
      refine wpAny_takeD (i := 1) 27 (v := ?_) hPF rfl rfl (by kernel_rfl) (by kernel_rfl) (by kernel_rfl) (Or.inl ⟨by kernel_rfl, ?_⟩) ?_
      rotate_left
      · intro w; go_simp; try with_reducible rfl
      simp only [Act.put]
      refine wpAny_takeD (i := 2) 28 (v := ?_) hPF rfl rfl (by kernel_rfl) (by kernel_rfl) (by kernel_rfl) (Or.inl ⟨by kernel_rfl, ?_⟩) ?_
      rotate_left
      · intro w; go_simp; try with_reducible rfl
      simp only [Act.put]
      refine wpAny_takeD (i := 4) 30 (v := ?_) hPF rfl rfl (by kernel_rfl) (by kernel_rfl) (by kernel_rfl) (Or.inl ⟨by kernel_rfl, ?_⟩) ?_
      rotate_left
      · intro w; go_simp; try with_reducible rfl
      simp only [Act.put]
      refine wpAny_ready (rs := [3]) (by kernel_rfl) (by simp) ?_
      refine AllReady.cons rfl (fun K hK => ?_) AllReady.nil
      go_simp
      refine hK _ _ ?_
      clear hK K
      refine wpAny_ready (rs := [5]) (by kernel_rfl) (by simp) ?_
      refine AllReady.cons rfl (fun K hK => ?_) AllReady.nil
      go_simp
      go_at_call 74
      refine (HU.out _).mono ?_
      rintro e w2 ⟨rfl, b2⟩
      refine hK _ _ ?_
      clear hK K
      refine wpAny_takeD (i := 6) 32 (v := ?_) hPF rfl rfl (by kernel_rfl) (by kernel_rfl) (by kernel_rfl) (Or.inl ⟨by kernel_rfl, ?_⟩) ?_
      rotate_left
      · intro w; go_simp; try with_reducible rfl
      simp only [Act.put]
      refine wpAny_takeD (i := 7) 33 (v := ?_) hPF rfl rfl (by kernel_rfl) (by kernel_rfl) (by kernel_rfl) (Or.inl ⟨by kernel_rfl, ?_⟩) ?_
      rotate_left
      · intro w; go_simp; try with_reducible rfl
      simp only [Act.put]
      refine wpAny_takeD (i := 8) 34 (v := undef) hPF rfl rfl (by kernel_rfl) (by kernel_rfl) (by kernel_rfl) (Or.inr ⟨by kernel_rfl, rfl⟩) ?_
      simp only [Act.put]
      refine wpAny_takeD (i := 9) 35 (v := undef) hPF rfl rfl (by kernel_rfl) (by kernel_rfl) (by kernel_rfl) (Or.inr ⟨by kernel_rfl, rfl⟩) ?_
      simp only [Act.put]
      refine wpAny_takeD (i := 10) 36 (v := undef) hPF rfl rfl (by kernel_rfl) (by kernel_rfl) (by kernel_rfl) (Or.inr ⟨by kernel_rfl, rfl⟩) ?_
      simp only [Act.put]
      refine wpAny_takeD (i := 11) 37 (v := undef) hPF rfl rfl (by kernel_rfl) (by kernel_rfl) (by kernel_rfl) (Or.inr ⟨by kernel_rfl, rfl⟩) ?_
      simp only [Act.put]
      refine wpAny_takeD (i := 12) 38 (v := undef) hPF rfl rfl (by kernel_rfl) (by kernel_rfl) (by kernel_rfl) (Or.inr ⟨by kernel_rfl, rfl⟩) ?_
      simp only [Act.put]
      refine wpAny_takeD (i := 13) 39 (v := undef) hPF rfl rfl (by kernel_rfl) (by kernel_rfl) (by kernel_rfl) (Or.inr ⟨by kernel_rfl, rfl⟩) ?_
      simp only [Act.put]
      refine wpAny_takeD (i := 14) 40 (v := undef) hPF rfl rfl (by kernel_rfl) (by kernel_rfl) (by kernel_rfl) (Or.inr ⟨by kernel_rfl, rfl⟩) ?_
      simp only [Act.put]
      refine wpAny_takeD (i := 15) 41 (v := ?_) hPF rfl rfl (by kernel_rfl) (by kernel_rfl) (by kernel_rfl) (Or.inl ⟨by kernel_rfl, ?_⟩) ?_
      rotate_left
      · intro w; go_simp; try with_reducible rfl
      simp only [Act.put]
      refine wpAny_done (by kernel_rfl) ?_ _
      simp only [List.setIfInBounds_toArray, List.set_cons_zero, List.set_cons_succ]
      have hf := hf.drew.trans (b2.mono hf.size)
      clear b2 q0 q1 q2 q3 q4 q5 q6
      go_wp2_with fail
      go_ret
      exact ⟨rfl, hf⟩
    · rw [hu] at HU
      have HUU := Lib.hid hu
      clear hu
      cases bl
      · rw [show roleO id ⟨r, k, bb, p, a, cc, nn⟩ (offerV bv id i) = 3 from if_pos ⟨HUU.out, of_decide_eq_false HBL.out⟩]
        go_enter Try.func65, Try.ntmps65
        go_wp2_with fail
        refine HB.out.mono ?_
        rintro e w1 ⟨rfl, b1⟩
        have hc1 := HC.out.1.below b1 HC.out.2
        have kc := (hc1.below (bel_alloc2 w1 (.cells bv.arr 32) (.cells (offerV bv id i).arr 32)) (Nat.lt_of_lt_of_le HC.out.2 b1.size)).drew
        have kz := (vec_new w1 (.cells bv.arr 32) (offerV bv id i).arr).drew
        have hf := (b1.trans ((bel_alloc2 w1 (.cells bv.arr 32) (.cells (offerV bv id i).arr 32)).mono b1.size)).drew
        clear b1 hc1
        go_wp2_with fail
        go_region_held3 (fun w' => w'.cell? ⟨b, off + i * 7, none⟩ = some (.int .i64 r) ∧ w'.cell? ⟨b, off + i * 7 + 1, none⟩ = some (.int .i64 k) ∧ w'.cell? ⟨b, off + i * 7 + 2, none⟩ = some (.int .i64 bb) ∧ w'.cell? ⟨b, off + i * 7 + 3, none⟩ = some (.int .i64 p) ∧ w'.cell? ⟨b, off + i * 7 + 4, none⟩ = some (.int .i64 a) ∧ w'.cell? ⟨b, off + i * 7 + 5, none⟩ = some (.int .i64 cc) ∧ w'.cell? ⟨b, off + i * 7 + 6, none⟩ = some (.bool nn)
          ∧ w'.cell? ⟨w1.heap.size + 1, 0, none⟩ = some (.int .i64 bv.root) ∧ w'.cell? ⟨w1.heap.size + 1, 1, none⟩ = some (.int .i64 bv.cost) ∧ w'.cell? ⟨w1.heap.size + 1, 2, none⟩ = some (.int .i64 id) ∧ w'.cell? ⟨w1.heap.size + 1, 3, none⟩ = some (.int .i64 i))
          (first | exact ⟨kc.c0, kc.c1, kc.c2, kc.c3, kc.c4, kc.c5, kc.c6, kz.cell 0, kz.cell 1, kz.cell 2, kz.cell 3⟩ | exact ⟨kc2.c0, kc2.c1, kc2.c2, kc2.c3, kc2.c4, kc2.c5, kc2.c6, kz2.cell 0, kz2.cell 1, kz2.cell 2, kz2.cell 3⟩ | exact ⟨kc3.c0, kc3.c1, kc3.c2, kc3.c3, kc3.c4, kc3.c5, kc3.c6, kz3.cell 0, kz3.cell 1, kz3.cell 2, kz3.cell 3⟩)
          (first
            | (go_at_call 74; (with_reducible (refine (HU.out _).mono ?_)); rintro e w2 ⟨rfl, b2⟩; have kc2 := kc.below b2 (Nat.lt_of_lt_of_le HC.out.2 hf.size); have kz2 := kz.below b2 kz.lt; have hf2 := hf.trans (b2.mono hf.size))
            | (go_at_call 75; (with_reducible (refine (HBE.out _).mono ?_)); rintro e w3 ⟨rfl, b3⟩; have kc3 := kc2.below b3 (Nat.lt_of_lt_of_le HC.out.2 hf2.size); have kz3 := kz2.below b3 kz2.lt; have hf3 := hf2.trans (b3.mono hf2.size)))
        all_goals
          go_wp2_with fail
          go_ret
          exact ⟨rfl, hf3⟩

      · rw [show roleO id ⟨r, k, bb, p, a, cc, nn⟩ (offerV bv id i) = 2 from if_neg fun h => absurd (of_decide_eq_true HBL.out) h.2]
        go_enter Try.func65, Try.ntmps65
        go_wp2_with fail
        refine HB.out.mono ?_
        rintro e w1 ⟨rfl, b1⟩
        have hc1 := HC.out.1.below b1 HC.out.2
        have kc := (hc1.below (bel_alloc2 w1 (.cells bv.arr 32) (.cells (offerV bv id i).arr 32)) (Nat.lt_of_lt_of_le HC.out.2 b1.size)).drew
        have kz := (vec_new w1 (.cells bv.arr 32) (offerV bv id i).arr).drew
        have hf := (b1.trans ((bel_alloc2 w1 (.cells bv.arr 32) (.cells (offerV bv id i).arr 32)).mono b1.size)).drew
        clear b1 hc1
        go_wp2_with fail
        go_region_held3 (fun w' => w'.cell? ⟨b, off + i * 7, none⟩ = some (.int .i64 r) ∧ w'.cell? ⟨b, off + i * 7 + 1, none⟩ = some (.int .i64 k) ∧ w'.cell? ⟨b, off + i * 7 + 2, none⟩ = some (.int .i64 bb) ∧ w'.cell? ⟨b, off + i * 7 + 3, none⟩ = some (.int .i64 p) ∧ w'.cell? ⟨b, off + i * 7 + 4, none⟩ = some (.int .i64 a) ∧ w'.cell? ⟨b, off + i * 7 + 5, none⟩ = some (.int .i64 cc) ∧ w'.cell? ⟨b, off + i * 7 + 6, none⟩ = some (.bool nn)
          ∧ w'.cell? ⟨w1.heap.size + 1, 0, none⟩ = some (.int .i64 bv.root) ∧ w'.cell? ⟨w1.heap.size + 1, 1, none⟩ = some (.int .i64 bv.cost) ∧ w'.cell? ⟨w1.heap.size + 1, 2, none⟩ = some (.int .i64 id) ∧ w'.cell? ⟨w1.heap.size + 1, 3, none⟩ = some (.int .i64 i))
          (first | exact ⟨kc.c0, kc.c1, kc.c2, kc.c3, kc.c4, kc.c5, kc.c6, kz.cell 0, kz.cell 1, kz.cell 2, kz.cell 3⟩ | exact ⟨kc2.c0, kc2.c1, kc2.c2, kc2.c3, kc2.c4, kc2.c5, kc2.c6, kz2.cell 0, kz2.cell 1, kz2.cell 2, kz2.cell 3⟩ | exact ⟨kc3.c0, kc3.c1, kc3.c2, kc3.c3, kc3.c4, kc3.c5, kc3.c6, kz3.cell 0, kz3.cell 1, kz3.cell 2, kz3.cell 3⟩)
          (first
            | (go_at_call 74; (with_reducible (refine (HU.out _).mono ?_)); rintro e w2 ⟨rfl, b2⟩; have kc2 := kc.below b2 (Nat.lt_of_lt_of_le HC.out.2 hf.size); have kz2 := kz.below b2 kz.lt; have hf2 := hf.trans (b2.mono hf.size))
            | (go_at_call 75; (with_reducible (refine (HBE.out _).mono ?_)); rintro e w3 ⟨rfl, b3⟩; have kc3 := kc2.below b3 (Nat.lt_of_lt_of_le HC.out.2 hf2.size); have kz3 := kz2.below b3 kz2.lt; have hf3 := hf2.trans (b3.mono hf2.size)))
        all_goals
          go_wp2_with fail
          go_ret
          exact ⟨rfl, hf3⟩

end Go.Proofs.Ytogkminlhjmafaa
