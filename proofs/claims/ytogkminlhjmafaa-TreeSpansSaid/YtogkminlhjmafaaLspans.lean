/- The document's tree spans: links of it join all that links join, and it has one link fewer than bridges in each part (P12.2). No condition. -/
import Derived.Test.YtogkminlhjmafaaLfits
import Derived.Test.YtogkminlhjmafaaLstands
import Derived.Test.YtogkminlhjmafaaLparts
import Derived.Test.YtogkminlhjmafaaTalive
namespace Go.Proofs.Ytogkminlhjmafaa
open Go.ChangeShapes Go.WideShapes Go.ChangeAt Go.RowKit
set_option maxRecDepth 100000

set_option maxHeartbeats 2000000 in
theorem bound_any (n : Nat) (h1 : 1 ≤ n) (h8 : n ≤ 8) (w : World) : Calls Try.prog 29 #[.int .i64 n] w fun e w' => e = .returned (.int .i64 ((10 + (n : Int) + 1) * 27 + 8)) ∧ Below w.heap.size w w' := by
  rcases (show n = 1 ∨ n = 2 ∨ n = 3 ∨ n = 4 ∨ n = 5 ∨ n = 6 ∨ n = 7 ∨ n = 8 by omega) with rfl | rfl | rfl | rfl | rfl | rfl | rfl | rfl
  all_goals
    clear h1 h8
    go_enter Try.func29, Try.ntmps29
    go_wp2_with fail
    go_ret
    exact ⟨rfl, Below.refl _ _⟩
theorem partsF_is (L : List Lk) (p : Lk → Bool) (t : Nat) : partsF L (L.map p) t = psweeps (pairsOf (L.filter p)) t := by
  induction t with
  | zero => rfl
  | succ t ih =>
    show pfoldS L (L.map p) L.length (partsF L (L.map p) t) = psweep (pairsOf (L.filter p)) (psweeps (pairsOf (L.filter p)) t)
    rw [ih, pfoldS_all]
theorem range_map {α : Type} (l : List Li) (h : Li → α) : (List.range l.length).map (fun q => h (l.getD q li0)) = l.map h := by
  apply List.ext_getElem (by simp)
  intro i h1 h2
  simp only [List.length_map, List.length_range] at h1
  rw [List.getElem_map, List.getElem_map, List.getElem_range, List.getD_eq_getElem?_getD, List.getElem?_eq_getElem h1]
  rfl
theorem tree_len (f : Nat → Int) (F : Nat → Vec) (l : List Li) : (treeL f F (l.map Li.lk)).length = ((List.range l.length).filter (treeB f F l)).length := by
  unfold treeL
  have h := range_map l (fun x => decide (isT f F x.lk))
  have e1 : (List.filter (fun x => decide (isT f F x)) (l.map Li.lk)).length = (l.filter fun x => decide (isT f F x.lk)).length := by
    rw [List.filter_map, List.length_map]
    rfl
  rw [e1, ← List.countP_eq_length_filter, ← List.countP_eq_length_filter]
  have e2 : l.countP (fun x => decide (isT f F x.lk)) = (l.map fun x => decide (isT f F x.lk)).countP id := by rw [List.countP_map]; rfl
  rw [e2, ← h, List.countP_map]
  rfl
theorem sel_of {w : World} {base B c3 k : Nat} {A3 : Option Addr} {s : Nat → Bool} (h : LoB w base A3 c3 ((List.range k).map s)) (hB : w.heap.size ≤ B) : ∃ s' : Nat → Bool, SelAt w B (.slice A3 k c3) k s' ∧ (List.range k).map s' = (List.range k).map s := by
  unfold LoB at h
  rw [List.length_map, List.length_range] at h
  rcases h.2 with ⟨e0, _⟩ | ⟨g, cap, cur, e0, _, hg, _⟩
  · injection e0 with e1 e2 e3
    subst e1 e2 e3
    exact ⟨fun _ => true, .inl ⟨rfl, fun _ => rfl⟩, rfl⟩
  · injection e0 with e1 _ e3
    subst e1 e3
    refine ⟨s, .inr ⟨g, 0, c3, rfl, Nat.lt_of_lt_of_le (Array.getElem?_eq_some_iff.1 hg).1 hB, fun q hq => ?_⟩, rfl⟩
    rw [Nat.zero_add, h.cellAt (g := g) q (by omega), List.getElem?_map, List.getElem?_map, List.getElem?_range hq]
    rfl
theorem cntf_succ (p : Nat → Bool) (j : Nat) : (((List.range (j + 1)).filter p).length : Int) = ((List.range j).filter p).length + (if p j = true then 1 else 0) := by
  rw [List.range_succ, List.filter_append, List.length_append]
  by_cases h : p j = true
  · rw [if_pos h]; simp [h]
  · rw [if_neg h]; simp [h]
theorem cntf_le (p : Nat → Bool) (j : Nat) : ((List.range j).filter p).length ≤ j := by
  have := List.length_filter_le p (List.range j)
  rwa [List.length_range] at this
set_option maxHeartbeats 8000000 in
theorem walkTreeSpans (A : Option Addr) (n c : Nat) (zs : List Int) (A2 : Option Addr) (c2 : Nat) (l : List Li) (w : World) (hz : IsRow .i64 w A n c zs) (hl : LiAt w w.heap.size A2 l ∧ (∀ x ∈ l, x.ok) ∧ l.length ≤ maxLen) :
    Calls Try.prog 6 #[.slice A n c, .slice A2 l.length c2] w fun e w' => e = .returned (.bool true) ∧ Below w.heap.size w w' := by
  have hid : IdAt w w.heap.size A n (fun k => zs.getD k 0) := hz.id
  have hf : ∀ i, i < n → zs.getD i 0 ≤ 9223372036854775807 := fun i hi => by
    rcases hz with ⟨_, h, _, _⟩ | ⟨_, _, h1, _, h2, _, _, h3⟩
    · omega
    · have hl : i < zs.length := by omega
      rw [List.getD_eq_getElem?_getD, List.getElem?_eq_getElem hl]
      exact (wf_in (h3 _ (List.getElem_mem hl))).2
  have hnc : n ≤ c ∧ n ≤ maxLen := by
    rcases hz with ⟨_, h, h2, _⟩ | ⟨_, _, h1, h2, _⟩
    · exact ⟨by omega, by omega⟩
    · exact ⟨h1, by omega⟩
  obtain ⟨f, hff⟩ : ∃ f : Nat → Int, (fun k => zs.getD k 0) = f := ⟨_, rfl⟩
  rw [hff] at hid
  have hf : ∀ i, i < n → f i ≤ 9223372036854775807 := fun i hi => by rw [← hff]; exact hf i hi
  obtain ⟨k, hk⟩ : ∃ k, l.length = k := ⟨_, rfl⟩
  have H := Lib.hid (And.intro hid (And.intro hf (And.intro hnc (And.intro hl hk))))
  rw [hk]
  clear hz hid hf hnc hff hl hk
  go_enter Try.func6, Try.ntmps6
  go_wp2_with fail
  refine (talive_any w).mono ?_
  rintro e w1 ⟨rfl, b1⟩
  have hfit := fits_any A n c f A2 c2 l w1 ((H.out.1.below b1).more b1.size) H.out.2.1 H.out.2.2.1.1 ((H.out.2.2.2.1.1.below b1).more b1.size) H.out.2.2.2.1.2.1 H.out.2.2.1.2 H.out.2.2.2.1.2.2
  rw [H.out.2.2.2.2] at hfit
  have HFIT := Lib.hid hfit
  have HB1 := Lib.hid b1
  clear hfit b1
  go_wp2_with fail
  refine HFIT.out.mono ?_
  rintro e w2 ⟨hor, b2⟩
  have HB2 := Lib.hid (HB1.out.trans (b2.mono HB1.out.size))
  clear HFIT b2
  rcases hor with rfl | ⟨rfl, hbig, hn1, hk16, hpos⟩
  · go_wp2_with fail
    go_ret
    exact ⟨rfl, HB2.out⟩
  have hend := hbig.fits
  have hlen : (l.map Li.lk).length = k := by rw [List.length_map, H.out.2.2.2.2]
  obtain ⟨F, hF⟩ : ∃ F, sweeps f (linkE (l.map Li.lk)) (n * k) = F := ⟨_, rfl⟩
  have hsp := spans hbig.fits
  rw [hlen, hF] at hsp
  have hst := stands_any A n c f A2 c2 l w2 ((H.out.1.below HB2.out).more HB2.out.size) ((H.out.2.2.2.1.1.below HB2.out).more HB2.out.size) hbig (by rw [H.out.2.2.2.2]; exact hk16) hn1 hpos
  rw [H.out.2.2.2.2, hF] at hst
  have hab : ∀ x ∈ l, 0 ≤ x.a ∧ x.a < n ∧ 0 ≤ x.b ∧ x.b < n ∧ x.a ≠ x.b := fun x hx => by
    have h1 := hpos x hx
    have h2 : x.a.toNat < n ∧ x.b.toNat < n ∧ x.a.toNat ≠ x.b.toNat := hbig.fits.ends _ (List.mem_map_of_mem (f := Li.lk) hx)
    omega
  have hpt := fun (v : Value) (s : Nat → Bool) (w0 : World) (b : Below w.heap.size w w0) (hv : SelAt w0 w0.heap.size v k s) => parts_any n A2 c2 l v s w0 ((H.out.2.2.2.1.1.below b).more b.size) (by rw [H.out.2.2.2.2]; exact hv) hn1 hbig.few (by rw [H.out.2.2.2.2]; exact hk16) hab
  rw [H.out.2.2.2.2] at hpt
  have HS := Lib.hid (And.intro hn1 (And.intro hbig.few (And.intro hk16 hsp)))
  have HST := Lib.hid hst
  have HPT := Lib.hid hpt
  clear hn1 hk16 hsp hst hpt hab hend hlen hbig hpos hF
  go_wp2_with fail
  refine HST.out.mono ?_
  rintro e w3 ⟨A3, c3, rfl, o3, b3⟩
  have HB3 := Lib.hid (HB2.out.trans (b3.mono HB2.out.size))
  have HO3 := Lib.hid o3
  have hp1 := HPT.out (.slice none 0 0) (fun _ => true) w3 HB3.out (.inl ⟨rfl, fun _ => rfl⟩)
  have HP1 := Lib.hid hp1
  clear b3 o3 hp1 HST
  go_wp2_with fail
  refine HP1.out.mono ?_
  rintro e w4 ⟨g1, cap1, rfl, hg1, hN1, b4⟩
  obtain ⟨s', hsel, hs'⟩ := sel_of (B := w3.heap.size) HO3.out (Nat.le_refl _)
  have HB4 := Lib.hid (HB3.out.trans (b4.mono HB3.out.size))
  have hp2 := HPT.out (.slice A3 k c3) s' w4 HB4.out (by
    have h1 := hsel.below b4
    rcases h1 with h1 | ⟨b, off, c', e, hl, hc⟩
    · exact .inl h1
    · exact .inr ⟨b, off, c', e, Nat.lt_of_lt_of_le hl b4.size, hc⟩)
  rw [hs'] at hp2
  have hN1' := fun (w5 : World) (b5 : Below w4.heap.size w4 w5) => hN1.below b5 hN1.lt
  have HN1 := Lib.hid hN1'
  have HO4 := Lib.hid (show LoB w4 w2.heap.size A3 c3 ((List.range k).map (treeB f F l)) from own_heap HO3.out fun q hq => b4.block q (World.ownsRow.lt HO3.out q hq).2)
  have HP2 := Lib.hid hp2
  clear hsel hs' b4 hp2 hN1 hN1' HP1 HO3 hg1
  go_wp2_with fail
  refine HP2.out.mono ?_
  rintro e w5 ⟨g2, cap2, rfl, hg2, hN2, b5⟩
  have HB5 := Lib.hid (HB4.out.trans (b5.mono HB4.out.size))
  have h1 := HN1.out w5 b5
  have o5 : LoB w5 w2.heap.size A3 c3 ((List.range k).map (treeB f F l)) := own_heap HO4.out fun q hq => b5.block q (World.ownsRow.lt HO4.out q hq).2
  -- what all and some are
  have eall : ((List.range k).map fun _ => true) = (l.map Li.lk).map fun _ => true := by
    rw [← H.out.2.2.2.2]
    apply List.ext_getElem (by simp)
    intro i h1 h2
    simp
  have esome : (List.range k).map (treeB f F l) = (l.map Li.lk).map fun x => decide (isT f F x) := by
    rw [← H.out.2.2.2.2, List.map_map]
    exact range_map l (fun x => decide (isT f F x.lk))
  rw [eall, partsF_is, List.filter_eq_self.2 (fun _ _ => rfl)] at h1
  rw [esome, partsF_is] at hN2
  obtain ⟨G, hG⟩ : ∃ G, psweeps (pairsOf (l.map Li.lk)) n = G := ⟨_, rfl⟩
  have hsp := HS.out.2.2.2
  rw [hG, tree_len, H.out.2.2.2.2] at hsp
  rw [hG] at h1
  have hgs : ∀ x, x < n → G x = psweeps (pairsOf ((l.map Li.lk).filter fun x => decide (isT f F x))) n x := fun x hx => hsp.1 x hx
  have HC := Lib.hid (show (∀ i, i < n → ∀ w6, Below w5.heap.size w5 w6 → w6.cell? ⟨g1, i, none⟩ = some (.int .i64 (G i)) ∧ w6.cell? ⟨g2, i, none⟩ = some (.int .i64 (G i))) ∧ (∀ q, q < k → ∀ w6, Below w5.heap.size w5 w6 → ∃ b, A3 = some ⟨b, 0, none⟩ ∧ w6.cell? ⟨b, q, none⟩ = some (.bool (treeB f F l q))) from ⟨fun i hi w6 b6 => by
      refine ⟨((h1.below b6 h1.lt).cell hi).1, ?_⟩
      rw [((hN2.below b6 hN2.lt).cell hi).1, hgs i hi], fun q hq w6 b6 => by
      obtain ⟨b, e, hbl, hc⟩ := own_at (show w5.ownsRow w2.heap.size 4 1 (.slice A3 ((List.range k).map (treeB f F l)).length c3) ((List.range k).map (treeB f F l)).length (((List.range k).map (treeB f F l)).map Value.bool) from o5) (by rw [List.length_map, List.length_range]; omega)
      refine ⟨b, e, (b6.cell (p := ⟨b, q, none⟩) hbl).trans (hc q _ ?_)⟩
      rw [List.getElem?_map, List.getElem?_map, List.getElem?_range hq]
      rfl⟩)
  have HCN := Lib.hid (show ((List.range k).filter (treeB f F l)).length + ((List.range n).filter fun x => decide (G x = x)).length = n from hsp.2)
  clear h1 o5 eall esome hN2 hgs hsp hG b5 hg2 HP2 HN1 HO4 HPT
  go_wp2_with fail
  go_loopw [8, 32] (fun nv iv wr => ∃ j : Nat, j ≤ k ∧ iv = .int .i64 j ∧ nv = .int .i64 (((List.range j).filter (treeB f F l)).length : Nat) ∧ Hid (Below w5.heap.size w5 wr)) (fun _ iv _ => k - (intOf iv).toNat)
  case atStart => exact ⟨0, Nat.zero_le _, rfl, rfl, Lib.hid (Below.refl _ _)⟩
  case round =>
    obtain ⟨j, hj, rfl, rfl, hS⟩ := hrel
    by_cases hlt : j < k
    · have j1 : (j : Int) < k := by omega
      have j0 : (0 : Int) ≤ j := by omega
      have HJ := Lib.hid (show wrap64 ((j : Int) + 1) = (j : Int) + 1 from IntWalk.wrap64_in _ (by have := HS.out.2.2.1; omega))
      have hle := cntf_le (treeB f F l) j
      have hsu := cntf_succ (treeB f F l) j
      obtain ⟨t, ht⟩ : ∃ t : Nat, ((List.range j).filter (treeB f F l)).length = t := ⟨_, rfl⟩
      rw [ht] at hle hsu ⊢
      have HT := Lib.hid (show wrap64 ((t : Int) + 1) = (t : Int) + 1 from IntWalk.wrap64_in _ (by have := HS.out.2.2.1; omega))
      obtain ⟨g3, rfl, hc⟩ := HC.out.2 j hlt wr hS.out
      rcases hb : treeB f F l j with _ | _
      · rw [hb] at hc hsu
        have HSU := Lib.hid hsu
        clear ht hsu hle hb
        go_wp2_with fail
        go_roundw
        case rel =>
          rw [HJ.out]
          refine ⟨j + 1, hlt, by rw [Int.natCast_add]; rfl, ?_, hS⟩
          rw [HSU.out, if_neg (by decide), Int.add_zero]
        case measure =>
          rw [HJ.out]
          show k - ((j : Int) + 1).toNat < k - ((j : Int)).toNat
          omega
      · rw [hb] at hc hsu
        have HSU := Lib.hid hsu
        clear ht hsu hle hb
        go_wp2_with fail
        go_roundw
        case rel =>
          rw [HJ.out, HT.out]
          refine ⟨j + 1, hlt, by rw [Int.natCast_add]; rfl, ?_, hS⟩
          rw [HSU.out, if_pos rfl]
        case measure =>
          rw [HJ.out]
          show k - ((j : Int) + 1).toNat < k - ((j : Int)).toNat
          omega
    · obtain rfl : k = j := by omega
      obtain ⟨t, ht⟩ : ∃ t : Nat, ((List.range k).filter (treeB f F l)).length = t := ⟨_, rfl⟩
      have hcn := HCN.out
      rw [ht] at hcn ⊢
      have HCN2 := Lib.hid hcn
      have HBA := hS
      clear hcn ht HCN hS hj hlt
      go_wp2_with fail
      go_loopw [10, 44] (fun nv iv wr => ∃ j : Nat, j ≤ n ∧ iv = .int .i64 j ∧ nv = .int .i64 (((List.range j).filter fun x => decide (G x = x)).length : Nat) ∧ Hid (Below w5.heap.size w5 wr)) (fun _ iv _ => n - (intOf iv).toNat)
      case atStart => exact ⟨0, Nat.zero_le _, rfl, rfl, HBA⟩
      case round =>
        obtain ⟨j, hj, rfl, rfl, hS⟩ := hrel
        by_cases hlt : j < n
        · have j1 : (j : Int) < n := by omega
          have j0 : (0 : Int) ≤ j := by omega
          have HJ := Lib.hid (show wrap64 ((j : Int) + 1) = (j : Int) + 1 from IntWalk.wrap64_in _ (by have := HS.out.2.1; omega))
          have hle := cntf_le (fun x => decide (G x = x)) j
          have hsu := cntf_succ (fun x => decide (G x = x)) j
          obtain ⟨s, hs⟩ : ∃ s : Nat, ((List.range j).filter fun x => decide (G x = x)).length = s := ⟨_, rfl⟩
          rw [hs] at hle hsu ⊢
          have HT := Lib.hid (show wrap64 ((s : Int) + 1) = (s : Int) + 1 from IntWalk.wrap64_in _ (by have := HS.out.2.1; omega))
          obtain ⟨hc1, hc2⟩ := HC.out.1 j hlt wr hS.out
          by_cases hb : G j = j
          · rw [decide_eq_true hb] at hsu
            have HSU := Lib.hid hsu
            obtain ⟨v, hv⟩ : ∃ v : Nat, G j = v := ⟨_, rfl⟩
            rw [hv] at hc1 hc2 hb
            have d1 : ((v : Int) == (j : Int)) = true := beq_iff_eq.2 (by omega)
            have d2 : ((v : Int) != (v : Int)) = false := by simp
            clear hs hsu hle hb hv
            go_wp2_with fail
            go_big_region
            go_wp2_with fail
            go_roundw
            case rel =>
              rw [HJ.out, HT.out]
              refine ⟨j + 1, hlt, by rw [Int.natCast_add]; rfl, ?_, Lib.hid hS.out.drew⟩
              rw [HSU.out]; simp
            case measure =>
              rw [HJ.out]
              show n - ((j : Int) + 1).toNat < n - ((j : Int)).toNat
              omega
          · rw [decide_eq_false hb] at hsu
            have HSU := Lib.hid hsu
            obtain ⟨v, hv⟩ : ∃ v : Nat, G j = v := ⟨_, rfl⟩
            rw [hv] at hc1 hc2 hb
            have d1 : ((v : Int) == (j : Int)) = false := beq_eq_false_iff_ne.2 (by omega)
            have d2 : ((v : Int) != (v : Int)) = false := by simp
            clear hs hsu hle hb hv
            go_wp2_with fail
            go_big_region
            go_wp2_with fail
            go_roundw
            case rel =>
              rw [HJ.out]
              refine ⟨j + 1, hlt, by rw [Int.natCast_add]; rfl, ?_, Lib.hid hS.out.drew⟩
              rw [HSU.out]; simp
            case measure =>
              rw [HJ.out]
              show n - ((j : Int) + 1).toNat < n - ((j : Int)).toNat
              omega
        · obtain rfl : n = j := by omega
          obtain ⟨s, hs⟩ : ∃ s : Nat, ((List.range n).filter fun x => decide (G x = x)).length = s := ⟨_, rfl⟩
          have hcn := HCN2.out
          rw [hs] at hcn ⊢
          have HB := hS
          clear hs HCN2
          have HNC := Lib.hid (show wrap64 ((n : Int) - s) = (t : Int) from by rw [IntWalk.wrap64_in _ (by have := HS.out.2.1; omega)]; omega)
          have e1 : ((t : Int) == wrap64 ((n : Int) - s)) = true := by rw [HNC.out]; simp
          have H10 := Lib.hid (show wrap64 (10 + (n : Int)) = 10 + (n : Int) from IntWalk.wrap64_in _ (by have := HS.out.2.1; omega))
          have H11 := Lib.hid (show wrap64 (10 + (n : Int) + 1) = 10 + (n : Int) + 1 from IntWalk.wrap64_in _ (by have := HS.out.2.1; omega))
          have H27 := Lib.hid (show wrap64 ((10 + (n : Int) + 1) * 27) = (10 + (n : Int) + 1) * 27 from IntWalk.wrap64_in _ (by have := HS.out.2.1; omega))
          have H8 := Lib.hid (show wrap64 ((10 + (n : Int) + 1) * 27 + 8) = (10 + (n : Int) + 1) * 27 + 8 from IntWalk.wrap64_in _ (by have := HS.out.2.1; omega))
          clear hcn hj hlt
          go_wp2_with fail
          refine (bound_any n HS.out.1 HS.out.2.1 wr).mono ?_
          rintro e w6 ⟨rfl, b6⟩
          have HB6 := Lib.hid (HB5.out.trans ((HB.out.trans (b6.mono HB.out.size)).mono HB5.out.size))
          have e2 : (((10 + (n : Int) + 1) * 27 + 8) == wrap64 (wrap64 (wrap64 (wrap64 (10 + (n : Int)) + 1) * 27) + 8)) = true := by rw [H10.out, H11.out, H27.out, H8.out]; simp
          clear b6
          go_wp2_with fail
          go_ret
          exact ⟨rfl, HB6.out⟩
set_option maxRecDepth 100000 in
theorem liftedTreeSpans (os : Os) (started : os.Started) (H : Type) (enc : TypeId × Value → H) :
    ReturnsInHanded {} Try.checked os 6 .any (Rows.treeSpansSpec.pre6 enc Try.prog Try.f6 Rows.treeSpansRow.domain false) (Rows.treeSpansSpec.post enc Try.prog Try.f6 false true false false) := by
  refine returnsInHanded_of_change (C := Try.checked) own started (by kernel_rfl) Try.func6
    (ChangeSpec.witness6 (enc := enc) (C := Try.checked) false ⟨#[], #[.slice none 0 0, .slice none 0 0], []⟩ 8 (by kernel_rfl) (by kernel_rfl) (by kernel_rfl) (by kernel_rfl)) ?_
  intro W base args ds gs before hval0 hW hcnd _
  have hval : ∀ (j : Nat) t v, Try.f6.params[j]? = some t → args[j]? = some v → Value.okWide Try.prog W .any base t v := hval0
  have hW' := hW
  obtain ⟨p, q, hA0, hV, rfl, hfz, hnd⟩ := hW
  have hA : DataW.TrodAll enc Try.prog W 0 (fun _ => true) true Try.f6.params.toList args.toList ds p := hA0
  rw [Try.params6] at hA hval
  obtain ⟨v0, vs0, d0, ds0, p0, q0, hargs, rfl, rfl, h0, r0⟩ := trodAll_cons hA
  obtain ⟨v1, vs1, d1, ds1, p1, q1, rfl, rfl, rfl, h1, r1⟩ := trodAll_cons r0
  obtain ⟨rfl, rfl, rfl⟩ := trodAll_nil r1
  obtain rfl : args = #[v0, v1] := by cases args; simp_all
  obtain ⟨rfl, rfl⟩ := trodVars_none hV
  obtain ⟨a0, len0, cap0, rfl⟩ := okWide_slice Try.underlying47 (hval 0 47 v0 rfl rfl)
  have k0 := h0
  have lt0 : ∀ x ∈ p0, x.block < W.heap.size := by obtain ⟨m, hm⟩ := k0; exact DataW.trod_lt m _ _ _ hm
  obtain ⟨z0, w0⟩ : ∃ zs, IsRow .i64 W a0 len0 cap0 zs := by
    obtain ⟨fuel, hf⟩ := h0
    rcases open_ints Try.underlying47 Try.underlying3 (by kernel_rfl) hf with ⟨hcs, _⟩ | ⟨x, l, c, zs, hcs, _, hl, hm, hz, _, hcell, hwz⟩
    · simp [Value.cells] at hcs
      obtain ⟨rfl, rfl, rfl⟩ := hcs
      exact ⟨[], .inl ⟨rfl, rfl, rfl, rfl⟩⟩
    · simp [Value.cells] at hcs
      obtain ⟨rfl, rfl, rfl⟩ := hcs
      exact ⟨zs, .inr ⟨_, rfl, hl, hm, by simpa using hz, cell_lt hcell (by simpa using hz), hcell, hwz⟩⟩
  obtain ⟨a1', len1', cap1', rfl⟩ := okWide_slice Try.underlying56 (hval 1 56 v1 rfl rfl)
  have k1 := h1
  have lt1 : ∀ x ∈ p1, x.block < W.heap.size := by obtain ⟨m, hm⟩ := k1; exact DataW.trod_lt m _ _ _ hm
  obtain ⟨a1, cap1, l1, w1, e1, e2, e3⟩ : ∃ a cap, ∃ l : List Li, (LiAt W W.heap.size a l ∧ (∀ x ∈ l, x.ok) ∧ l.length ≤ maxLen) ∧ a1' = a ∧ len1' = l.length ∧ cap1' = cap := by
    obtain ⟨fuel, hf⟩ := h1
    obtain ⟨a, cap, l, hcs, q⟩ := open_links hf
    simp [Value.cells] at hcs
    obtain ⟨rfl, rfl, rfl⟩ := hcs
    exact ⟨_, _, l, q, rfl, rfl, rfl⟩
  subst e1 e2 e3
  clear hA0 hval0
  refine (walkTreeSpans a0 len0 cap0 z0 a1' cap1' l1 W w0 w1).mono fun e W' ⟨he, bel⟩ => ?_
  subst he
  exact ⟨_, rfl, _, _, _, [], _, [], hW', trodAll_mk1 (shut_bool Try.underlying4 _), (trodAll_cons_mk (Below.trod laidOut (by kernel_rfl) (of_decide_eq_true (by kernel_rfl)) k0 bel lt0) (trodAll_cons_mk (Below.trod laidOut (by kernel_rfl) (of_decide_eq_true (by kernel_rfl)) k1 bel lt1) trodAll_mk0)), rfl, bel.frame _, fun h => by cases h⟩

theorem overTreeSpans : Rows.treeSpansRow.holds Try.pinned (OpenSpec.ofChange Rows.treeSpansSpec) :=
  OpenClaim.holds_of_wide 6 Try.f6 rfl rfl rfl rfl rfl rfl rfl ⟨rfl, rfl, rfl, rfl, rfl⟩ rfl rfl rfl rfl rfl (by kernel_rfl) Try.func6 (by kernel_rfl)
    (of_decide_eq_true (by kernel_rfl)) (by unfold Func.isWrapper; first | (rw [if_pos (by decide +kernel)]; kernel_rfl) | (rw [if_neg (by decide +kernel)]; exact ⟨rfl, rfl⟩))
    (fun os started H enc _ => liftedTreeSpans os started H enc)

/-- The statement. -/
theorem treeSpans_holds : Rows.TreeSpansSaid := overTreeSpans

#print axioms treeSpans_holds
end Go.Proofs.Ytogkminlhjmafaa
