/- A bridge's part ticks; a new one: contracts. Their conditions: up to six ports, ticks up to 2^40. -/
import Derived.Test.YtadejdhdkkfliaaTsaid
namespace Go.Proofs.Ytadejdhdkkfliaa
open Go.RowKit
set_option maxRecDepth 100000

def oldTo (now : Int) (f : Nat → Pt) (j i : Nat) : Pt := if i < j then oldP now f i else f i
def chN (f' : Nat → Pt) (fw : Nat → Bool) (now : Int) (m : Nat) (ch : Int) : Int := if opensTo f' fw now m = true then now else ch
def saysN (id : Int) (m : Nat) (f' : Nat → Pt) (ch' now : Int) : List Sd := if now % 2 = 0 then saidTo id m f' ch' now m else []
theorem chN_range {f' : Nat → Pt} {fw : Nat → Bool} {now ch T : Int} {m : Nat} (h : ch = -1 ∨ 0 ≤ ch ∧ ch ≤ T) (h0 : 0 ≤ T) (hT : T ≤ now) : chN f' fw now m ch = -1 ∨ 0 ≤ chN f' fw now m ch ∧ chN f' fw now m ch ≤ now := by
  unfold chN
  split <;> omega
theorem own_base {w : World} {base base' : Nat} {e : TypeId} {size n : Nat} {v : Value} {xs : List Value} (h : w.ownsRow base e size v n xs) (hb : base' ≤ base) : w.ownsRow base' e size v n xs := by
  refine ⟨h.1, ?_⟩
  rcases h.2 with hn | ⟨g, cap, cur, e, hb', rest⟩
  · exact .inl hn
  · exact .inr ⟨g, cap, cur, e, Nat.le_trans hb hb', rest⟩
section
variable {w : World} {g gp m : Nat} {f : Nat → Pt} {fw : Nat → Bool} {id ch : Int}
theorem TreeAt.top7 {rt : Int} {bv : Vec} (h : TreeAt w g gp id m f fw bv rt ch) (now : Int) : TreeAt (w.setCell ⟨g, 7, none⟩ (.int .i64 now)) g gp id m f fw bv rt now :=
  ⟨h.top.set_ 7 _, h.ports.far (show gp ≠ g from fun e => h.ne e.symm) _⟩
theorem oldTo_step {now : Int} {f : Nat → Pt} {j i : Nat} (h : i ≠ j) : oldTo now f (j + 1) i = oldTo now f j i := by
  unfold oldTo
  by_cases hl : i < j
  · rw [if_pos hl, if_pos (by omega)]
  · rw [if_neg hl, if_neg (by omega)]
set_option maxHeartbeats 4000000 in
theorem tick_any (h : TreeW w g gp id m f fw ch) (hm : m ≤ 6) {T now : Int} (hok : POk T m f) (h0 : 0 ≤ T) (hT : T ≤ now) (h1 : now ≤ 1099511627776) (hc : ch = -1 ∨ 0 ≤ ch ∧ ch ≤ T) :
    Calls Try.prog 14 #[.pointer (some ⟨g, 0, none⟩), .int .i64 now] w fun e w' => ∃ (A : Option Addr) (c : Nat), e = .returned (.slice A (saysN id m (tickP id m now f) (chN (tickP id m now f) fw now m ch) now).length c) ∧ OwnS w' w.heap.size A c (saysN id m (tickP id m now f) (chN (tickP id m now f) fw now m ch) now) ∧ (A = none → c = 0) ∧
      TreeW w' g gp id m (tickP id m now f) (fwN (tickP id m now f) now) (chN (tickP id m now f) fw now m ch) ∧ Touch (fun k => k = g ∨ k = gp) w w' := by
  have H := Lib.hid h
  have HN := Lib.hid (And.intro hm (And.intro hok (And.intro h0 (And.intro hT (And.intro h1 hc)))))
  have t1 := h.t1
  have m0 : (0 : Int) ≤ m := by omega
  have hF := HN.out.2.1.tickP id HN.out.2.2.1 HN.out.2.2.2.1
  obtain ⟨F, hFe⟩ : ∃ F, tickP id m now f = F := ⟨_, rfl⟩
  have hFA : anewP id m now (oldP now f) = F := hFe
  rw [hFe] at hF ⊢
  have hch := chN_range (f' := F) (fw := fw) (m := m) HN.out.2.2.2.2.2 HN.out.2.2.1 HN.out.2.2.2.1
  have HOP := Lib.hid (fun (w : World) (h : TreeW w g gp id m F fw ch) => topens_any h now (by have := HN.out.2.2; omega) HN.out.2.2.2.2.1 hF HN.out.1)
  have HSAY := Lib.hid (fun (w : World) (h : TreeW w g gp id m F (fwN F now) (chN F fw now m ch)) => says_any h now (by have := HN.out.2.2; omega) HN.out.2.2.2.2.1 hch HN.out.1)
  have HFA := Lib.hid hFA
  have HC := Lib.hid (show chN F fw now m ch = if opensTo F fw now m = true then now else ch from rfl)
  obtain ⟨C, hC⟩ : ∃ C, chN F fw now m ch = C := ⟨_, rfl⟩
  rw [hC] at HSAY HC ⊢
  obtain ⟨o, ho⟩ : ∃ o, opensTo F fw now m = o := ⟨_, rfl⟩
  rw [ho] at HOP HC
  obtain ⟨S, hSS⟩ : ∃ S, saysN id m F C now = S := ⟨_, rfl⟩
  have HS1 := Lib.hid (show S = if now % 2 = 0 then saidTo id m F C now m else [] from hSS.symm)
  rw [hSS]
  have n0 : 0 ≤ now := by have := HN.out.2.2; omega
  clear h hm hok h0 hT h1 hc hF hch hC ho hSS hFe hFA
  go_enter Try.func14, Try.ntmps14
  go_wp2_with fail
  go_loopw [14] (fun iv wr => ∃ j : Nat, j ≤ m ∧ iv = .int .i64 j ∧ Hid (TreeAt wr g gp id m (oldTo now f j) fw (bestP id m f).1 (bestP id m f).2 ch ∧ Touch (fun k => k = g ∨ k = gp) w wr)) (fun iv _ => m - (intOf iv).toNat)
  case atStart => exact ⟨0, Nat.zero_le _, rfl, Lib.hid ⟨H.out.congr fun i _ => ⟨if_neg (Nat.not_lt_zero i), rfl⟩, Touch.refl _ _⟩⟩
  case round =>
    obtain ⟨j, hj, rfl, hS⟩ := hrel
    by_cases hlt : j < m
    · have j1 : (j : Int) < m := by omega
      have j0 : (0 : Int) ≤ j := by omega
      have HJ := Lib.hid (show wrap64 ((j : Int) + 1) = (j : Int) + 1 from IntWalk.wrap64_in _ (by have := HN.out.1; omega))
      have t1 := hS.out.1.t1
      have hp := HN.out.2.1 j hlt
      have hw : wrap64 (now - (f j).at_) = now - (f j).at_ := wrap_sub (by have := HN.out.2.2; omega) HN.out.2.2.2.2.1 hp.at_.1 (by have := hp.at_.2; have := HN.out.2.2; omega)
      have e0 : oldTo now f j j = f j := if_neg (Nat.lt_irrefl j)
      have c11 := (hS.out.1.ports.cells hlt).c11
      rw [e0] at c11
      have HF := Lib.hid (forget_any hS.out.1.ports j hlt)
      rw [e0] at HF
      have e1 : oldTo now f (j + 1) j = if 14 < now - (f j).at_ then wipeP (f j) else f j := by unfold oldTo; rw [if_pos (Nat.lt_succ_self j)]; rfl
      obtain ⟨x, hx⟩ : ∃ x, (f j).at_ = x := ⟨_, rfl⟩
      rw [hx] at hw e1 c11
      have HE1 := Lib.hid e1
      clear hp e0 e1 hj hx
      by_cases h14 : 14 < now - x
      · have d1 : decide (14 < wrap64 (now - x)) = true := by rw [hw]; exact decide_eq_true h14
        rw [if_pos h14] at HE1
        clear h14 hw
        go_wp2_with (go_at_call 36; refine HF.out.mono ?_; rintro e w2 ⟨rfl, h2, t2⟩)
        have hn : TreeAt w2 g gp id m (oldTo now f (j + 1)) fw (bestP id m f).1 (bestP id m f).2 ch := by
          refine ⟨hS.out.1.top.touch t2 hS.out.1.ne, h2.congr fun i hi => ⟨?_, rfl⟩⟩
          unfold updP
          by_cases e : i = j
          · subst e
            rw [if_pos rfl, HE1.out]
          · rw [if_neg e, oldTo_step e]
        have HNX := Lib.hid (And.intro hn (hS.out.2.trans (t2.mono (q := fun k => k = g ∨ k = gp) fun k _ hk => .inr hk)))
        clear h2 t2 hn
        go_roundw
        case rel =>
          rw [HJ.out]
          exact ⟨j + 1, hlt, by rw [Int.natCast_add]; rfl, HNX⟩
        case measure =>
          rw [HJ.out]
          show m - ((j : Int) + 1).toNat < m - ((j : Int)).toNat
          omega
      · have d1 : decide (14 < wrap64 (now - x)) = false := by rw [hw]; exact decide_eq_false h14
        rw [if_neg h14] at HE1
        clear h14 hw
        have hn : TreeAt wr g gp id m (oldTo now f (j + 1)) fw (bestP id m f).1 (bestP id m f).2 ch := hS.out.1.congr fun i hi => ⟨by
          by_cases e : i = j
          · subst e
            rw [HE1.out]
            exact (if_neg (Nat.lt_irrefl i)).symm
          · exact oldTo_step e, rfl⟩
        have HNX := Lib.hid (And.intro hn hS.out.2)
        clear hn
        go_wp2_with fail
        go_roundw
        case rel =>
          rw [HJ.out]
          exact ⟨j + 1, hlt, by rw [Int.natCast_add]; rfl, HNX⟩
        case measure =>
          rw [HJ.out]
          show m - ((j : Int) + 1).toNat < m - ((j : Int)).toNat
          omega
    · obtain rfl : m = j := by omega
      have hold : TreeAt wr g gp id m (oldP now f) fw (bestP id m f).1 (bestP id m f).2 ch := hS.out.1.congr fun i hi => ⟨(if_pos hi : oldTo now f m i = _).symm, rfl⟩
      have hpo := HN.out.2.1.old now
      have HA := Lib.hid (anew_any g gp id m (oldP now f) fw _ _ ch now HN.out.1 wr hold (fun i hi => (hpo i hi).hd) (fun i hi => (hpo i hi).down))
      clear hold hpo hj
      go_wp2_with (go_at_call 39; refine HA.out.mono ?_; rintro e w1 ⟨rfl, h1, tt1⟩)
      rw [HFA.out] at h1
      have h1' : TreeW w1 g gp id m F fw ch := by
        unfold TreeW
        rw [show bestP id m F = bestP id m (oldP now f) by rw [← HFA.out]; exact bestP_anew _ _ _ _]
        exact h1
      refine (HOP.out w1 h1').mono ?_
      rintro e w2 ⟨rfl, h2, tt2⟩
      have H2 := Lib.hid (And.intro h2 ((hS.out.2.trans (tt1.mono fun k _ hk => hk)).trans (tt2.mono (q := fun k => k = g ∨ k = gp) fun k _ hk => .inr hk)))
      have t7 := h2.t7
      have f7 := h2.top.frozen 7
      clear h1 h1' h2 tt1 tt2
      -- the store, or none
      have hcom : ∀ w3, w3 = (if o = true then w2.setCell ⟨g, 7, none⟩ (.int .i64 now) else w2) → TreeW w3 g gp id m F (fwN F now) C ∧ Touch (fun k => k = g ∨ k = gp) w w3 := fun w3 e => by
        cases o
        · have hC : C = ch := HC.out
          rw [hC]
          have e : w3 = w2 := e
          rw [e]
          exact H2.out
        · have hC : C = now := HC.out
          rw [hC]
          have e : w3 = w2.setCell ⟨g, 7, none⟩ (.int .i64 now) := e
          rw [e]
          exact ⟨H2.out.1.top7 now, H2.out.2.set_ (a := ⟨g, 7, none⟩) (fun _ => .inl rfl) _⟩
      by_cases h2 : now % 2 = 0
      · rw [if_pos h2] at HS1
        have hs := HS1.out
        have d2 : (now % 2 != 0) = false := by simp [h2]
        cases o
        · have hc2 := hcom w2 rfl
          have HP := Lib.hid (HSAY.out (w2) hc2.1)
          rw [← hs] at HP
          have HC2 := Lib.hid hc2
          clear hcom hc2 hs h2
          go_wp2_with (go_at_call 43; refine HP.out.mono ?_; rintro e w4 ⟨A, c, rfl, ho4, hn4, b4⟩)
          go_ret
          exact ⟨A, c, rfl, own_base ho4 HC2.out.2.size, hn4, HC2.out.1.below b4, HC2.out.2.trans ((Below.touch b4).mono fun k hk hk' => by omega)⟩
        · have hc2 := hcom (w2.setCell ⟨g, 7, none⟩ (.int .i64 now)) rfl
          have HP := Lib.hid (HSAY.out ((w2.setCell ⟨g, 7, none⟩ (.int .i64 now))) hc2.1)
          rw [← hs] at HP
          have HC2 := Lib.hid hc2
          clear hcom hc2 hs h2
          go_wp2_with (go_at_call 43; refine HP.out.mono ?_; rintro e w4 ⟨A, c, rfl, ho4, hn4, b4⟩)
          go_ret
          exact ⟨A, c, rfl, own_base ho4 HC2.out.2.size, hn4, HC2.out.1.below b4, HC2.out.2.trans ((Below.touch b4).mono fun k hk hk' => by omega)⟩
      · rw [if_neg h2] at HS1
        have hs := HS1.out
        have d2 : (now % 2 != 0) = true := by simpa using h2
        subst hs
        cases o
        · have HC2 := Lib.hid (hcom w2 rfl)
          clear hcom h2
          go_wp2_with fail
          go_ret
          exact ⟨none, 0, rfl, World.ownsRow_nil _ _ _ _, fun _ => rfl, HC2.out⟩
        · have HC2 := Lib.hid (hcom (w2.setCell ⟨g, 7, none⟩ (.int .i64 now)) rfl)
          clear hcom h2
          go_wp2_with fail
          go_ret
          exact ⟨none, 0, rfl, World.ownsRow_nil _ _ _ _, fun _ => rfl, HC2.out⟩
end
set_option maxHeartbeats 4000000 in
theorem tnew_bad (id n : Int) (hi : id ≤ 9223372036854775807) (hb : ¬ (nameB id = true ∧ 1 ≤ n ∧ n ≤ 6)) (w : World) : Calls Try.prog 10 #[.int .i64 id, .int .i64 n] w fun e w' => e = .returned (.pointer none) ∧ w = w' := by
  have HB := Lib.hid (bridge_any id hi w)
  obtain ⟨b, hbn⟩ : ∃ b, nameB id = b := ⟨_, rfl⟩
  rw [hbn] at HB hb
  clear hbn hi
  cases b
  · clear hb
    go_enter Try.func10, Try.ntmps10
    go_wp2_with (go_at_call 34; refine HB.out.mono ?_; rintro e w' ⟨rfl, rfl⟩)
    go_ret
    exact ⟨rfl, rfl⟩
  · by_cases h1 : n < 1
    · clear hb
      go_enter Try.func10, Try.ntmps10
      go_wp2_with (go_at_call 34; refine HB.out.mono ?_; rintro e w' ⟨rfl, rfl⟩)
      go_ret
      exact ⟨rfl, rfl⟩
    · have d1 : decide (n < 1) = false := decide_eq_false h1
      have d2 : decide (6 < n) = true := decide_eq_true (by have := hb; simp at this; omega)
      clear hb h1
      go_enter Try.func10, Try.ntmps10
      go_wp2_with (go_at_call 34; refine HB.out.mono ?_; rintro e w' ⟨rfl, rfl⟩)
      go_ret
      exact ⟨rfl, rfl⟩
/-- A port at first. -/
def ptZ : Pt := ⟨false, 0, false, ⟨0, 0, 0, 0⟩, 0, 0, 0, 0⟩
def ptN : Pt := wipeP ptZ
def newTo (j i : Nat) : Pt := if i < j then ptN else ptZ
theorem port_info : (Try.prog.info? 88).map (fun i => (i.zero, i.size, i.bytes)) = some (some (.agg #[.int .i64 0, .int .i64 0, .bool false, .bool false, .int .i64 0, .int .i64 0, .int .i64 0, .int .i64 0, .int .i64 0, .int .i64 0, .bool false, .int .i64 0]), 12, 96) := by kernel_rfl
theorem bel_made {w w' : World} (h : w.grownBy w' none) : Below w.heap.size w w' := ⟨h.os, h.tape, h.output, h.size, fun k hk => h.block k (by omega) (by simp)⟩
/-- A new row of ports. -/
theorem made_ports {w : World} {base gp n : Nat} (h : w.ownsRow base 88 12 (.slice (some ⟨gp, 0, none⟩) n n) n (madeCells (Value.agg (ptArr ptZ false)).cells (n * 12)).toList) : PortsAt w gp n (fun _ => ptZ) (fun _ => false) := by
  rcases h.2 with ⟨e0, _⟩ | ⟨g', cap', cur, e0, _, hg', _, _, hs', ht⟩
  · cases e0
  · injection e0 with e1 _ e3
    injection e1 with e1
    injection e1 with e1
    subst e1 e3
    refine ⟨cur, hg', hs', fun i hi j hj => ?_⟩
    have hlt : i * 12 + j < n * 12 := by omega
    have e1 : cur[i * 12 + j]? = (cur.toList.take (n * 12))[i * 12 + j]? := by
      rw [List.getElem?_take_of_lt hlt]
      simp
    rw [e1, ht]
    have hz : (Value.agg (ptArr ptZ false)).cells = ptArr ptZ false := rfl
    rw [hz]
    have hmod : (i * 12 + j) % 12 = j := by omega
    rcases (show j = 0 ∨ j = 1 ∨ j = 2 ∨ j = 3 ∨ j = 4 ∨ j = 5 ∨ j = 6 ∨ j = 7 ∨ j = 8 ∨ j = 9 ∨ j = 10 ∨ j = 11 from by omega) with rfl | rfl | rfl | rfl | rfl | rfl | rfl | rfl | rfl | rfl | rfl | rfl <;>
      (simp [madeCells, ptArr] at hlt ⊢; try simp [hlt]; try (rw [hmod]; rfl))
set_option maxHeartbeats 4000000 in
theorem tnew_ok (id : Int) (n : Nat) (hi : id ≤ 9223372036854775807) (hb : nameB id = true) (h1 : 1 ≤ n) (h6 : n ≤ 6) (w : World) :
    Calls Try.prog 10 #[.int .i64 id, .int .i64 n] w fun e w' => ∃ g gp, e = .returned (.pointer (some ⟨g, 0, none⟩)) ∧ TreeW w' g gp id n (fun _ => ptN) (fun _ => false) (-1) ∧ Below w.heap.size w w' ∧ w.heap.size ≤ g ∧ w.heap.size ≤ gp := by
  have HB := bridge_any id hi w
  rw [hb] at HB
  have HB := Lib.hid HB
  have d1 : decide ((n : Int) < 1) = false := decide_eq_false (by omega)
  have d2 : decide (6 < (n : Int)) = false := decide_eq_false (by omega)
  have HOW := Lib.hid (fun w => own_any id w)
  simp only [Vec.v, Vec.arr, ownV] at HOW
  have HN := Lib.hid (And.intro h1 h6)
  have n0 : (0 : Int) ≤ n := by omega
  obtain ⟨i0, hi0, hz0, hz1, hz2⟩ := info_parts port_info
  have hms := fun (w : World) => run_makeSlice_full (P := Try.prog) (w := w) w.heap.size 80 88 i0 _ 12 Try.underlying80 hi0 hz0 hz1 .i64 .i64 n (by omega) (by rw [hz2]; omega) (by unfold maxLen; omega) (Nat.le_refl _)
  clear hi hb h1 h6
  go_enter Try.func10, Try.ntmps10
  go_wp2_with (go_at_call 34; refine HB.out.mono ?_; rintro e w' ⟨rfl, rfl⟩)
  obtain ⟨wa, hma, hra, hga⟩ := hms w.drew
  go_region_law ((first
    | (go_simp; go_at_call 35; (with_reducible (refine (HOW.out _).mono ?_)); rintro e w2 ⟨rfl, b2⟩; obtain ⟨wb, hmb, hrb, hgb⟩ := hms w2)))
  · have hp : PortsAt w2 w.heap.size n (fun _ => ptZ) (fun _ => false) := (made_ports hra).below b2 (made_ports hra).lt
    have hb : Below w.heap.size w w2 := (Below.drewn (bel_made hga)).trans (b2.mono (Below.drewn (bel_made hga)).size)
    have hle : w.heap.size ≤ w.heap.size := Nat.le_refl _
    have hT : TreeAt (w2.alloc (.cells #[.int .i64 id, .slice (some ⟨w.heap.size, 0, none⟩) n n, .int .i64 id, .int .i64 0, .int .i64 id, .int .i64 0, .int .i64 (-1), .int .i64 (-1)] 83)) w2.heap.size w.heap.size id n (fun _ => ptZ) (fun _ => false) (ownV id) (-1) (-1) := ⟨Blk.new _ _ _, hp.alloc _⟩
    have hB : Below w.heap.size w (w2.alloc (.cells #[.int .i64 id, .slice (some ⟨w.heap.size, 0, none⟩) n n, .int .i64 id, .int .i64 0, .int .i64 id, .int .i64 0, .int .i64 (-1), .int .i64 (-1)] 83)) := hb.alloc hb.size _
    have hge := hb.size
    clear hma hra hga hms hmb hrb hgb b2 hp hb
    generalize w2.alloc (.cells #[.int .i64 id, .slice (some ⟨w.heap.size, 0, none⟩) n n, .int .i64 id, .int .i64 0, .int .i64 id, .int .i64 0, .int .i64 (-1), .int .i64 (-1)] 83) = W1 at hT hB ⊢
    generalize w2.heap.size = g at hT hge ⊢
    obtain ⟨gp, hgp⟩ : ∃ gp, w.heap.size = gp := ⟨_, rfl⟩
    rw [hgp] at hT
    have hle : w.heap.size ≤ gp := Nat.le_trans hle (Nat.le_of_eq hgp)
    have H := Lib.hid (And.intro hT (And.intro hB (And.intro hge hle)))
    have t1 := hT.t1
    rw [← hgp] at t1
    clear hT hB hge hle
    go_wp2_with fail
    clear t1
    go_loopw [30] (fun iv wr => ∃ j : Nat, j ≤ n ∧ iv = .int .i64 j ∧ Hid (TreeAt wr g gp id n (newTo j) (fun _ => false) (ownV id) (-1) (-1) ∧ Below w.heap.size w wr)) (fun iv _ => n - (intOf iv).toNat)
    case atStart => exact ⟨0, Nat.zero_le _, rfl, Lib.hid ⟨H.out.1.congr fun i _ => ⟨if_neg (Nat.not_lt_zero i), rfl⟩, H.out.2.1⟩⟩
    case round =>
      obtain ⟨j, hj, rfl, hS⟩ := hrel
      by_cases hlt : j < n
      · have j1 : (j : Int) < n := by omega
        have j0 : (0 : Int) ≤ j := by omega
        have HJ := Lib.hid (show wrap64 ((j : Int) + 1) = (j : Int) + 1 from IntWalk.wrap64_in _ (by have := HN.out.2; omega))
        have t1 := hS.out.1.t1
        have HF := Lib.hid (forget_any hS.out.1.ports j hlt)
        clear hj
        go_wp2_with (go_at_call 36; refine HF.out.mono ?_; rintro e w3 ⟨rfl, h3, t3⟩)
        have hn : TreeAt w3 g gp id n (newTo (j + 1)) (fun _ => false) (ownV id) (-1) (-1) := by
          refine ⟨hS.out.1.top.touch t3 hS.out.1.ne, h3.congr fun i _ => ⟨?_, rfl⟩⟩
          unfold updP newTo
          by_cases e : i = j
          · subst e
            rw [if_pos rfl, if_pos (Nat.lt_succ_self _), if_neg (Nat.lt_irrefl _)]
            rfl
          · by_cases hl : i < j
            · rw [if_neg e, if_pos (by omega), if_pos hl]
            · rw [if_neg e, if_neg (by omega), if_neg hl]
        have hb3 : Below w.heap.size w w3 := ⟨t3.os.trans hS.out.2.os, t3.tape.trans hS.out.2.tape, t3.output.trans hS.out.2.output, Nat.le_trans hS.out.2.size t3.size, fun k hk => (t3.block k (Nat.lt_of_lt_of_le hk hS.out.2.size) (by have := H.out.2.2.2; omega)).trans (hS.out.2.block k hk)⟩
        have HNX := Lib.hid (And.intro hn hb3)
        clear h3 t3 hn hb3
        go_roundw
        case rel =>
          rw [HJ.out]
          exact ⟨j + 1, hlt, by rw [Int.natCast_add]; rfl, HNX⟩
        case measure =>
          rw [HJ.out]
          show n - ((j : Int) + 1).toNat < n - ((j : Int)).toNat
          omega
      · obtain rfl : n = j := by omega
        have hend : TreeW wr g gp id n (fun _ => ptN) (fun _ => false) (-1) := by
          unfold TreeW
          rw [none_best (f := fun _ => ptN) (fun _ _ => rfl)]
          exact hS.out.1.congr fun i hi => ⟨(if_pos hi : newTo n i = _).symm, rfl⟩
        have HE := Lib.hid (And.intro hend hS.out.2)
        clear hend
        go_wp2_with fail
        go_ret
        exact ⟨g, gp, rfl, HE.out.1, HE.out.2, H.out.2.2⟩
  · have hp : PortsAt wb w2.heap.size n (fun _ => ptZ) (fun _ => false) := made_ports hrb
    have hb : Below w.heap.size w wb := (Below.drewn b2).trans ((bel_made hgb).mono (Below.drewn b2).size)
    have hle : w.heap.size ≤ w2.heap.size := (Below.drewn b2).size
    have hT : TreeAt (wb.alloc (.cells #[.int .i64 id, .slice (some ⟨w2.heap.size, 0, none⟩) n n, .int .i64 id, .int .i64 0, .int .i64 id, .int .i64 0, .int .i64 (-1), .int .i64 (-1)] 83)) wb.heap.size w2.heap.size id n (fun _ => ptZ) (fun _ => false) (ownV id) (-1) (-1) := ⟨Blk.new _ _ _, hp.alloc _⟩
    have hB : Below w.heap.size w (wb.alloc (.cells #[.int .i64 id, .slice (some ⟨w2.heap.size, 0, none⟩) n n, .int .i64 id, .int .i64 0, .int .i64 id, .int .i64 0, .int .i64 (-1), .int .i64 (-1)] 83)) := hb.alloc hb.size _
    have hge := hb.size
    clear hma hra hga hms hmb hrb hgb b2 hp hb
    generalize wb.alloc (.cells #[.int .i64 id, .slice (some ⟨w2.heap.size, 0, none⟩) n n, .int .i64 id, .int .i64 0, .int .i64 id, .int .i64 0, .int .i64 (-1), .int .i64 (-1)] 83) = W1 at hT hB ⊢
    generalize wb.heap.size = g at hT hge ⊢
    obtain ⟨gp, hgp⟩ : ∃ gp, w2.heap.size = gp := ⟨_, rfl⟩
    rw [hgp] at hT
    have hle : w.heap.size ≤ gp := Nat.le_trans hle (Nat.le_of_eq hgp)
    have H := Lib.hid (And.intro hT (And.intro hB (And.intro hge hle)))
    have t1 := hT.t1
    rw [← hgp] at t1
    clear hT hB hge hle
    go_wp2_with fail
    clear t1
    go_loopw [30] (fun iv wr => ∃ j : Nat, j ≤ n ∧ iv = .int .i64 j ∧ Hid (TreeAt wr g gp id n (newTo j) (fun _ => false) (ownV id) (-1) (-1) ∧ Below w.heap.size w wr)) (fun iv _ => n - (intOf iv).toNat)
    case atStart => exact ⟨0, Nat.zero_le _, rfl, Lib.hid ⟨H.out.1.congr fun i _ => ⟨if_neg (Nat.not_lt_zero i), rfl⟩, H.out.2.1⟩⟩
    case round =>
      obtain ⟨j, hj, rfl, hS⟩ := hrel
      by_cases hlt : j < n
      · have j1 : (j : Int) < n := by omega
        have j0 : (0 : Int) ≤ j := by omega
        have HJ := Lib.hid (show wrap64 ((j : Int) + 1) = (j : Int) + 1 from IntWalk.wrap64_in _ (by have := HN.out.2; omega))
        have t1 := hS.out.1.t1
        have HF := Lib.hid (forget_any hS.out.1.ports j hlt)
        clear hj
        go_wp2_with (go_at_call 36; refine HF.out.mono ?_; rintro e w3 ⟨rfl, h3, t3⟩)
        have hn : TreeAt w3 g gp id n (newTo (j + 1)) (fun _ => false) (ownV id) (-1) (-1) := by
          refine ⟨hS.out.1.top.touch t3 hS.out.1.ne, h3.congr fun i _ => ⟨?_, rfl⟩⟩
          unfold updP newTo
          by_cases e : i = j
          · subst e
            rw [if_pos rfl, if_pos (Nat.lt_succ_self _), if_neg (Nat.lt_irrefl _)]
            rfl
          · by_cases hl : i < j
            · rw [if_neg e, if_pos (by omega), if_pos hl]
            · rw [if_neg e, if_neg (by omega), if_neg hl]
        have hb3 : Below w.heap.size w w3 := ⟨t3.os.trans hS.out.2.os, t3.tape.trans hS.out.2.tape, t3.output.trans hS.out.2.output, Nat.le_trans hS.out.2.size t3.size, fun k hk => (t3.block k (Nat.lt_of_lt_of_le hk hS.out.2.size) (by have := H.out.2.2.2; omega)).trans (hS.out.2.block k hk)⟩
        have HNX := Lib.hid (And.intro hn hb3)
        clear h3 t3 hn hb3
        go_roundw
        case rel =>
          rw [HJ.out]
          exact ⟨j + 1, hlt, by rw [Int.natCast_add]; rfl, HNX⟩
        case measure =>
          rw [HJ.out]
          show n - ((j : Int) + 1).toNat < n - ((j : Int)).toNat
          omega
      · obtain rfl : n = j := by omega
        have hend : TreeW wr g gp id n (fun _ => ptN) (fun _ => false) (-1) := by
          unfold TreeW
          rw [none_best (f := fun _ => ptN) (fun _ _ => rfl)]
          exact hS.out.1.congr fun i hi => ⟨(if_pos hi : newTo n i = _).symm, rfl⟩
        have HE := Lib.hid (And.intro hend hS.out.2)
        clear hend
        go_wp2_with fail
        go_ret
        exact ⟨g, gp, rfl, HE.out.1, HE.out.2, H.out.2.2⟩
end Go.Proofs.Ytadejdhdkkfliaa
