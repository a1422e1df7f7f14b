/- mrpdu.readVector: what one vector says. Its condition: the type is one, the number is one of two bytes. -/
import Derived.Test.YtoigapanhbmjlaaMrAsk
import Derived.Laws.MakeOwn
import Derived.Laws.ResultCell
namespace Go.Proofs.Ytoigapanhbmjlaa
open Go.RowKit

theorem pdu_info : (Try.prog.info? 25).map (·.size) = some 2 := by kernel_rfl
theorem word_info : (Try.prog.info? 43).map (fun i => (i.zero, i.size, i.bytes)) = some (some (.agg #[.int .i64 0, .int .i64 0, .int .i64 0, .int .i64 0]), 4, 32) := by kernel_rfl
theorem presults_pair {fn : Func} {p u : Tmp} (h : fn.results = #[.cell p 25, .tmp u]) (tmps : Array Value) (w : World) (g : Nat) (t : TypeId) (cs : Array Value)
    (hp : tmps.getD p undef = .pointer (some ⟨g, 0, none⟩)) (hg : Blk w g t cs) (hc : cs.size = 2) :
    (results fn tmps).run Try.prog w = .ok (.tuple #[.agg cs, tmps.getD u undef]) w := by
  have hl := run_loadVar_row w g t 25 cs (0, 0) _ hg Try.underlying25 rfl (by rw [pdu_info, hc])
  rw [results_cell_tmp h, hp]
  show ((loadVar 25 ⟨g, 0, none⟩).run Try.prog w).andThen _ = _
  rw [hl]
  rfl

/-- The block of the words being laid: the first k are those of f. -/
def WRow (w : World) (g n : Nat) (f : Nat → Wd) (k : Nat) : Prop :=
  ∃ cs, Blk w g 43 cs ∧ cs.size = n * 4 ∧ ∀ i, i < k → cs[i * 4]? = some (.int .i64 (f i).t) ∧ cs[i * 4 + 1]? = some (.int .i64 (f i).v) ∧ cs[i * 4 + 2]? = some (.int .i64 (f i).e) ∧ cs[i * 4 + 3]? = some (.int .i64 (f i).b)
theorem WRow.free {w : World} {g n k : Nat} {f : Nat → Wd} (h : WRow w g n f k) (j : Nat) (hj : j < n * 4) : (∃ u, w.cell? ⟨g, j, none⟩ = some u) ∧ w.frozen? ⟨g, j, none⟩ = false := by
  obtain ⟨cs, hb, hs, _⟩ := h
  exact ⟨⟨cs[j], by rw [hb.cell j, Array.getElem?_eq_getElem (by omega)]⟩, hb.frozen j⟩
theorem WRow.step {w : World} {g n k : Nat} {f : Nat → Wd} (h : WRow w g n f k) (hk : k < n) {a b c d : Int} (ha : (f k) = ⟨a, b, c, d⟩) :
    WRow ((((w.setCell ⟨g, k * 4, none⟩ (.int .i64 a)).setCell ⟨g, k * 4 + 1, none⟩ (.int .i64 b)).setCell ⟨g, k * 4 + 2, none⟩ (.int .i64 c)).setCell ⟨g, k * 4 + 3, none⟩ (.int .i64 d)) g n f (k + 1) := by
  obtain ⟨cs, hb, hs, hi⟩ := h
  refine ⟨_, Blk.set_ (Blk.set_ (Blk.set_ (Blk.set_ hb (k * 4) _) (k * 4 + 1) _) (k * 4 + 2) _) (k * 4 + 3) _, by simp [hs], fun i hik => ?_⟩
  simp only [Array.getElem?_setIfInBounds, Array.size_setIfInBounds]
  by_cases e : i = k
  · subst e
    rw [ha]
    refine ⟨?_, ?_, ?_, ?_⟩
    · rw [if_neg (by omega), if_neg (by omega), if_neg (by omega), if_pos rfl, if_pos (by omega)]
    · rw [if_neg (by omega), if_neg (by omega), if_pos rfl, if_pos (by omega)]
    · rw [if_neg (by omega), if_pos rfl, if_pos (by omega)]
    · rw [if_pos rfl, if_pos (by omega)]
  · obtain ⟨h0, h1, h2, h3⟩ := hi i (by omega)
    refine ⟨?_, ?_, ?_, ?_⟩
    · rw [if_neg (by omega), if_neg (by omega), if_neg (by omega), if_neg (by omega), h0]
    · rw [if_neg (by omega), if_neg (by omega), if_neg (by omega), if_neg (by omega), h1]
    · rw [if_neg (by omega), if_neg (by omega), if_neg (by omega), if_neg (by omega), h2]
    · rw [if_neg (by omega), if_neg (by omega), if_neg (by omega), if_neg (by omega), h3]
theorem WRow.at_ {w : World} {g n : Nat} {f : Nat → Wd} (h : WRow w g n f n) : WordsAt w w.heap.size (some ⟨g, 0, none⟩) ((List.range n).map f) := by
  obtain ⟨cs, hb, hs, hi⟩ := h
  intro k hk
  have hk' : k < n := by simpa using hk
  have e : ((List.range n).map f).getD k wd0 = f k := by
    rw [List.getD_eq_getElem?_getD, List.getElem?_eq_getElem (by simpa using hk')]
    simp
  obtain ⟨h0, h1, h2, h3⟩ := hi k hk'
  rw [e]
  refine ⟨g, 0, rfl, hb.lt, ?_, ?_, ?_, ?_⟩
  · rw [show (0 : Nat) + k * 4 = k * 4 from by omega, hb.cell, h0]
  · rw [show (0 : Nat) + k * 4 + 1 = k * 4 + 1 from by omega, hb.cell, h1]
  · rw [show (0 : Nat) + k * 4 + 2 = k * 4 + 2 from by omega, hb.cell, h2]
  · rw [show (0 : Nat) + k * 4 + 3 = k * 4 + 3 from by omega, hb.cell, h3]
theorem WRow.keep {w w' : World} {g n k : Nat} {f : Nat → Wd} (h : WRow w g n f k) (hb : w'.heap[g]? = w.heap[g]?) : WRow w' g n f k := by
  obtain ⟨cs, hc, h2⟩ := h
  exact ⟨cs, hb.trans hc, h2⟩

theorem one_at {w : World} {g : Nat} {k : Int} (h : Blk w g 3 #[.int .i64 k]) : IntsAt w w.heap.size (some ⟨g, 0, none⟩) [k] := by
  intro q hq
  obtain rfl : q = 0 := by simpa using hq
  exact ⟨g, 0, rfl, h.lt, h.cell 0⟩

/-- How a vector's reading ends. -/
def VecEnd (lo : Nat) (u : Msg) (ok : Prop) (e : Ending) (w' : World) : Prop :=
  (ok ∧ ∃ A A' c c', e = .returned (.tuple #[.agg #[.slice A u.all.length c, .slice A' u.ws.length c'], .bool true]) ∧ IntsAt w' w'.heap.size A u.all ∧ WordsAt w' w'.heap.size A' u.ws ∧ (A = none → c = 0) ∧ (A' = none → c' = 0) ∧ ∀ x, A' = some x → lo ≤ x.block) ∨
  (¬ ok ∧ e = .returned (.tuple #[.agg #[.slice none 0 0, .slice none 0 0], .bool false]))

set_option maxHeartbeats 1000000 in
theorem vec_far (g : Nat) (k : Int) (m : Nat) (w : World) (hm : 16383 < m) :
    Calls Try.prog 50 #[.pointer (some ⟨g, 0, none⟩), .int .i64 k, .int .i64 m] w fun e w' => e = .returned (.tuple #[.agg #[.slice none 0 0, .slice none 0 0], .bool false]) ∧ Below w.heap.size w w' := by
  have hb := Blk.new w 25 #[.slice none 0 0, .slice none 0 0]
  have hbl := bel_alloc w (.cells #[.slice none 0 0, .slice none 0 0] 25)
  go_enter Try.func50, Try.ntmps50
  go_wp2
  exact bodyPost_ret (presults_pair rfl _ _ w.heap.size 25 _ rfl hb rfl) rfl ⟨rfl, hbl⟩

/-- The world's blocks but the reader's stay. -/
theorem Touch.to {g : Nat} {w w1 w2 : World} (h : Touch (· = g) w w1) (h' : Touch (· = g) w1 w2) : Touch (· = g) w w2 := h.trans h'

set_option maxHeartbeats 8000000 in
set_option maxRecDepth 100000 in
theorem vec_near (g : Nat) (k : Int) (m n value born : Nat) (o o1 o2 o3 : Option (List UInt8)) (ev : List UInt8) (w : World) (hr : RdO w g o) (hk : vs k ≠ 0) (hm0 : m ≠ 0) (hm : m ≤ 16383) (hn : m % 8192 = n)
    (hv : num (takeO (vs k) o) = value) (h1 : dropO (vs k) o = o1) (hb : num (takeO 4 o1) = born) (h2 : dropO 4 o1 = o2) (he : takeO (sz n 3) o2 = ev) (h3 : dropO (sz n 3) o2 = o3) :
    Calls Try.prog 50 #[.pointer (some ⟨g, 0, none⟩), .int .i64 k, .int .i64 m] w fun e w' => VecEnd w.heap.size (sayOf k m value born ev) (vecOk m value born ev) e w' ∧ RdO w' g o3 ∧ Touch (· = g) w w' := by
  have hvl : value < 281474976710656 := by
    have a1 := num_lt (takeO (vs k) o)
    have a2 : (takeO (vs k) o).length ≤ 6 := by
      have := vs_le k
      unfold takeO
      cases o with
      | none => simp
      | some l => simp only; split <;> simp <;> omega
    rw [hv] at a1
    exact Nat.lt_of_lt_of_le a1 (Nat.le_trans (Nat.pow_le_pow_right (by omega) a2) (by decide))
  have hz := vs_le k
  generalize hzz : vs k = z at *
  have HZ := Lib.hid hzz
  have HV := Lib.hid hv
  have H1 := Lib.hid h1
  have HBN := Lib.hid hb
  have H2 := Lib.hid h2
  have HE := Lib.hid he
  have H3 := Lib.hid h3
  have hmn : (m : Int) % 8192 = (n : Int) := by omega
  have HMN := Lib.hid hn
  have hn8 : n < 8192 := by omega
  have hszn := sz_le n 3 6 (by unfold LK; decide)
  have hlt := hr.lt
  have hbx := Blk.new w 25 #[.slice none 0 0, .slice none 0 0]
  have hr1 := hr.alloc (.cells #[.slice none 0 0, .slice none 0 0] 25)
  have ht1 : Touch (· = g) w (w.alloc (.cells #[.slice none 0 0, .slice none 0 0] 25)) := (Touch.refl _ w).alloc _
  have hs1 : (w.alloc (.cells #[.slice none 0 0, .slice none 0 0] 25)).heap.size = w.heap.size + 1 := by simp
  clear hv h1 hb h2 he h3 hzz hn hr
  go_enter Try.func50, Try.ntmps50
  go_wp2_with fail
  generalize w.alloc (.cells #[.slice none 0 0, .slice none 0 0] 25) = W at *
  refine (vs_any k _).mono ?_
  rw [HZ.out]
  rintro e w' ⟨rfl, rfl⟩
  go_wp2_with fail
  refine (rget g o z _ hr1 (by omega) (by omega)).mono ?_
  rw [HV.out, H1.out]
  rintro e w2 ⟨rfl, hr2, t2⟩
  have hbx2 := hbx.touch t2 (by omega)
  have ht2 := ht1.to t2
  clear hbx ht1 t2 hr1
  go_wp2_with fail
  refine (rget g o1 4 _ hr2 (by omega) (by omega)).mono ?_
  rw [HBN.out, H2.out]
  rintro e w3 ⟨rfl, hr3, t3⟩
  have hbx3 := hbx2.touch t3 (by omega)
  have ht3 := ht2.to t3
  clear hbx2 ht2 t3 hr2
  go_wp2_with fail
  refine (size3_any n _ (by omega)).mono ?_
  rintro e w' ⟨rfl, rfl⟩
  go_wp2_with fail
  refine (rraw g o2 (sz n 3) _ hr3 (by omega)).mono ?_
  rw [HE.out, H3.out]
  rintro e w4 ⟨rfl, hr4, t4⟩
  have hbx4 := hbx3.touch t4 (by omega)
  have ht4 := ht3.to t4
  clear hbx3 ht3 t4 hr3
  go_wp2_with fail
  refine (fromthrees_all (str ev) n _ (by omega)).mono ?_
  rw [str_list]
  rintro e w5 ⟨hend, b5⟩
  have hbx5 := hbx4.below b5 hbx4.lt
  have hr5 := hr4.below b5 hr4.lt
  have ht5 : Touch (· = g) w w5 := ht4.trans ((Below.touch b5).mono fun j hj hp => by have : w4.heap.size ≤ j := hp; omega)
  have hs5 := b5.size
  have hs4 := hbx4.lt
  clear hbx4 ht4 b5 hr4
  have hzero : Touch (· = g) w ((w5.setCell ⟨w.heap.size, 0, none⟩ (.slice none 0 0)).setCell ⟨w.heap.size, 1, none⟩ (.slice none 0 0)) := (ht5.set_ (a := ⟨w.heap.size, 0, none⟩) (fun h => absurd h (Nat.lt_irrefl _)) _).set_ (a := ⟨w.heap.size, 1, none⟩) (fun h => absurd h (Nat.lt_irrefl _)) _
  have hzb : Blk ((w5.setCell ⟨w.heap.size, 0, none⟩ (.slice none 0 0)).setCell ⟨w.heap.size, 1, none⟩ (.slice none 0 0)) w.heap.size 25 #[.slice none 0 0, .slice none 0 0] := Blk.set_ (Blk.set_ hbx5 0 (.slice none 0 0)) 1 (.slice none 0 0)
  have hzr : RdO ((w5.setCell ⟨w.heap.size, 0, none⟩ (.slice none 0 0)).setCell ⟨w.heap.size, 1, none⟩ (.slice none 0 0)) g o3 := (hr5.far (a := ⟨w.heap.size, 0, none⟩) (by show g ≠ w.heap.size; omega) _).far (a := ⟨w.heap.size, 1, none⟩) (by show g ≠ w.heap.size; omega) _
  have k0 : w5.cell? ⟨w.heap.size, 0, none⟩ = some (.slice none 0 0) := hbx5.cell 0
  have k1 : w5.cell? ⟨w.heap.size, 1, none⟩ = some (.slice none 0 0) := hbx5.cell 1
  have f0 := hbx5.frozen 0
  have f1 := hbx5.frozen 1
  rcases hend with ⟨hok, gq, rfl, hq⟩ | ⟨hok, rfl⟩
  · by_cases hbad : n = 0 ∧ (value ≠ 0 ∨ born ≠ 0)
    · have HO : Hid (¬ vecOk m value born ev) := Lib.hid fun h => h.2 (by rw [HMN.out]; exact hbad)
      obtain ⟨hn0, hvb⟩ := hbad
      subst hn0
      by_cases hv0 : value = 0
      · have hb0 : born ≠ 0 := by rcases hvb with h | h; exact absurd hv0 h; exact h
        subst hv0
        have d1 : ((born : Int) != 0) = true := by simpa using hb0
        clear hok hq hbx5 ht5 hr5 hvb hb0
        go_wp2
        exact bodyPost_ret (presults_pair rfl _ _ w.heap.size 25 _ rfl hzb rfl) rfl ⟨.inr ⟨HO.out, rfl⟩, hzr, hzero⟩
      · have d1 : ((value : Int) != 0) = true := by simpa using hv0
        clear hok hq hbx5 ht5 hr5 hvb hv0
        go_wp2
        exact bodyPost_ret (presults_pair rfl _ _ w.heap.size 25 _ rfl hzb rfl) rfl ⟨.inr ⟨HO.out, rfl⟩, hzr, hzero⟩
    · have hmn' := HMN.out
      have HO : Hid (vecOk m value born ev) := Lib.hid ⟨by rw [HMN.out]; exact hok, by rw [HMN.out]; exact hbad⟩
      obtain ⟨i0, hi0, hz0, hz1, hz2⟩ := info_parts word_info
      by_cases hn0 : n = 0
      · obtain rfl : m = 8192 := by omega
        have hv0 : value = 0 := by omega
        have hb0 : born = 0 := by omega
        subst hn0 hv0 hb0
        have hall : (sayOf k 8192 0 0 ev).all = [k] := by unfold sayOf; rw [if_pos (by omega)]
        have hsws : (sayOf k 8192 0 0 ev).ws = (List.range 0).map (fun (i : Nat) => (⟨k, ((0 : Nat) : Int) + (i : Int), (evt ev i : Int), ((0 : Nat) : Int)⟩ : Wd)) := by rfl
        have HA := Lib.hid hall
        have HWS := Lib.hid hsws
        clear hall hsws hzero hzb hzr
        have hmk := run_make (P := Try.prog) w5 23 43 i0 _ Try.underlying23 hi0 hz0 .i64 .i64 (0 : Nat) (0 : Nat) (by omega) (Int.le_refl _) (by rw [hz2]; omega) (by omega)
        simp only [Int.toNat_natCast, hz1] at hmk
        simp only [Int.cast_ofNat_Int, Nat.zero_mul] at hmk
        have hw0 : WRow (w5.alloc (.cells (madeCells (Value.agg #[.int .i64 0, .int .i64 0, .int .i64 0, .int .i64 0]).cells (0 * 4)) 43)) w5.heap.size 0 (fun (i : Nat) => (⟨k, ((0 : Nat) : Int) + (i : Int), (evt ev i : Int), ((0 : Nat) : Int)⟩ : Wd)) 0 := ⟨_, Blk.new _ _ _, by simp [size_madeCells], fun i hi => absurd hi (Nat.not_lt_zero _)⟩
        have hbw := bel_alloc w5 (.cells (madeCells (Value.agg #[.int .i64 0, .int .i64 0, .int .i64 0, .int .i64 0]).cells (0 * 4)) 43)
        have hsw : (w5.alloc (.cells (madeCells (Value.agg #[.int .i64 0, .int .i64 0, .int .i64 0, .int .i64 0]).cells (0 * 4)) 43)).heap.size = w5.heap.size + 1 := by simp
        simp only [Nat.zero_mul] at hw0 hbw hsw
        generalize hWm : w5.alloc (.cells (madeCells (Value.agg #[.int .i64 0, .int .i64 0, .int .i64 0, .int .i64 0]).cells 0) 43) = Wm at *
        clear hWm
        go_wp2_with fail
        have hv1 : Blk ((Wm.alloc (.cells #[.slice (some ⟨w5.heap.size + 1 + 1, 0, none⟩) 1 1, .slice (some ⟨w5.heap.size, 0, none⟩) 0 0] 25)).alloc (.cells #[.int .i64 k] 3)) (w5.heap.size + 1) 25 #[.slice (some ⟨w5.heap.size + 1 + 1, 0, none⟩) 1 1, .slice (some ⟨w5.heap.size, 0, none⟩) 0 0] := by rw [← hsw]; exact (Blk.new Wm _ _).alloc _
        have hk1 : Blk ((Wm.alloc (.cells #[.slice (some ⟨w5.heap.size + 1 + 1, 0, none⟩) 1 1, .slice (some ⟨w5.heap.size, 0, none⟩) 0 0] 25)).alloc (.cells #[.int .i64 k] 3)) (w5.heap.size + 1 + 1) 3 #[.int .i64 k] := by have := Blk.new (Wm.alloc (.cells #[.slice (some ⟨w5.heap.size + 1 + 1, 0, none⟩) 1 1, .slice (some ⟨w5.heap.size, 0, none⟩) 0 0] 25)) 3 #[.int .i64 k]; rwa [show (Wm.alloc (.cells #[.slice (some ⟨w5.heap.size + 1 + 1, 0, none⟩) 1 1, .slice (some ⟨w5.heap.size, 0, none⟩) 0 0] 25)).heap.size = w5.heap.size + 1 + 1 from by rw [← hsw]; simp] at this
        have hw1 : WRow ((Wm.alloc (.cells #[.slice (some ⟨w5.heap.size + 1 + 1, 0, none⟩) 1 1, .slice (some ⟨w5.heap.size, 0, none⟩) 0 0] 25)).alloc (.cells #[.int .i64 k] 3)) w5.heap.size 0 (fun (i : Nat) => (⟨k, ((0 : Nat) : Int) + (i : Int), (evt ev i : Int), ((0 : Nat) : Int)⟩ : Wd)) 0 := hw0.keep ((Below.heap_alloc _ _ _ (by simp; omega)).trans (Below.heap_alloc _ _ _ (by omega)))
        have hb1 : Below w5.heap.size w5 ((Wm.alloc (.cells #[.slice (some ⟨w5.heap.size + 1 + 1, 0, none⟩) 1 1, .slice (some ⟨w5.heap.size, 0, none⟩) 0 0] 25)).alloc (.cells #[.int .i64 k] 3)) := (hbw.alloc (by omega) _).alloc (by simp; omega) _
        have hz1' : w5.heap.size + 1 < ((Wm.alloc (.cells #[.slice (some ⟨w5.heap.size + 1 + 1, 0, none⟩) 1 1, .slice (some ⟨w5.heap.size, 0, none⟩) 0 0] 25)).alloc (.cells #[.int .i64 k] 3)).heap.size := by simp; omega
        clear hw0 hbw
        generalize ((Wm.alloc (.cells #[.slice (some ⟨w5.heap.size + 1 + 1, 0, none⟩) 1 1, .slice (some ⟨w5.heap.size, 0, none⟩) 0 0] 25)).alloc (.cells #[.int .i64 k] 3)) = Wv at *
        go_loopw [61] (fun i wr => ∃ j : Nat, j ≤ 0 ∧ i = .int .i64 j ∧ WRow wr w5.heap.size 0 (fun (i : Nat) => (⟨k, ((0 : Nat) : Int) + (i : Int), (evt ev i : Int), ((0 : Nat) : Int)⟩ : Wd)) j ∧ Blk wr (w5.heap.size + 1) 25 #[.slice (some ⟨w5.heap.size + 1 + 1, 0, none⟩) 1 1, .slice (some ⟨w5.heap.size, 0, none⟩) 0 0] ∧ Below w5.heap.size w5 wr ∧ w5.heap.size + 1 < wr.heap.size ∧ Blk wr (w5.heap.size + 1 + 1) 3 #[.int .i64 k]) (fun i _ => 0 - (intOf i).toNat)
        case atStart => exact ⟨0, Nat.zero_le _, rfl, hw1, hv1, hb1, hz1', hk1⟩
        case round =>
          clear hw1 hv1 hb1 hz1' hk1
          obtain ⟨j, hj, rfl, hw, hv, hb, hz', hkk⟩ := hrel
          by_cases hlt' : j < 0
          · exact absurd hlt' (Nat.not_lt_zero _)
          · obtain rfl : j = 0 := by omega
            have hx := hbx5.below hb hbx5.lt
            have c0 : wr.cell? ⟨w5.heap.size + 1, 0, none⟩ = some (.slice (some ⟨w5.heap.size + 1 + 1, 0, none⟩) 1 1) := hv.cell 0
            have c1 : wr.cell? ⟨w5.heap.size + 1, 1, none⟩ = some (.slice (some ⟨w5.heap.size, 0, none⟩) 0 0) := hv.cell 1
            have x0 : wr.cell? ⟨w.heap.size, 0, none⟩ = some (.slice none 0 0) := hx.cell 0
            have x1 : wr.cell? ⟨w.heap.size, 1, none⟩ = some (.slice none 0 0) := hx.cell 1
            have y0 := hx.frozen 0
            have y1 := hx.frozen 1
            have hxf : Blk ((wr.setCell ⟨w.heap.size, 0, none⟩ (.slice (some ⟨w5.heap.size + 1 + 1, 0, none⟩) 1 1)).setCell ⟨w.heap.size, 1, none⟩ (.slice (some ⟨w5.heap.size, 0, none⟩) 0 0)) w.heap.size 25 #[.slice (some ⟨w5.heap.size + 1 + 1, 0, none⟩) 1 1, .slice (some ⟨w5.heap.size, 0, none⟩) 0 0] := Blk.set_ (Blk.set_ hx 0 _) 1 _
            have hlx := hbx5.lt
            have hwf : WRow ((wr.setCell ⟨w.heap.size, 0, none⟩ (.slice (some ⟨w5.heap.size + 1 + 1, 0, none⟩) 1 1)).setCell ⟨w.heap.size, 1, none⟩ (.slice (some ⟨w5.heap.size, 0, none⟩) 0 0)) w5.heap.size 0 (fun (i : Nat) => (⟨k, ((0 : Nat) : Int) + (i : Int), (evt ev i : Int), ((0 : Nat) : Int)⟩ : Wd)) 0 := hw.keep ((Below.heap_setCell _ _ _ _ (by show w5.heap.size ≠ w.heap.size; omega)).trans (Below.heap_setCell _ _ _ _ (by show w5.heap.size ≠ w.heap.size; omega)))
            have hrf : RdO ((wr.setCell ⟨w.heap.size, 0, none⟩ (.slice (some ⟨w5.heap.size + 1 + 1, 0, none⟩) 1 1)).setCell ⟨w.heap.size, 1, none⟩ (.slice (some ⟨w5.heap.size, 0, none⟩) 0 0)) g o3 := ((hr5.below hb (by have := hr5.lt; omega)).far (a := ⟨w.heap.size, 0, none⟩) (by show g ≠ w.heap.size; omega) _).far (a := ⟨w.heap.size, 1, none⟩) (by show g ≠ w.heap.size; omega) _
            have htf : Touch (· = g) w ((wr.setCell ⟨w.heap.size, 0, none⟩ (.slice (some ⟨w5.heap.size + 1 + 1, 0, none⟩) 1 1)).setCell ⟨w.heap.size, 1, none⟩ (.slice (some ⟨w5.heap.size, 0, none⟩) 0 0)) := (((ht5.trans ((Below.touch hb).mono fun q hq hp => by have : w5.heap.size ≤ q := hp; omega)).set_ (a := ⟨w.heap.size, 0, none⟩) (fun h => absurd h (Nat.lt_irrefl _)) _).set_ (a := ⟨w.heap.size, 1, none⟩) (fun h => absurd h (Nat.lt_irrefl _)) _)
            have hkf : Blk ((wr.setCell ⟨w.heap.size, 0, none⟩ (.slice (some ⟨w5.heap.size + 1 + 1, 0, none⟩) 1 1)).setCell ⟨w.heap.size, 1, none⟩ (.slice (some ⟨w5.heap.size, 0, none⟩) 0 0)) (w5.heap.size + 1 + 1) 3 #[.int .i64 k] := (hkk.far (by show w5.heap.size + 1 + 1 ≠ w.heap.size; omega) _).far (by show w5.heap.size + 1 + 1 ≠ w.heap.size; omega) _
            clear hw hv hb hx hq hbx5 hr5 ht5 hkk
            go_wp2_with fail
            refine bodyPost_ret (presults_pair rfl _ _ w.heap.size 25 _ rfl hxf rfl) rfl ⟨.inl ⟨HO.out, some ⟨w5.heap.size + 1 + 1, 0, none⟩, some ⟨w5.heap.size, 0, none⟩, 1, 0, ?_, ?_, ?_, (fun h => nomatch h), (fun h => nomatch h), fun x hx => by injection hx with hx; subst hx; show w.heap.size ≤ w5.heap.size; omega⟩, hrf, htf⟩
            · rw [HA.out, HWS.out]; simp
            · rw [HA.out]; exact one_at hkf
            · rw [HWS.out]; exact hwf.at_
      · by_cases hmore : 8192 ≤ m
        · have d1 : ((n : Int) == 0) = false := by simp; omega
          have d2 : decide (8192 ≤ m) = true := by simp; omega
          have hall : (sayOf k m value born ev).all = [k] := by unfold sayOf; rw [if_pos (by omega)]
          have hsws : (sayOf k m value born ev).ws = (List.range n).map (fun (i : Nat) => (⟨k, ((value : Nat) : Int) + (i : Int), (evt ev i : Int), ((born : Nat) : Int)⟩ : Wd)) := by rw [← HMN.out]; rfl
          have HA := Lib.hid hall
          have HWS := Lib.hid hsws
          clear hall hsws hzero hzb hzr
          have hmk := run_make (P := Try.prog) w5 23 43 i0 _ Try.underlying23 hi0 hz0 .i64 .i64 (n : Nat) (n : Nat) (by omega) (Int.le_refl _) (by rw [hz2]; omega) (by omega)
          simp only [Int.toNat_natCast, hz1] at hmk
          have hw0 : WRow (w5.alloc (.cells (madeCells (Value.agg #[.int .i64 0, .int .i64 0, .int .i64 0, .int .i64 0]).cells (n * 4)) 43)) w5.heap.size n (fun (i : Nat) => (⟨k, ((value : Nat) : Int) + (i : Int), (evt ev i : Int), ((born : Nat) : Int)⟩ : Wd)) 0 := ⟨_, Blk.new _ _ _, by simp [size_madeCells], fun i hi => absurd hi (Nat.not_lt_zero _)⟩
          have hbw := bel_alloc w5 (.cells (madeCells (Value.agg #[.int .i64 0, .int .i64 0, .int .i64 0, .int .i64 0]).cells (n * 4)) 43)
          have hsw : (w5.alloc (.cells (madeCells (Value.agg #[.int .i64 0, .int .i64 0, .int .i64 0, .int .i64 0]).cells (n * 4)) 43)).heap.size = w5.heap.size + 1 := by simp
          generalize hWm : w5.alloc (.cells (madeCells (Value.agg #[.int .i64 0, .int .i64 0, .int .i64 0, .int .i64 0]).cells (n * 4)) 43) = Wm at *
          clear hWm
          go_wp2_with fail
          have hv1 : Blk ((Wm.alloc (.cells #[.slice (some ⟨w5.heap.size + 1 + 1, 0, none⟩) 1 1, .slice (some ⟨w5.heap.size, 0, none⟩) n n] 25)).alloc (.cells #[.int .i64 k] 3)) (w5.heap.size + 1) 25 #[.slice (some ⟨w5.heap.size + 1 + 1, 0, none⟩) 1 1, .slice (some ⟨w5.heap.size, 0, none⟩) n n] := by rw [← hsw]; exact (Blk.new Wm _ _).alloc _
          have hk1 : Blk ((Wm.alloc (.cells #[.slice (some ⟨w5.heap.size + 1 + 1, 0, none⟩) 1 1, .slice (some ⟨w5.heap.size, 0, none⟩) n n] 25)).alloc (.cells #[.int .i64 k] 3)) (w5.heap.size + 1 + 1) 3 #[.int .i64 k] := by have := Blk.new (Wm.alloc (.cells #[.slice (some ⟨w5.heap.size + 1 + 1, 0, none⟩) 1 1, .slice (some ⟨w5.heap.size, 0, none⟩) n n] 25)) 3 #[.int .i64 k]; rwa [show (Wm.alloc (.cells #[.slice (some ⟨w5.heap.size + 1 + 1, 0, none⟩) 1 1, .slice (some ⟨w5.heap.size, 0, none⟩) n n] 25)).heap.size = w5.heap.size + 1 + 1 from by rw [← hsw]; simp] at this
          have hw1 : WRow ((Wm.alloc (.cells #[.slice (some ⟨w5.heap.size + 1 + 1, 0, none⟩) 1 1, .slice (some ⟨w5.heap.size, 0, none⟩) n n] 25)).alloc (.cells #[.int .i64 k] 3)) w5.heap.size n (fun (i : Nat) => (⟨k, ((value : Nat) : Int) + (i : Int), (evt ev i : Int), ((born : Nat) : Int)⟩ : Wd)) 0 := hw0.keep ((Below.heap_alloc _ _ _ (by simp; omega)).trans (Below.heap_alloc _ _ _ (by omega)))
          have hb1 : Below w5.heap.size w5 ((Wm.alloc (.cells #[.slice (some ⟨w5.heap.size + 1 + 1, 0, none⟩) 1 1, .slice (some ⟨w5.heap.size, 0, none⟩) n n] 25)).alloc (.cells #[.int .i64 k] 3)) := (hbw.alloc (by omega) _).alloc (by simp; omega) _
          have hz1' : w5.heap.size + 1 < ((Wm.alloc (.cells #[.slice (some ⟨w5.heap.size + 1 + 1, 0, none⟩) 1 1, .slice (some ⟨w5.heap.size, 0, none⟩) n n] 25)).alloc (.cells #[.int .i64 k] 3)).heap.size := by simp; omega
          clear hw0 hbw
          generalize ((Wm.alloc (.cells #[.slice (some ⟨w5.heap.size + 1 + 1, 0, none⟩) 1 1, .slice (some ⟨w5.heap.size, 0, none⟩) n n] 25)).alloc (.cells #[.int .i64 k] 3)) = Wv at *
          go_loopw [61] (fun i wr => ∃ j : Nat, j ≤ n ∧ i = .int .i64 j ∧ WRow wr w5.heap.size n (fun (i : Nat) => (⟨k, ((value : Nat) : Int) + (i : Int), (evt ev i : Int), ((born : Nat) : Int)⟩ : Wd)) j ∧ Blk wr (w5.heap.size + 1) 25 #[.slice (some ⟨w5.heap.size + 1 + 1, 0, none⟩) 1 1, .slice (some ⟨w5.heap.size, 0, none⟩) n n] ∧ Below w5.heap.size w5 wr ∧ w5.heap.size + 1 < wr.heap.size ∧ Blk wr (w5.heap.size + 1 + 1) 3 #[.int .i64 k]) (fun i _ => n - (intOf i).toNat)
          case atStart => exact ⟨0, Nat.zero_le _, rfl, hw1, hv1, hb1, hz1', hk1⟩
          case round =>
            clear hw1 hv1 hb1 hz1' hk1
            obtain ⟨j, hj, rfl, hw, hv, hb, hz', hkk⟩ := hrel
            by_cases hlt' : j < n
            · obtain ⟨gb, goff, ge, gl, gc⟩ := hq j hlt'
              injection ge with ge
              injection ge with ge1 ge2
              subst ge1 ge2
              have c0 : wr.cell? ⟨gq, j, none⟩ = some (.int .i64 (evt ev j)) := (hb.cell (p := ⟨gq, j, none⟩) gl).trans (by simpa using gc)
              have c1 : wr.cell? ⟨w5.heap.size + 1, 1, none⟩ = some (.slice (some ⟨w5.heap.size, 0, none⟩) n n) := hv.cell 1
              obtain ⟨⟨u0, x0⟩, y0⟩ := hw.free (j * 4) (by omega)
              obtain ⟨⟨u1, x1⟩, y1⟩ := hw.free (j * 4 + 1) (by omega)
              obtain ⟨⟨u2, x2⟩, y2⟩ := hw.free (j * 4 + 2) (by omega)
              obtain ⟨⟨u3, x3⟩, y3⟩ := hw.free (j * 4 + 3) (by omega)
              have hwr : IntKind.i64.wrap ((value : Int) + (j : Int)) = (value : Int) + (j : Int) := IntWalk.i64_in _ (by omega)
              have hst := hw.step hlt' rfl
              generalize evt ev j = x at *
              have hv' : Blk ((((wr.setCell ⟨w5.heap.size, j * 4, none⟩ (.int .i64 k)).setCell ⟨w5.heap.size, j * 4 + 1, none⟩ (.int .i64 ((value : Int) + (j : Int)))).setCell ⟨w5.heap.size, j * 4 + 2, none⟩ (.int .i64 (x : Int))).setCell ⟨w5.heap.size, j * 4 + 3, none⟩ (.int .i64 (born : Int))) (w5.heap.size + 1) 25 #[.slice (some ⟨w5.heap.size + 1 + 1, 0, none⟩) 1 1, .slice (some ⟨w5.heap.size, 0, none⟩) n n] := (((hv.far (by show w5.heap.size + 1 ≠ w5.heap.size; omega) _).far (by show w5.heap.size + 1 ≠ w5.heap.size; omega) _).far (by show w5.heap.size + 1 ≠ w5.heap.size; omega) _).far (by show w5.heap.size + 1 ≠ w5.heap.size; omega) _
              have hkk' : Blk ((((wr.setCell ⟨w5.heap.size, j * 4, none⟩ (.int .i64 k)).setCell ⟨w5.heap.size, j * 4 + 1, none⟩ (.int .i64 ((value : Int) + (j : Int)))).setCell ⟨w5.heap.size, j * 4 + 2, none⟩ (.int .i64 (x : Int))).setCell ⟨w5.heap.size, j * 4 + 3, none⟩ (.int .i64 (born : Int))) (w5.heap.size + 1 + 1) 3 #[.int .i64 k] := (((hkk.far (by show w5.heap.size + 1 + 1 ≠ w5.heap.size; omega) _).far (by show w5.heap.size + 1 + 1 ≠ w5.heap.size; omega) _).far (by show w5.heap.size + 1 + 1 ≠ w5.heap.size; omega) _).far (by show w5.heap.size + 1 + 1 ≠ w5.heap.size; omega) _
              have hb' : Below w5.heap.size w5 ((((wr.setCell ⟨w5.heap.size, j * 4, none⟩ (.int .i64 k)).setCell ⟨w5.heap.size, j * 4 + 1, none⟩ (.int .i64 ((value : Int) + (j : Int)))).setCell ⟨w5.heap.size, j * 4 + 2, none⟩ (.int .i64 (x : Int))).setCell ⟨w5.heap.size, j * 4 + 3, none⟩ (.int .i64 (born : Int))) := (((hb.setCell (Nat.le_refl _) _).setCell (Nat.le_refl _) _).setCell (Nat.le_refl _) _).setCell (Nat.le_refl _) _
              have hz'' : w5.heap.size + 1 < ((((wr.setCell ⟨w5.heap.size, j * 4, none⟩ (.int .i64 k)).setCell ⟨w5.heap.size, j * 4 + 1, none⟩ (.int .i64 ((value : Int) + (j : Int)))).setCell ⟨w5.heap.size, j * 4 + 2, none⟩ (.int .i64 (x : Int))).setCell ⟨w5.heap.size, j * 4 + 3, none⟩ (.int .i64 (born : Int))).heap.size := by simpa [World.setCell] using hz'
              clear hw hv hb gc hz' hkk hq
              go_wp2_with fail
              go_roundw
              case rel => exact ⟨j + 1, by omega, by go_num, hst, hv', hb', hz'', hkk'⟩
              case measure => simp [intOf]; omega
            · obtain rfl : j = n := by omega
              have hx := hbx5.below hb hbx5.lt
              have c0 : wr.cell? ⟨w5.heap.size + 1, 0, none⟩ = some (.slice (some ⟨w5.heap.size + 1 + 1, 0, none⟩) 1 1) := hv.cell 0
              have c1 : wr.cell? ⟨w5.heap.size + 1, 1, none⟩ = some (.slice (some ⟨w5.heap.size, 0, none⟩) j j) := hv.cell 1
              have x0 : wr.cell? ⟨w.heap.size, 0, none⟩ = some (.slice none 0 0) := hx.cell 0
              have x1 : wr.cell? ⟨w.heap.size, 1, none⟩ = some (.slice none 0 0) := hx.cell 1
              have y0 := hx.frozen 0
              have y1 := hx.frozen 1
              have hxf : Blk ((wr.setCell ⟨w.heap.size, 0, none⟩ (.slice (some ⟨w5.heap.size + 1 + 1, 0, none⟩) 1 1)).setCell ⟨w.heap.size, 1, none⟩ (.slice (some ⟨w5.heap.size, 0, none⟩) j j)) w.heap.size 25 #[.slice (some ⟨w5.heap.size + 1 + 1, 0, none⟩) 1 1, .slice (some ⟨w5.heap.size, 0, none⟩) j j] := Blk.set_ (Blk.set_ hx 0 _) 1 _
              have hlx := hbx5.lt
              have hwf : WRow ((wr.setCell ⟨w.heap.size, 0, none⟩ (.slice (some ⟨w5.heap.size + 1 + 1, 0, none⟩) 1 1)).setCell ⟨w.heap.size, 1, none⟩ (.slice (some ⟨w5.heap.size, 0, none⟩) j j)) w5.heap.size j (fun (i : Nat) => (⟨k, ((value : Nat) : Int) + (i : Int), (evt ev i : Int), ((born : Nat) : Int)⟩ : Wd)) j := hw.keep ((Below.heap_setCell _ _ _ _ (by show w5.heap.size ≠ w.heap.size; omega)).trans (Below.heap_setCell _ _ _ _ (by show w5.heap.size ≠ w.heap.size; omega)))
              have hrf : RdO ((wr.setCell ⟨w.heap.size, 0, none⟩ (.slice (some ⟨w5.heap.size + 1 + 1, 0, none⟩) 1 1)).setCell ⟨w.heap.size, 1, none⟩ (.slice (some ⟨w5.heap.size, 0, none⟩) j j)) g o3 := ((hr5.below hb (by have := hr5.lt; omega)).far (a := ⟨w.heap.size, 0, none⟩) (by show g ≠ w.heap.size; omega) _).far (a := ⟨w.heap.size, 1, none⟩) (by show g ≠ w.heap.size; omega) _
              have htf : Touch (· = g) w ((wr.setCell ⟨w.heap.size, 0, none⟩ (.slice (some ⟨w5.heap.size + 1 + 1, 0, none⟩) 1 1)).setCell ⟨w.heap.size, 1, none⟩ (.slice (some ⟨w5.heap.size, 0, none⟩) j j)) := (((ht5.trans ((Below.touch hb).mono fun q hq hp => by have : w5.heap.size ≤ q := hp; omega)).set_ (a := ⟨w.heap.size, 0, none⟩) (fun h => absurd h (Nat.lt_irrefl _)) _).set_ (a := ⟨w.heap.size, 1, none⟩) (fun h => absurd h (Nat.lt_irrefl _)) _)
              have hkf : Blk ((wr.setCell ⟨w.heap.size, 0, none⟩ (.slice (some ⟨w5.heap.size + 1 + 1, 0, none⟩) 1 1)).setCell ⟨w.heap.size, 1, none⟩ (.slice (some ⟨w5.heap.size, 0, none⟩) j j)) (w5.heap.size + 1 + 1) 3 #[.int .i64 k] := (hkk.far (by show w5.heap.size + 1 + 1 ≠ w.heap.size; omega) _).far (by show w5.heap.size + 1 + 1 ≠ w.heap.size; omega) _
              clear hw hv hb hx hq hbx5 hr5 ht5 hkk
              go_wp2_with fail
              refine bodyPost_ret (presults_pair rfl _ _ w.heap.size 25 _ rfl hxf rfl) rfl ⟨.inl ⟨HO.out, some ⟨w5.heap.size + 1 + 1, 0, none⟩, some ⟨w5.heap.size, 0, none⟩, 1, j, ?_, ?_, ?_, (fun h => nomatch h), (fun h => nomatch h), fun x hx => by injection hx with hx; subst hx; show w.heap.size ≤ w5.heap.size; omega⟩, hrf, htf⟩
              · rw [HA.out, HWS.out]; simp
              · rw [HA.out]; exact one_at hkf
              · rw [HWS.out]; exact hwf.at_
        · have d1 : ((n : Int) == 0) = false := by simp; omega
          have d2 : decide (8192 ≤ m) = false := by simp; omega
          have hall : (sayOf k m value born ev).all = [] := by unfold sayOf; rw [if_neg (by omega)]
          have hsws : (sayOf k m value born ev).ws = (List.range n).map (fun (i : Nat) => (⟨k, ((value : Nat) : Int) + (i : Int), (evt ev i : Int), ((born : Nat) : Int)⟩ : Wd)) := by rw [← HMN.out]; rfl
          have HA := Lib.hid hall
          have HWS := Lib.hid hsws
          clear hall hsws hzero hzb hzr
          have hmk := run_make (P := Try.prog) w5 23 43 i0 _ Try.underlying23 hi0 hz0 .i64 .i64 (n : Nat) (n : Nat) (by omega) (Int.le_refl _) (by rw [hz2]; omega) (by omega)
          simp only [Int.toNat_natCast, hz1] at hmk
          have hw0 : WRow (w5.alloc (.cells (madeCells (Value.agg #[.int .i64 0, .int .i64 0, .int .i64 0, .int .i64 0]).cells (n * 4)) 43)) w5.heap.size n (fun (i : Nat) => (⟨k, ((value : Nat) : Int) + (i : Int), (evt ev i : Int), ((born : Nat) : Int)⟩ : Wd)) 0 := ⟨_, Blk.new _ _ _, by simp [size_madeCells], fun i hi => absurd hi (Nat.not_lt_zero _)⟩
          have hbw := bel_alloc w5 (.cells (madeCells (Value.agg #[.int .i64 0, .int .i64 0, .int .i64 0, .int .i64 0]).cells (n * 4)) 43)
          have hsw : (w5.alloc (.cells (madeCells (Value.agg #[.int .i64 0, .int .i64 0, .int .i64 0, .int .i64 0]).cells (n * 4)) 43)).heap.size = w5.heap.size + 1 := by simp
          generalize hWm : w5.alloc (.cells (madeCells (Value.agg #[.int .i64 0, .int .i64 0, .int .i64 0, .int .i64 0]).cells (n * 4)) 43) = Wm at *
          clear hWm
          go_wp2_with fail
          have hv1 : Blk (Wm.alloc (.cells #[.slice none 0 0, .slice (some ⟨w5.heap.size, 0, none⟩) n n] 25)) (w5.heap.size + 1) 25 #[.slice none 0 0, .slice (some ⟨w5.heap.size, 0, none⟩) n n] := by rw [← hsw]; exact Blk.new Wm _ _
          have hw1 : WRow (Wm.alloc (.cells #[.slice none 0 0, .slice (some ⟨w5.heap.size, 0, none⟩) n n] 25)) w5.heap.size n (fun (i : Nat) => (⟨k, ((value : Nat) : Int) + (i : Int), (evt ev i : Int), ((born : Nat) : Int)⟩ : Wd)) 0 := hw0.keep (Below.heap_alloc _ _ _ (by omega))
          have hb1 : Below w5.heap.size w5 (Wm.alloc (.cells #[.slice none 0 0, .slice (some ⟨w5.heap.size, 0, none⟩) n n] 25)) := hbw.alloc (by omega) _
          have hz1' : w5.heap.size + 1 < (Wm.alloc (.cells #[.slice none 0 0, .slice (some ⟨w5.heap.size, 0, none⟩) n n] 25)).heap.size := by simp; omega
          clear hw0 hbw
          generalize (Wm.alloc (.cells #[.slice none 0 0, .slice (some ⟨w5.heap.size, 0, none⟩) n n] 25)) = Wv at *
          go_loopw [61] (fun i wr => ∃ j : Nat, j ≤ n ∧ i = .int .i64 j ∧ WRow wr w5.heap.size n (fun (i : Nat) => (⟨k, ((value : Nat) : Int) + (i : Int), (evt ev i : Int), ((born : Nat) : Int)⟩ : Wd)) j ∧ Blk wr (w5.heap.size + 1) 25 #[.slice none 0 0, .slice (some ⟨w5.heap.size, 0, none⟩) n n] ∧ Below w5.heap.size w5 wr ∧ w5.heap.size + 1 < wr.heap.size) (fun i _ => n - (intOf i).toNat)
          case atStart => exact ⟨0, Nat.zero_le _, rfl, hw1, hv1, hb1, hz1'⟩
          case round =>
            clear hw1 hv1 hb1 hz1'
            obtain ⟨j, hj, rfl, hw, hv, hb, hz'⟩ := hrel
            by_cases hlt' : j < n
            · obtain ⟨gb, goff, ge, gl, gc⟩ := hq j hlt'
              injection ge with ge
              injection ge with ge1 ge2
              subst ge1 ge2
              have c0 : wr.cell? ⟨gq, j, none⟩ = some (.int .i64 (evt ev j)) := (hb.cell (p := ⟨gq, j, none⟩) gl).trans (by simpa using gc)
              have c1 : wr.cell? ⟨w5.heap.size + 1, 1, none⟩ = some (.slice (some ⟨w5.heap.size, 0, none⟩) n n) := hv.cell 1
              obtain ⟨⟨u0, x0⟩, y0⟩ := hw.free (j * 4) (by omega)
              obtain ⟨⟨u1, x1⟩, y1⟩ := hw.free (j * 4 + 1) (by omega)
              obtain ⟨⟨u2, x2⟩, y2⟩ := hw.free (j * 4 + 2) (by omega)
              obtain ⟨⟨u3, x3⟩, y3⟩ := hw.free (j * 4 + 3) (by omega)
              have hwr : IntKind.i64.wrap ((value : Int) + (j : Int)) = (value : Int) + (j : Int) := IntWalk.i64_in _ (by omega)
              have hst := hw.step hlt' rfl
              generalize evt ev j = x at *
              have hv' : Blk ((((wr.setCell ⟨w5.heap.size, j * 4, none⟩ (.int .i64 k)).setCell ⟨w5.heap.size, j * 4 + 1, none⟩ (.int .i64 ((value : Int) + (j : Int)))).setCell ⟨w5.heap.size, j * 4 + 2, none⟩ (.int .i64 (x : Int))).setCell ⟨w5.heap.size, j * 4 + 3, none⟩ (.int .i64 (born : Int))) (w5.heap.size + 1) 25 #[.slice none 0 0, .slice (some ⟨w5.heap.size, 0, none⟩) n n] := (((hv.far (by show w5.heap.size + 1 ≠ w5.heap.size; omega) _).far (by show w5.heap.size + 1 ≠ w5.heap.size; omega) _).far (by show w5.heap.size + 1 ≠ w5.heap.size; omega) _).far (by show w5.heap.size + 1 ≠ w5.heap.size; omega) _
              have hb' : Below w5.heap.size w5 ((((wr.setCell ⟨w5.heap.size, j * 4, none⟩ (.int .i64 k)).setCell ⟨w5.heap.size, j * 4 + 1, none⟩ (.int .i64 ((value : Int) + (j : Int)))).setCell ⟨w5.heap.size, j * 4 + 2, none⟩ (.int .i64 (x : Int))).setCell ⟨w5.heap.size, j * 4 + 3, none⟩ (.int .i64 (born : Int))) := (((hb.setCell (Nat.le_refl _) _).setCell (Nat.le_refl _) _).setCell (Nat.le_refl _) _).setCell (Nat.le_refl _) _
              have hz'' : w5.heap.size + 1 < ((((wr.setCell ⟨w5.heap.size, j * 4, none⟩ (.int .i64 k)).setCell ⟨w5.heap.size, j * 4 + 1, none⟩ (.int .i64 ((value : Int) + (j : Int)))).setCell ⟨w5.heap.size, j * 4 + 2, none⟩ (.int .i64 (x : Int))).setCell ⟨w5.heap.size, j * 4 + 3, none⟩ (.int .i64 (born : Int))).heap.size := by simpa [World.setCell] using hz'
              clear hw hv hb gc hz' hq
              go_wp2_with fail
              go_roundw
              case rel => exact ⟨j + 1, by omega, by go_num, hst, hv', hb', hz''⟩
              case measure => simp [intOf]; omega
            · obtain rfl : j = n := by omega
              have hx := hbx5.below hb hbx5.lt
              have c0 : wr.cell? ⟨w5.heap.size + 1, 0, none⟩ = some (.slice none 0 0) := hv.cell 0
              have c1 : wr.cell? ⟨w5.heap.size + 1, 1, none⟩ = some (.slice (some ⟨w5.heap.size, 0, none⟩) j j) := hv.cell 1
              have x0 : wr.cell? ⟨w.heap.size, 0, none⟩ = some (.slice none 0 0) := hx.cell 0
              have x1 : wr.cell? ⟨w.heap.size, 1, none⟩ = some (.slice none 0 0) := hx.cell 1
              have y0 := hx.frozen 0
              have y1 := hx.frozen 1
              have hxf : Blk ((wr.setCell ⟨w.heap.size, 0, none⟩ (.slice none 0 0)).setCell ⟨w.heap.size, 1, none⟩ (.slice (some ⟨w5.heap.size, 0, none⟩) j j)) w.heap.size 25 #[.slice none 0 0, .slice (some ⟨w5.heap.size, 0, none⟩) j j] := Blk.set_ (Blk.set_ hx 0 _) 1 _
              have hlx := hbx5.lt
              have hwf : WRow ((wr.setCell ⟨w.heap.size, 0, none⟩ (.slice none 0 0)).setCell ⟨w.heap.size, 1, none⟩ (.slice (some ⟨w5.heap.size, 0, none⟩) j j)) w5.heap.size j (fun (i : Nat) => (⟨k, ((value : Nat) : Int) + (i : Int), (evt ev i : Int), ((born : Nat) : Int)⟩ : Wd)) j := hw.keep ((Below.heap_setCell _ _ _ _ (by show w5.heap.size ≠ w.heap.size; omega)).trans (Below.heap_setCell _ _ _ _ (by show w5.heap.size ≠ w.heap.size; omega)))
              have hrf : RdO ((wr.setCell ⟨w.heap.size, 0, none⟩ (.slice none 0 0)).setCell ⟨w.heap.size, 1, none⟩ (.slice (some ⟨w5.heap.size, 0, none⟩) j j)) g o3 := ((hr5.below hb (by have := hr5.lt; omega)).far (a := ⟨w.heap.size, 0, none⟩) (by show g ≠ w.heap.size; omega) _).far (a := ⟨w.heap.size, 1, none⟩) (by show g ≠ w.heap.size; omega) _
              have htf : Touch (· = g) w ((wr.setCell ⟨w.heap.size, 0, none⟩ (.slice none 0 0)).setCell ⟨w.heap.size, 1, none⟩ (.slice (some ⟨w5.heap.size, 0, none⟩) j j)) := (((ht5.trans ((Below.touch hb).mono fun q hq hp => by have : w5.heap.size ≤ q := hp; omega)).set_ (a := ⟨w.heap.size, 0, none⟩) (fun h => absurd h (Nat.lt_irrefl _)) _).set_ (a := ⟨w.heap.size, 1, none⟩) (fun h => absurd h (Nat.lt_irrefl _)) _)
              clear hw hv hb hx hq hbx5 hr5 ht5
              go_wp2_with fail
              refine bodyPost_ret (presults_pair rfl _ _ w.heap.size 25 _ rfl hxf rfl) rfl ⟨.inl ⟨HO.out, none, some ⟨w5.heap.size, 0, none⟩, 0, j, ?_, ?_, ?_, fun _ => rfl, (fun h => nomatch h), fun x hx => by injection hx with hx; subst hx; show w.heap.size ≤ w5.heap.size; omega⟩, hrf, htf⟩
              · rw [HA.out, HWS.out]; simp
              · rw [HA.out]; exact IntsAt.nil _ _ _
              · rw [HWS.out]; exact hwf.at_
  · have HO : Hid (¬ vecOk m value born ev) := Lib.hid fun h => hok (by have := h.1; rwa [HMN.out] at this)
    clear hok hbx5 ht5 hr5
    go_wp2
    exact bodyPost_ret (presults_pair rfl _ _ w.heap.size 25 _ rfl hzb rfl) rfl ⟨.inr ⟨HO.out, rfl⟩, hzr, hzero⟩
end Go.Proofs.Ytoigapanhbmjlaa
