/- mrpdu.putVector: a row's bytes behind what stands there. Its conditions: the writer stands in its place, the words lie below it, and can be. -/
import Derived.Test.YthghedlgeceepaaMrAsk
import Derived.Test.YthghedlgeceepaaMrBytes
import Derived.Test.YthghedlgeceepaaPk
import Derived.Test.YthghedlgeceepaaOct
import Derived.Deep.OwnRows
import Derived.Deep.RegionHeld3
namespace Go.Proofs.Ythghedlgeceepaa
open Go.RowKit

/-- Events as cells: those of the first words, 0 behind them. -/
def evA (l : List Wd) (k : Nat) : Array Value := ((List.range l.length).map fun i => Value.int .i64 (if i < k then (l.getD i wd0).e else 0)).toArray
theorem evA_size (l : List Wd) (k : Nat) : (evA l k).size = l.length := by simp [evA]
theorem evA_at (l : List Wd) (k i : Nat) (h : i < l.length) : (evA l k)[i]? = some (.int .i64 (if i < k then (l.getD i wd0).e else 0)) := by
  simp [evA, h]
theorem evA_made (l : List Wd) : madeCells #[Value.int .i64 0] l.length = evA l 0 := by
  apply Array.ext
  · simp [size_madeCells, evA_size]
  · intro j h1 h2
    simp [madeCells, evA, Nat.mod_one]
theorem evA_set (l : List Wd) (k : Nat) (_h : k < l.length) : (evA l k).setIfInBounds k (.int .i64 (l.getD k wd0).e) = evA l (k + 1) := by
  apply Array.ext
  · simp [evA_size]
  · intro j h1 h2
    simp only [Array.size_setIfInBounds, evA_size] at h1
    rw [Array.getElem_setIfInBounds]
    split
    · rename_i e
      subst e
      simp [evA]
    · rename_i e
      simp only [evA, List.getElem_toArray, List.getElem_map, List.getElem_range, Value.int.injEq, true_and]
      by_cases hj : j < k
      · rw [if_pos hj, if_pos (by omega)]
      · rw [if_neg hj, if_neg (by omega)]
    · simpa [evA_size] using h1

theorem touch_of_below {p : Nat → Prop} {w w' : World} (hb : Below w.heap.size w w') : Touch p w w' := ⟨hb.os, hb.tape, hb.output, hb.size, fun k hk _ => hb.block k hk⟩
theorem foot_step {w w1 w2 : World} {g : Nat} {v v1 : Value} (ht : Touch (FootW g v) w w1) (hm : Moved w v v1) (hT : Touch (FootW g v1) w1 w2) : Touch (FootW g v) w w2 :=
  ⟨hT.os.trans ht.os, hT.tape.trans ht.tape, hT.output.trans ht.output, Nat.le_trans ht.size hT.size, fun k hk hp => (hT.block k (Nat.lt_of_lt_of_le hk ht.size) (fun e => hp (FootW.moved hm hk e))).trans (ht.block k hk hp)⟩
/-- In the midst of a row's writing: the first word's box at B, the events' row behind it, the writer at g below both. -/
structure VAt (v0 : Value) (w wk : World) (B g : Nat) (a : Wd) (evs : Array Value) (v : Value) (l : List UInt8) : Prop where
  first : Blk wk B 52 #[.int .i64 a.t, .int .i64 a.v, .int .i64 a.e, .int .i64 a.b]
  evs : Blk wk (B + 1) 3 evs
  isw : IsW wk g v l
  own : OwnFrom g v
  far : v.ownBlock ≠ some B ∧ v.ownBlock ≠ some (B + 1)
  bel : Below g w wk
  lt : g < B
  tch : Touch (FootW g v0) w wk
  mv : Moved w v0 v
theorem VAt.step {v0 : Value} {w wk w' : World} {B g : Nat} {a : Wd} {evs : Array Value} {v v' : Value} {l l' : List UInt8} (h : VAt v0 w wk B g a evs v l) (hw : IsW w' g v' l') (ht : Touch (FootW g v) wk w') (hm : Moved wk v v') : VAt v0 w w' B g a evs v' l' := by
  have h1 := h.first.lt
  have h2 := h.evs.lt
  have h3 := h.lt
  have hb := h.own.below (Nat.le_refl g) (by omega) ht
  refine ⟨h.first.touch ht ?_, h.evs.touch ht ?_, hw, h.own.moved hm (by omega), ?_, h.bel.trans hb, h.lt, foot_step h.tch h.mv ht, h.mv.trans hm h.tch.size⟩
  · rintro (e | e)
    · omega
    · exact h.far.1 e
  · rintro (e | e)
    · omega
    · exact h.far.2 e
  · rcases hm with hm | ⟨j, hj, hm⟩
    · rw [hm]; exact h.far
    · rw [hm]
      exact ⟨fun e => by injection e with e; omega, fun e => by injection e with e; omega⟩
theorem VAt.below {v0 : Value} {w wk w' : World} {B g : Nat} {a : Wd} {evs : Array Value} {v : Value} {l : List UInt8} (h : VAt v0 w wk B g a evs v l) (hb : Below wk.heap.size wk w') : VAt v0 w w' B g a evs v l := by
  have h1 := h.first.lt
  have h3 := h.lt
  refine ⟨h.first.below hb h.first.lt, h.evs.below hb h.evs.lt, h.isw.touch (Below.touch hb) (fun j hj hp => ?_), h.own, h.far, h.bel.trans (hb.mono (by omega)), h.lt, h.tch.trans (touch_of_below hb), h.mv⟩
  have hp : wk.heap.size ≤ j := hp
  rcases hj with rfl | hj
  · omega
  · have := (World.ownsRow.lt h.isw.own j hj).2; omega
theorem VAt.drew {v0 : Value} {w wk : World} {B g : Nat} {a : Wd} {evs : Array Value} {v : Value} {l : List UInt8} (h : VAt v0 w wk B g a evs v l) : VAt v0 w wk.drew B g a evs v l := by
  have := h.below (w' := wk.drew) ⟨rfl, rfl, rfl, Nat.le_refl _, fun _ _ => rfl⟩
  exact this
theorem near_vs {k : Int} (h : vs k ≠ 0) : (near (vs k : Nat) 8).toNat = vs k := by
  have := vs_le k
  rw [near_is]; omega
theorem near_l2 : (near 2 8).toNat = 2 := by decide
theorem near_l4 : (near 4 8).toNat = 4 := by decide
theorem near_l1 : (near 1 8).toNat = 1 := by decide

set_option maxRecDepth 100000 in
set_option maxHeartbeats 4000000 in
theorem putVector_any (g : Nat) (v : Value) (L : List UInt8) (A : Option Addr) (c : Nat) (k : Int) (more : Bool) (l : List Wd) (w : World) (h : IsW w g v L) (hv : OwnFrom g v) (hL : L.length ≤ 900000000)
    (hA : WordsAt w g A l) (hl : l.length ≤ 200) (hk : vs k ≠ 0) (hg : ∀ a ∈ l, wordP a ∧ a.t = k) :
    Calls Try.prog 70 #[.pointer (some ⟨g, 0, none⟩), .int .i64 k, .int .i64 ((l.length : Int) + (if more then 8192 else 0)), .slice A l.length c] w fun e w' => e = .returned (.tuple #[]) ∧
      ∃ v', IsW w' g v' (L ++ vecBytes k more l) ∧ OwnFrom g v' ∧ Below g w w' ∧ Touch (FootW g v) w w' ∧ Moved w v v' := by
  obtain ⟨N, hN⟩ : ∃ N : Int, (l.length : Int) + (if more then 8192 else 0) = N := ⟨_, rfl⟩
  obtain ⟨n, hn⟩ : ∃ n : Nat, l.length = n := ⟨_, rfl⟩
  have hmk0 := fun w => run_make_row' (P := Try.prog) 22 3 (.int .i64 0) 8 Try.underlying22 int_info rfl .i64 .i64 n (by omega) (by omega) w
  cases l with
  | nil =>
    simp only [List.length_nil] at hn
    subst hn
    have hmk := hmk0 (w.alloc (.cells #[.int .i64 0, .int .i64 0, .int .i64 0, .int .i64 0] 52))
    rw [show ((0 : Nat) : Int) = 0 from rfl] at hmk
    have hHead : vecBytes k more [] = be N 2 ++ (be 0 (vs k) ++ (be 0 4 ++ rows 3 6 (evN []) 0 (sz 0 3))) := by
      rw [vecBytes, hN]; rfl
    have HH := Lib.hid hHead
    have hlt := h.blk.lt
    have hown : ∀ j, v.ownBlock = some j → j < w.heap.size := fun j hj => (World.ownsRow.lt h.own j hj).2
    have hb := bel_alloc2 w (.cells #[.int .i64 0, .int .i64 0, .int .i64 0, .int .i64 0] 52) (.cells (madeCells #[Value.int .i64 0] 0) 3)
    have hbe := Blk.new (w.alloc (.cells #[.int .i64 0, .int .i64 0, .int .i64 0, .int .i64 0] 52)) 3 (madeCells #[Value.int .i64 0] 0)
    rw [show (w.alloc (.cells #[.int .i64 0, .int .i64 0, .int .i64 0, .int .i64 0] 52)).heap.size = w.heap.size + 1 by simp] at hbe
    have hV : VAt v w ((w.alloc (.cells #[.int .i64 0, .int .i64 0, .int .i64 0, .int .i64 0] 52)).alloc (.cells (madeCells #[Value.int .i64 0] 0) 3)) w.heap.size g wd0 (madeCells #[Value.int .i64 0] 0) v L :=
      ⟨(Blk.new w _ _).alloc _, hbe, h.touch (Below.touch hb) (fun j hj hp => by
        have hp : w.heap.size ≤ j := hp
        rcases hj with rfl | hj
        · omega
        · have := hown j hj; omega), hv, ⟨fun e => by have := hown _ e; omega, fun e => by have := hown _ e; omega⟩, hb.mono (Nat.le_of_lt hlt), hlt, touch_of_below hb, Moved.refl _ _⟩
    have HL := Lib.hid hL
    have HK := Lib.hid hk
    rw [hN]
    simp only [List.length_nil]
    clear hN hA hl hg hmk0 hHead hown hlt hb hbe hL hv h hk
    go_enter Try.func70, Try.ntmps70
    go_wp2_with fail
    clear hmk
    go_loopw [25] (fun i wr => i = .int .i64 0 ∧ wr = ((w.alloc (.cells #[.int .i64 0, .int .i64 0, .int .i64 0, .int .i64 0] 52)).alloc (.cells (madeCells #[Value.int .i64 0] 0) 3))) (fun i _ => 0)
    case atStart => exact ⟨rfl, rfl⟩
    case round =>
      obtain ⟨rfl, rfl⟩ := hrel
      go_wp2_with fail
      refine (put_any g _ _ _ _ _ hV.isw (by have := HL.out; omega)).mono ?_
      rw [near_l2]
      rintro e w1 ⟨rfl, v1, i1, t1, m1⟩
      have h1 := (hV.step i1 t1 m1)
      have h1d := h1.drew
      clear hV i1 t1 m1
      go_wp2_with fail
      go_region_held3 (fun w' => w'.cell? ⟨w.heap.size, 1, none⟩ = some (.int .i64 0))
        (first | exact h2.first.cell 1 | exact h1.first.cell 1 | exact h1d.first.cell 1)
        (first
          | (go_at_call 59; (with_reducible (refine (vs_any k _).mono ?_)); rintro e w' ⟨rfl, rfl⟩)
          | (go_at_call 38; (with_reducible (refine (put_any g _ _ _ _ (World.drew w1) h1d.isw (by have := HL.out; rw [List.length_append, be_length]; omega)).mono ?_)); rw [near_vs HK.out]; rintro e w2 ⟨rfl, v2, i2, t2, m2⟩; have h2 := h1d.step i2 t2 m2))
      clear h1 h1d i2 t2 m2
      have k3 : w2.cell? ⟨w.heap.size, 3, none⟩ = some (.int .i64 0) := h2.first.cell 3
      go_wp2_with fail
      refine (put_any g _ _ _ _ _ h2.isw (by have := HL.out; have := vs_le k; simp only [List.length_append, be_length]; omega)).mono ?_
      rw [near_l4]
      rintro e w3 ⟨rfl, v3, i3, t3, m3⟩
      have h3 := h2.step i3 t3 m3
      clear h2 i3 t3 m3 k3
      have hnums : Nums w3 w3.heap.size (some ⟨w.heap.size + 1, 0, none⟩) 0 (fun i => ((evN [] i : Nat) : Int)) := fun i hi => absurd hi (Nat.not_lt_zero _)
      have hpk := threes_any (some ⟨w.heap.size + 1, 0, none⟩) 0 0 (fun i => ((evN [] i : Nat) : Int)) (evN []) 0 w3 (by omega) hnums (Nat.le_refl _) (fun i hi => rfl) (fun i hi => absurd hi (Nat.not_lt_zero _)) (fun h => absurd h (Nat.lt_irrefl _))
      clear hnums
      have HPK := Lib.hid hpk
      clear hpk
      obtain ⟨S, HS⟩ : ∃ S, Hid (str (rows 3 6 (evN []) 0 (sz 0 3)) = S) := ⟨_, Lib.hid rfl⟩
      have hSs : S.size ≤ 200 := by rw [← HS.out, str_size, rows_length]; have := sz_le 0 3 6 (.inl ⟨rfl, rfl⟩); omega
      go_wp2_with fail
      refine HPK.out.mono ?_
      rintro e w4 ⟨hend, b4⟩
      rcases hend with ⟨_, rfl⟩ | ⟨hirr, _⟩
      rotate_left
      · exact absurd hirr (Nat.lt_irrefl _)
      rw [HS.out]
      have h4 := h3.below b4
      clear h3 b4 HPK
      go_wp2_with fail
      refine (wraw_any g _ _ S _ h4.isw (by have := HL.out; have := vs_le k; simp only [List.length_append, be_length]; omega)).mono ?_
      rintro e w5 ⟨rfl, v5, i5, t5, m5⟩
      have h5 := h4.step i5 t5 m5
      go_wp2
      go_end0
      refine ⟨rfl, v5, ?_, h5.own, h5.bel, h5.tch, h5.mv⟩
      have := h5.isw
      rw [← HS.out, str_list] at this
      rw [HH.out]
      simpa only [List.append_assoc] using this
  | cons a t =>
    obtain ⟨b0, off, rfl, hb0, c0, c1, c2, c3⟩ := hA 0 (by simp)
    simp only [List.getD_cons_zero, Nat.zero_mul, Nat.add_zero] at c0 c1 c2 c3
    have hfirst := Blk.new w 52 #[.int .i64 0, .int .i64 0, .int .i64 0, .int .i64 0]
    have bel := bel_alloc w (.cells #[.int .i64 0, .int .i64 0, .int .i64 0, .int .i64 0] 52)
    rw [hN, hn]
    have n0 : (0 : Int) < n := by rw [← hn]; simp
    have d1 : (w.alloc (.cells #[.int .i64 0, .int .i64 0, .int .i64 0, .int .i64 0] 52)).cell? ⟨b0, off, none⟩ = some (.int .i64 a.t) := (bel.cell (p := ⟨b0, off, none⟩) (Nat.lt_trans hb0 h.blk.lt)).trans c0
    have d2 : (w.alloc (.cells #[.int .i64 0, .int .i64 0, .int .i64 0, .int .i64 0] 52)).cell? ⟨b0, off + 1, none⟩ = some (.int .i64 a.v) := (bel.cell (p := ⟨b0, off + 1, none⟩) (Nat.lt_trans hb0 h.blk.lt)).trans c1
    have d3 : (w.alloc (.cells #[.int .i64 0, .int .i64 0, .int .i64 0, .int .i64 0] 52)).cell? ⟨b0, off + 2, none⟩ = some (.int .i64 a.e) := (bel.cell (p := ⟨b0, off + 2, none⟩) (Nat.lt_trans hb0 h.blk.lt)).trans c2
    have d4 : (w.alloc (.cells #[.int .i64 0, .int .i64 0, .int .i64 0, .int .i64 0] 52)).cell? ⟨b0, off + 3, none⟩ = some (.int .i64 a.b) := (bel.cell (p := ⟨b0, off + 3, none⟩) (Nat.lt_trans hb0 h.blk.lt)).trans c3
    have hmk := hmk0 (w.alloc (.cells #[.int .i64 a.t, .int .i64 a.v, .int .i64 a.e, .int .i64 a.b] 52))
    have hv0 := (hg a (by simp)).1
    obtain ⟨hat, he0, he5, hbn0, hbn1⟩ := hv0
    have hHead : vecBytes k more (a :: t) = be N 2 ++ (be a.v (vs k) ++ (be a.b 4 ++ rows 3 6 (evN (a :: t)) n (sz n 3))) := by
      rw [vecBytes, hN, hn]; rfl
    have HH := Lib.hid hHead
    have hev : ∀ j, j < n → ((a :: t).getD j wd0).e = ((evN (a :: t) j : Nat) : Int) ∧ evN (a :: t) j < 6 := by
      intro j hj
      have hj' : j < (a :: t).length := by rw [hn]; exact hj
      have hm := hg ((a :: t)[j]) (List.getElem_mem hj')
      obtain ⟨⟨_, h0, h5, _⟩, _⟩ := hm
      have e1 : (a :: t).getD j wd0 = (a :: t)[j] := by simp [List.getD, List.getElem?_eq_getElem hj']
      have e2 : evN (a :: t) j = ((a :: t)[j]).e.toNat := by simp only [evN, List.getElem?_eq_getElem hj']
      rw [e1, e2]
      omega
    have HEV := Lib.hid hev
    have HA := Lib.hid hA
    have hst : evA (a :: t) 0 = madeCells #[Value.int .i64 0] n := by rw [← hn, evA_made]
    have hevs := fun j (hj : j < n) => evA_set (a :: t) j (by rw [hn]; exact hj)
    have HES := Lib.hid hevs
    have heat := fun j i (hi : i < n) => evA_at (a :: t) j i (by rw [hn]; exact hi)
    have HEA := Lib.hid heat
    have hnl : n ≤ 200 := by rw [← hn]; exact hl
    have HNL := Lib.hid hnl
    have hglt := h.blk.lt
    have hown : ∀ j, v.ownBlock = some j → j < w.heap.size := fun j hj => (World.ownsRow.lt h.own j hj).2
    have HIs : ∀ {wr : World}, Below w.heap.size w wr → IsW wr g v L := fun hb => h.touch (Below.touch hb) (fun j hj hp => by
      have hp : w.heap.size ≤ j := hp
      rcases hj with rfl | hj
      · omega
      · have := hown j hj; omega)
    have HOW := Lib.hid hown
    have HIS := Lib.hid (fun (wr : World) (hb : Below w.heap.size w wr) => HIs hb)
    have HGL := Lib.hid hglt
    have HL := Lib.hid hL
    have HV := Lib.hid hv
    have HK := Lib.hid hk
    have HB0 := Lib.hid hb0
    have HN := Lib.hid hn
    clear hN hA hl hg hmk0 hHead hev hevs heat hnl hglt hown HIs hL hv h hk hb0 hat he0 he5 hbn0 hbn1
    have hbe : Blk ((w.alloc (.cells #[.int .i64 a.t, .int .i64 a.v, .int .i64 a.e, .int .i64 a.b] 52)).alloc (.cells (madeCells #[Value.int .i64 0] n) 3)) (w.heap.size + 1) 3 (evA (a :: t) 0) := by
      rw [hst]
      have := Blk.new (w.alloc (.cells #[.int .i64 a.t, .int .i64 a.v, .int .i64 a.e, .int .i64 a.b] 52)) 3 (madeCells #[Value.int .i64 0] n)
      simpa using this
    have hbf : Blk ((w.alloc (.cells #[.int .i64 a.t, .int .i64 a.v, .int .i64 a.e, .int .i64 a.b] 52)).alloc (.cells (madeCells #[Value.int .i64 0] n) 3)) w.heap.size 52 #[.int .i64 a.t, .int .i64 a.v, .int .i64 a.e, .int .i64 a.b] := (Blk.new w _ _).alloc _
    have hbl := bel_alloc2 w (.cells #[.int .i64 a.t, .int .i64 a.v, .int .i64 a.e, .int .i64 a.b] 52) (.cells (madeCells #[Value.int .i64 0] n) 3)
    clear hn hst bel hfirst
    go_enter Try.func70, Try.ntmps70
    go_wp2_with fail
    clear hmk d1 d2 d3 d4 c0 c1 c2 c3
    go_loopw [25] (fun i wr => ∃ j : Nat, j ≤ n ∧ i = .int .i64 j ∧ Blk wr w.heap.size 52 #[.int .i64 a.t, .int .i64 a.v, .int .i64 a.e, .int .i64 a.b] ∧ Blk wr (w.heap.size + 1) 3 (evA (a :: t) j) ∧ Below w.heap.size w wr) (fun i _ => n - (intOf i).toNat)
    case atStart => exact ⟨0, Nat.zero_le _, rfl, hbf, hbe, hbl⟩
    case round =>
      obtain ⟨j, hj, rfl, hf, he, hb⟩ := hrel
      clear hbe hbf hbl
      by_cases hlt : j < n
      · obtain ⟨b1, off1, hbo, hb1, c0, c1, c2, c3⟩ := HA.out j (by rw [HN.out]; exact hlt)
        obtain ⟨rfl, rfl⟩ : b0 = b1 ∧ off = off1 := by injection hbo with hbo; injection hbo with h1 h2; exact ⟨h1, h2⟩
        have hs := HES.out j hlt
        have ha0 := HEA.out j j hlt
        rw [if_neg (Nat.lt_irrefl j)] at ha0
        generalize (a :: t).getD j wd0 = x at *
        have lt0 : b0 < w.heap.size := Nat.lt_trans HB0.out HGL.out
        have k0 : wr.cell? ⟨b0, off + j * 4, none⟩ = some (.int .i64 x.t) := (hb.cell (p := ⟨b0, off + j * 4, none⟩) lt0).trans c0
        have k1 : wr.cell? ⟨b0, off + j * 4 + 1, none⟩ = some (.int .i64 x.v) := (hb.cell (p := ⟨b0, off + j * 4 + 1, none⟩) lt0).trans c1
        have k2 : wr.cell? ⟨b0, off + j * 4 + 2, none⟩ = some (.int .i64 x.e) := (hb.cell (p := ⟨b0, off + j * 4 + 2, none⟩) lt0).trans c2
        have k3 : wr.cell? ⟨b0, off + j * 4 + 3, none⟩ = some (.int .i64 x.b) := (hb.cell (p := ⟨b0, off + j * 4 + 3, none⟩) lt0).trans c3
        have he1 := he.alloc (.cells #[.int .i64 x.t, .int .i64 x.v, .int .i64 x.e, .int .i64 x.b] 52)
        have hf1 := hf.alloc (.cells #[.int .i64 x.t, .int .i64 x.v, .int .i64 x.e, .int .i64 x.b] 52)
        have hb1' := hb.alloc hb.size (.cells #[.int .i64 x.t, .int .i64 x.v, .int .i64 x.e, .int .i64 x.b] 52)
        have e0 : (wr.alloc (.cells #[.int .i64 x.t, .int .i64 x.v, .int .i64 x.e, .int .i64 x.b] 52)).cell? ⟨w.heap.size + 1, j, none⟩ = some (.int .i64 0) := (he1.cell j).trans ha0
        have f0 := he1.frozen j
        have hfin : Blk ((wr.alloc (.cells #[.int .i64 x.t, .int .i64 x.v, .int .i64 x.e, .int .i64 x.b] 52)).setCell ⟨w.heap.size + 1, j, none⟩ (.int .i64 x.e)) (w.heap.size + 1) 3 (evA (a :: t) (j + 1)) := by rw [← hs]; exact he1.set_ j _
        have hff := hf1.far (a := ⟨w.heap.size + 1, j, none⟩) (by simp) (.int .i64 x.e)
        have hbf' := hb1'.setCell (p := ⟨w.heap.size + 1, j, none⟩) (by simp) (.int .i64 x.e)
        have jn : (j : Int) < n := by omega
        have j0 : (0 : Int) ≤ j := by omega
        have jw : wrap64 ((j : Int) + 1) = (j : Int) + 1 := IntWalk.wrap64_in _ (by have := HNL.out; omega)
        clear c0 c1 c2 c3 he hf hb hs ha0 he1 hf1 hb1' lt0 hb1
        go_wp2_with fail
        go_roundw
        case rel => exact ⟨j + 1, by omega, by go_num, hff, hfin, hbf'⟩
        case measure =>
          rw [jw]
          show n - ((j : Int) + 1).toNat < n - ((j : Int)).toNat
          omega
      · obtain rfl : j = n := by omega
        have hV : VAt v w wr w.heap.size g a (evA (a :: t) j) v L := ⟨hf, he, HIS.out wr hb, HV.out, ⟨fun e => by have := HOW.out _ e; omega, fun e => by have := HOW.out _ e; omega⟩, hb.mono (Nat.le_of_lt HGL.out), HGL.out, touch_of_below hb, Moved.refl _ _⟩
        clear hf he hb n0 hlt hj
        go_wp2_with fail
        refine (put_any g _ _ _ _ _ hV.isw (by have := HL.out; omega)).mono ?_
        rw [near_l2]
        rintro e w1 ⟨rfl, v1, i1, t1, m1⟩
        have h1 := (hV.step i1 t1 m1)
        have h1d := h1.drew
        clear hV i1 t1 m1
        go_wp2_with fail
        go_region_held3 (fun w' => w'.cell? ⟨w.heap.size, 1, none⟩ = some (.int .i64 a.v))
          (first | exact h2.first.cell 1 | exact h1.first.cell 1 | exact h1d.first.cell 1)
          (first
            | (go_at_call 59; (with_reducible (refine (vs_any k _).mono ?_)); rintro e w' ⟨rfl, rfl⟩)
            | (go_at_call 38; (with_reducible (refine (put_any g _ _ _ _ (World.drew w1) h1d.isw (by have := HL.out; rw [List.length_append, be_length]; omega)).mono ?_)); rw [near_vs HK.out]; rintro e w2 ⟨rfl, v2, i2, t2, m2⟩; have h2 := h1d.step i2 t2 m2))
        clear h1 h1d i2 t2 m2
        have k3 : w2.cell? ⟨w.heap.size, 3, none⟩ = some (.int .i64 a.b) := h2.first.cell 3
        go_wp2_with fail
        refine (put_any g _ _ _ _ _ h2.isw (by have := HL.out; have := vs_le k; simp only [List.length_append, be_length]; omega)).mono ?_
        rw [near_l4]
        rintro e w3 ⟨rfl, v3, i3, t3, m3⟩
        have h3 := h2.step i3 t3 m3
        clear h2 i3 t3 m3 k3
        have hnums : Nums w3 w3.heap.size (some ⟨w.heap.size + 1, 0, none⟩) j (fun i => ((evN (a :: t) i : Nat) : Int)) := fun i hi => ⟨w.heap.size + 1, 0, rfl, h3.evs.lt, by
          have := (h3.evs.cell i).trans (HEA.out j i hi)
          rw [if_pos hi, (HEV.out i hi).1] at this
          simpa using this⟩
        have hpk := threes_any (some ⟨w.heap.size + 1, 0, none⟩) j j (fun i => ((evN (a :: t) i : Nat) : Int)) (evN (a :: t)) j w3 (by have := HNL.out; omega) hnums (Nat.le_refl _) (fun i hi => rfl) (fun i hi => (HEV.out i hi).2) (fun h => absurd h (Nat.lt_irrefl _))
        clear hnums
        have HPK := Lib.hid hpk
        clear hpk
        obtain ⟨S, HS⟩ : ∃ S, Hid (str (rows 3 6 (evN (a :: t)) j (sz j 3)) = S) := ⟨_, Lib.hid rfl⟩
        have hSs : S.size ≤ 200 := by rw [← HS.out, str_size, rows_length]; have := HNL.out; have := sz_le j 3 6 (.inl ⟨rfl, rfl⟩); omega
        go_wp2_with fail
        refine HPK.out.mono ?_
        rintro e w4 ⟨hend, b4⟩
        rcases hend with ⟨_, rfl⟩ | ⟨hirr, _⟩
        rotate_left
        · exact absurd hirr (Nat.lt_irrefl _)
        rw [HS.out]
        have h4 := h3.below b4
        clear h3 b4 HPK
        go_wp2_with fail
        refine (wraw_any g _ _ S _ h4.isw (by have := HL.out; have := vs_le k; simp only [List.length_append, be_length]; omega)).mono ?_
        rintro e w5 ⟨rfl, v5, i5, t5, m5⟩
        have h5 := h4.step i5 t5 m5
        go_wp2
        go_end0
        refine ⟨rfl, v5, ?_, h5.own, h5.bel, h5.tch, h5.mv⟩
        have := h5.isw
        rw [← HS.out, str_list] at this
        rw [HH.out]
        simpa only [List.append_assoc] using this
end Go.Proofs.Ythghedlgeceepaa
