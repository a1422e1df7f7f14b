/- mrpdu.putPart: a part's bytes behind what stands there. Its conditions: the writer stands in its place, the words lie below it, and can be. -/
import Derived.Test.YthghedlgeceepaaMrPutV
import Derived.Test.YthghedlgeceepaaMrJoin
import Derived.Test.YthghedlgeceepaaMrRow
namespace Go.Proofs.Ythghedlgeceepaa
open Go.RowKit
set_option maxRecDepth 100000

theorem rowLen_le (l : List Wd) : rowLen l ≤ l.length ∧ rowLen l ≤ 200 := by
  cases l with
  | nil => simp [rowLen]
  | cons a t =>
    have := rowFrom_le 199 a t
    simp only [rowLen, List.length_cons]
    omega
theorem vecBytes_length (k : Int) (more : Bool) (l : List Wd) (h : l.length ≤ 200) : (vecBytes k more l).length ≤ 100 := by
  have h1 := vs_le k
  have h2 := sz_le l.length 3 6 (.inl ⟨rfl, rfl⟩)
  have h3 : sz l.length 3 ≤ 70 := by simp only [sz]; omega
  simp only [vecBytes, List.length_append, be_length, rows_length]
  omega
theorem vecs_length (k : Int) : ∀ (N : Nat) (more : Bool) (l : List Wd), l.length ≤ N → (vecs k more l).length ≤ 100 * (l.length + 1) := by
  intro N
  induction N with
  | zero =>
    intro more l h
    have : l = [] := List.eq_nil_of_length_eq_zero (by omega)
    subst this
    rw [vecs_nil]
    split
    · have := vecBytes_length k true [] (by simp)
      simp only [List.length_nil]; omega
    · simp
  | succ N ih =>
    intro more l h
    cases l with
    | nil =>
      rw [vecs_nil]
      split
      · have := vecBytes_length k true [] (by simp)
        simp only [List.length_nil]; omega
      · simp
    | cons a t =>
      rw [vecs_cons, List.length_append]
      have h1 := rowLen_le (a :: t)
      have h2 : 1 ≤ rowLen (a :: t) := by simp only [rowLen]; omega
      have h3 := ih false ((a :: t).drop (rowLen (a :: t))) (by rw [List.length_drop]; simp only [List.length_cons] at h ⊢; omega)
      have h4 := vecBytes_length k more ((a :: t).take (rowLen (a :: t))) (by rw [List.length_take]; omega)
      rw [List.length_drop] at h3
      omega

theorem vecs_step (k : Int) (b : Bool) (l : List Wd) (h : b = true ∨ l ≠ []) : vecs k b l = vecBytes k b (l.take (rowLen l)) ++ vecs k false (l.drop (rowLen l)) := by
  cases l with
  | nil =>
    obtain rfl : b = true := h.resolve_right (fun h => h rfl)
    rw [vecs_nil, List.drop_nil, vecs_nil, List.take_nil]
    simp
  | cons a t => exact vecs_cons k b a t
def lenV : Value → Nat
  | .slice _ n _ => n
  | _ => 0
def flag (n : Int) : Nat := if n = 0 then 0 else 1
/-- Where the writing of a part's vectors stands. -/
structure PLoop (v0 : Value) (w wr : World) (g : Nat) (k : Int) (T : List UInt8) (A : Option Addr) (c : Nat) (l : List Wd) (b : Bool) (v : Value) (X : List UInt8) : Prop where
  at_ : WordsAt wr g A l
  cap : l.length ≤ c
  len : l.length ≤ 400000
  good : ∀ a ∈ l, wordP a ∧ a.t = k
  isw : IsW wr g v X
  own : OwnFrom g v
  bel : Below g w wr
  rest : X ++ vecs k b l = T
  tch : Touch (FootW g v0) w wr
  mv : Moved w v0 v
theorem PLoop.lt {v0 : Value} {w wr : World} {g : Nat} {k : Int} {T X : List UInt8} {A : Option Addr} {c : Nat} {l : List Wd} {b : Bool} {v : Value} (h : PLoop v0 w wr g k T A c l b v X) : g < wr.heap.size := h.isw.blk.lt
theorem word_range {k : Int} {l : List Wd} (h : ∀ a ∈ l, wordP a ∧ a.t = k) : ∀ j, j < l.length → -1000000000000000 ≤ (l.getD j wd0).v ∧ (l.getD j wd0).v ≤ 1000000000000000 := fun j hj => by
  have e : l.getD j wd0 = l[j] := by simp [List.getD, List.getElem?_eq_getElem hj]
  rw [e]
  have := (attr_range (h _ (List.getElem_mem hj)).1.1).2
  omega
theorem isw_below {w w' : World} {g : Nat} {v : Value} {l : List UInt8} (h : IsW w g v l) (hb : Below w.heap.size w w') : IsW w' g v l := h.touch (Below.touch hb) (fun j hj hp => by
  have hp : w.heap.size ≤ j := hp
  have := h.blk.lt
  rcases hj with rfl | hj
  · omega
  · have := (World.ownsRow.lt h.own j hj).2; omega)
theorem PLoop.below {v0 : Value} {w wr w' : World} {g : Nat} {k : Int} {T X : List UInt8} {A : Option Addr} {c : Nat} {l : List Wd} {b : Bool} {v : Value} (h : PLoop v0 w wr g k T A c l b v X) (hb : Below wr.heap.size wr w') : PLoop v0 w w' g k T A c l b v X :=
  ⟨h.at_.below (hb.mono (Nat.le_of_lt h.lt)), h.cap, h.len, h.good, isw_below h.isw hb, h.own, h.bel.trans (hb.mono (Nat.le_of_lt h.lt)), h.rest, h.tch.trans (touch_of_below hb), h.mv⟩
/-- One round: a row is written. -/
theorem PLoop.round {v0 : Value} {w wr : World} {g : Nat} {k : Int} {T X : List UInt8} {A : Option Addr} {c : Nat} {l : List Wd} {b : Bool} {v : Value} (h : PLoop v0 w wr g k T A c l b v X) (hT : T.length ≤ 300000000) (hk : vs k ≠ 0) :
    Calls Try.prog 70 #[.pointer (some ⟨g, 0, none⟩), .int .i64 k, .int .i64 ((rowLen l : Int) + (if b then 8192 else 0)), .slice A (rowLen l) c] wr fun e w' => e = .returned (.tuple #[]) ∧
      ∃ v', ((b = true ∨ l ≠ []) → PLoop v0 w w' g k T (if c = rowLen l then A else A.map (fun x => x.add (rowLen l * 4))) (c - rowLen l) (l.drop (rowLen l)) false v' (X ++ vecBytes k b (l.take (rowLen l)))) := by
  have hr := rowLen_le l
  have e : (l.take (rowLen l)).length = rowLen l := by rw [List.length_take]; omega
  have hX : X.length ≤ T.length := by rw [← h.rest, List.length_append]; omega
  have hp := putVector_any g v X A c k b (l.take (rowLen l)) wr h.isw h.own (by omega) (h.at_.take _) (by rw [e]; exact hr.2) hk (fun a ha => h.good a (List.mem_of_mem_take ha))
  rw [e] at hp
  refine hp.mono ?_
  rintro e w' ⟨rfl, v', h1, h2, h3, h4, h5⟩
  refine ⟨rfl, v', fun hne => ⟨?_, ?_, ?_, fun a ha => h.good a (List.mem_of_mem_drop ha), h1, h2, h.bel.trans h3, ?_, foot_step h.tch h.mv h4, h.mv.trans h5 h.tch.size⟩⟩
  · split
    · rename_i hcr
      rw [List.drop_eq_nil_of_le (by have := h.cap; omega)]
      exact WordsAt.nil _ _ _
    · exact (h.at_.drop _).below h3
  · rw [List.length_drop]; have := h.cap; omega
  · rw [List.length_drop]; have := h.len; omega
  · rw [List.append_assoc, ← vecs_step k b l hne, h.rest]

set_option maxRecDepth 100000 in
set_option maxHeartbeats 4000000 in
theorem putPart_any (g : Nat) (v : Value) (L : List UInt8) (A : Option Addr) (c : Nat) (k : Int) (all : Bool) (l : List Wd) (w : World) (h : IsW w g v L) (hv : OwnFrom g v) (hL : L.length ≤ 200000000)
    (hA : WordsAt w g A l) (hl : l.length ≤ 400000) (hc : l.length ≤ c) (hk : vs k ≠ 0) (hg : ∀ a ∈ l, wordP a ∧ a.t = k) :
    Calls Try.prog 40 #[.pointer (some ⟨g, 0, none⟩), .int .i64 k, .bool all, .slice A l.length c] w fun e w' => e = .returned (.tuple #[]) ∧
      ∃ v', IsW w' g v' (L ++ partBytes k all l) ∧ OwnFrom g v' ∧ Below g w w' ∧ Touch (FootW g v) w w' ∧ Moved w v v' := by
  by_cases hnone : all = false ∧ l = []
  · obtain ⟨rfl, rfl⟩ := hnone
    rw [show partBytes k false [] = [] by simp [partBytes], List.append_nil]
    have hfin : ∃ v', IsW w g v' L ∧ OwnFrom g v' ∧ Below g w w ∧ Touch (FootW g v) w w ∧ Moved w v v' := ⟨v, h, hv, Below.refl _ _, Touch.refl _ _, Moved.refl _ _⟩
    simp only [List.length_nil]
    clear h hv hL hA hl hc hk hg
    go_enter Try.func40, Try.ntmps40
    go_wp2_with fail
    exact bodyPost_ret (results_none rfl _ _ _) rfl ⟨rfl, hfin⟩
  have hpb : partBytes k all l = be k 1 ++ (be (vs k) 1 ++ (vecs k all l ++ [0, 0])) := if_neg hnone
  have HPB := Lib.hid hpb
  have hvl := vecs_length k l.length all l (Nat.le_refl _)
  have HVL := Lib.hid hvl
  have HL := Lib.hid hL
  have HLL := Lib.hid hl
  have HK := Lib.hid hk
  have HC := Lib.hid hc
  have HG := Lib.hid hg
  have HA := Lib.hid hA
  have hmore : (if all then (8192 : Int) else 0) = if all then 8192 else 0 := rfl
  have hne : all = true ∨ 0 < l.length := by
    cases all with
    | true => exact .inl rfl
    | false => exact .inr (List.length_pos_iff.2 (fun e => hnone ⟨rfl, e⟩))
  have HH := Lib.hid h
  have HV := Lib.hid hv
  clear hpb hvl hL hl hk hc hg hA hmore hnone h hv
  obtain ⟨n, hn⟩ : ∃ n, l.length = n := ⟨_, rfl⟩
  rw [hn] at hne ⊢
  have HNN := Lib.hid hn
  clear hn
  have main : ∀ (w2 : World) (v2 : Value), IsW w2 g v2 (L ++ be k 1 ++ be (vs k) 1) → OwnFrom g v2 → Below g w w2 → Touch (FootW g v) w w2 → Moved w v v2 → PLoop v w w2 g k (L ++ be k 1 ++ be (vs k) 1 ++ vecs k all l) A c l all v2 (L ++ be k 1 ++ be (vs k) 1) := fun w2 v2 i2 o2 b2 t2 m2 =>
    ⟨HA.out.below b2, HC.out, HLL.out, HG.out, i2, o2, b2, rfl, t2, m2⟩
  have hTl : (L ++ be k 1 ++ be (vs k) 1 ++ vecs k all l).length ≤ 300000000 := by
    have h1 := HL.out
    have h2 := HVL.out
    have h3 := HLL.out
    have h4 := vs_le k
    simp only [List.length_append, be_length]
    omega
  have hfinal : L ++ partBytes k all l = (L ++ be k 1 ++ be (vs k) 1 ++ vecs k all l) ++ [0, 0] := by rw [HPB.out]; simp only [List.append_assoc]
  have HF := Lib.hid hfinal
  obtain ⟨T, hT⟩ : ∃ T, L ++ be k 1 ++ be (vs k) 1 ++ vecs k all l = T := ⟨_, rfl⟩
  rw [hT] at HF hTl main
  have HTL := Lib.hid hTl
  have HMain := Lib.hid main
  clear hT hTl hfinal main HPB HVL HG HA HC
  cases all with
  | false =>
    have n0 : (0 : Int) < n := by rcases hne with h | h; exact absurd h (by decide); omega
    clear hne
    go_enter Try.func40, Try.ntmps40
    go_wp2_with fail
    refine (put_any g _ _ _ _ _ HH.out (by have := HL.out; omega)).mono ?_
    rw [near_l1]
    rintro e w1 ⟨rfl, v1, i1, t1, m1⟩
    have o1 := HV.out.moved m1 (Nat.le_of_lt HH.out.blk.lt)
    have b1 := HV.out.below (Nat.le_refl g) (Nat.le_of_lt HH.out.blk.lt) t1
    go_wp2_with (go_at_call 59; (with_reducible (refine (vs_any k _).mono ?_)); rintro e w' ⟨rfl, rfl⟩)
    refine (put_any g _ _ _ _ _ i1 (by have := HL.out; rw [List.length_append, be_length]; omega)).mono ?_
    rw [near_l1]
    rintro e w2 ⟨rfl, v2, i2, t2, m2⟩
    have hP := HMain.out w2 v2 i2 (o1.moved m2 (Nat.le_of_lt i1.blk.lt)) (b1.trans (o1.below (Nat.le_refl g) (Nat.le_of_lt i1.blk.lt) t2)) (foot_step t1 m1 t2) (m1.trans m2 t1.size)
    clear i1 t1 m1 i2 t2 m2 o1 b1
    go_wp2_with fail
    go_loopw [3, 8] (fun ws m wr => ∃ (A' : Option Addr) (c' : Nat) (l' : List Wd) (b : Bool) (v' : Value) (X : List UInt8), ws = .slice A' l'.length c' ∧ m = .int .i64 (if b then 8192 else 0) ∧ PLoop v w wr g k T A' c' l' b v' X) (fun ws m _ => lenV ws + flag (intOf m))
    case atStart => exact ⟨A, c, l, false, v2, _, by rw [HNN.out], rfl, hP⟩
    case round =>
      obtain ⟨A', c', l', b, v', X, rfl, rfl, hQ⟩ := hrel
      clear hP
      have hrow := row_any A' c' l' wr (by have := hQ.len; omega) (hQ.at_.more (Nat.le_of_lt hQ.lt)) (word_range hQ.good)
      obtain ⟨r, hr⟩ : ∃ r, rowLen l' = r := ⟨_, rfl⟩
      have hrl := rowLen_le l'
      have hcap := hQ.cap
      obtain ⟨m, hm⟩ : ∃ m, l'.length = m := ⟨_, rfl⟩
      rw [hr] at hrow hrl
      rw [hm] at hrow hrl hcap
      have HM := Lib.hid hm
      have HR := Lib.hid hr
      have r0 : (0 : Int) ≤ r := by omega
      have r1 : (r : Int) ≤ c' := by omega
      have r2 : (r : Int) ≤ m := by omega
      have hml : (m : Int) ≤ 400000 := by have := hQ.len; omega
      have HROW := Lib.hid hrow
      rw [hm]
      cases b with
      | true =>
        have hnb : ∀ w3, Below wr.heap.size wr w3 → Calls Try.prog 70 #[.pointer (some ⟨g, 0, none⟩), .int .i64 k, .int .i64 (8192 + (r : Int)), .slice A' r c'] w3 fun e w' => e = .returned (.tuple #[]) ∧ ∃ v', PLoop v w w' g k T (if c' = r then A' else A'.map (fun x => x.add (r * 4))) (c' - r) (l'.drop r) false v' (X ++ vecBytes k true (l'.take r)) := by
          intro w3 b3
          have h3 := (hQ.below b3).round HTL.out HK.out
          rw [hr, show ((r : Nat) : Int) + (if true = true then 8192 else 0) = 8192 + (r : Int) by simp; omega] at h3
          refine h3.mono ?_
          rintro e w' ⟨rfl, v4, h4⟩
          exact ⟨rfl, v4, h4 (.inl rfl)⟩
        have HNB := Lib.hid hnb
        have hdl : (l'.drop r).length = m - r := by rw [List.length_drop, hm]
        have HDL := Lib.hid hdl
        clear hrow hrl hcap hm hr hQ hnb hdl
        go_wp2_with fail
        with_reducible refine HROW.out.mono ?_
        rintro e w3 ⟨rfl, b3⟩
        go_wp2_with fail
        with_reducible refine (HNB.out w3 b3).mono ?_
        rintro e w4 ⟨rfl, v4, h4⟩
        go_wp2_with fail
        go_roundw
        case rel => exact ⟨_, _, l'.drop r, false, v4, _, by rw [HDL.out], rfl, h4⟩
        case measure =>
          simp only [lenV, flag, intOf]
          simp
          omega
      | false =>
        by_cases h0 : l' = []
        · subst h0
          obtain rfl : m = 0 := by simpa using HM.out.symm
          have hfin : X = T := by have := hQ.rest; rw [vecs_nil] at this; simpa using this
          subst hfin
          clear hrow hrl hcap hm hr r0 r1 r2 hml HROW
          go_wp2_with fail
          refine (put_any g _ _ _ _ _ hQ.isw (by have := HTL.out; omega)).mono ?_
          rw [near_l2]
          rintro e w5 ⟨rfl, v5, i5, t5, m5⟩
          have o5 := hQ.own.moved m5 (Nat.le_of_lt hQ.lt)
          have b5 := hQ.bel.trans (hQ.own.below (Nat.le_refl g) (Nat.le_of_lt hQ.lt) t5)
          have t6 := foot_step hQ.tch hQ.mv t5
          have m6 := hQ.mv.trans m5 hQ.tch.size
          go_wp2
          go_end0
          refine ⟨rfl, v5, ?_, o5, b5, t6, m6⟩
          rw [HF.out]
          exact i5
        · have hnb : ∀ w3, Below wr.heap.size wr w3 → Calls Try.prog 70 #[.pointer (some ⟨g, 0, none⟩), .int .i64 k, .int .i64 (r : Int), .slice A' r c'] w3 fun e w' => e = .returned (.tuple #[]) ∧ ∃ v', PLoop v w w' g k T (if c' = r then A' else A'.map (fun x => x.add (r * 4))) (c' - r) (l'.drop r) false v' (X ++ vecBytes k false (l'.take r)) := by
            intro w3 b3
            have h3 := (hQ.below b3).round HTL.out HK.out
            rw [hr, show ((r : Nat) : Int) + (if false = true then 8192 else 0) = (r : Int) by simp] at h3
            refine h3.mono ?_
            rintro e w' ⟨rfl, v4, h4⟩
            exact ⟨rfl, v4, h4 (.inr h0)⟩
          have HNB := Lib.hid hnb
          have hdl : (l'.drop r).length = m - r := by rw [List.length_drop, hm]
          have HDL := Lib.hid hdl
          have m0 : (0 : Int) < m := by have := List.length_pos_iff.2 h0; omega
          have hrp : 0 < r := by
            rw [← hr]
            cases l' with
            | nil => exact absurd rfl h0
            | cons a t => simp only [rowLen]; omega
          have HRP := Lib.hid hrp
          clear hrow hrl hcap hm hr hQ hnb hdl h0 hrp
          go_wp2_with fail
          with_reducible refine HROW.out.mono ?_
          rintro e w3 ⟨rfl, b3⟩
          go_wp2_with fail
          with_reducible refine (HNB.out w3 b3).mono ?_
          rintro e w4 ⟨rfl, v4, h4⟩
          go_wp2_with fail
          go_roundw
          case rel => exact ⟨_, _, l'.drop r, false, v4, _, by rw [HDL.out], rfl, h4⟩
          case measure =>
            have := HRP.out
            simp only [lenV, flag, intOf]
            simp
            omega
  | true =>
    clear hne
    go_enter Try.func40, Try.ntmps40
    go_wp2_with fail
    refine (put_any g _ _ _ _ _ HH.out (by have := HL.out; omega)).mono ?_
    rw [near_l1]
    rintro e w1 ⟨rfl, v1, i1, t1, m1⟩
    have o1 := HV.out.moved m1 (Nat.le_of_lt HH.out.blk.lt)
    have b1 := HV.out.below (Nat.le_refl g) (Nat.le_of_lt HH.out.blk.lt) t1
    go_wp2_with (go_at_call 59; (with_reducible (refine (vs_any k _).mono ?_)); rintro e w' ⟨rfl, rfl⟩)
    refine (put_any g _ _ _ _ _ i1 (by have := HL.out; rw [List.length_append, be_length]; omega)).mono ?_
    rw [near_l1]
    rintro e w2 ⟨rfl, v2, i2, t2, m2⟩
    have hP := HMain.out w2 v2 i2 (o1.moved m2 (Nat.le_of_lt i1.blk.lt)) (b1.trans (o1.below (Nat.le_refl g) (Nat.le_of_lt i1.blk.lt) t2)) (foot_step t1 m1 t2) (m1.trans m2 t1.size)
    clear i1 t1 m1 i2 t2 m2 o1 b1
    go_wp2_with fail
    go_loopw [3, 8] (fun ws m wr => ∃ (A' : Option Addr) (c' : Nat) (l' : List Wd) (b : Bool) (v' : Value) (X : List UInt8), ws = .slice A' l'.length c' ∧ m = .int .i64 (if b then 8192 else 0) ∧ PLoop v w wr g k T A' c' l' b v' X) (fun ws m _ => lenV ws + flag (intOf m))
    case atStart => exact ⟨A, c, l, true, v2, _, by rw [HNN.out], rfl, hP⟩
    case round =>
      obtain ⟨A', c', l', b, v', X, rfl, rfl, hQ⟩ := hrel
      clear hP
      have hrow := row_any A' c' l' wr (by have := hQ.len; omega) (hQ.at_.more (Nat.le_of_lt hQ.lt)) (word_range hQ.good)
      obtain ⟨r, hr⟩ : ∃ r, rowLen l' = r := ⟨_, rfl⟩
      have hrl := rowLen_le l'
      have hcap := hQ.cap
      obtain ⟨m, hm⟩ : ∃ m, l'.length = m := ⟨_, rfl⟩
      rw [hr] at hrow hrl
      rw [hm] at hrow hrl hcap
      have HM := Lib.hid hm
      have HR := Lib.hid hr
      have r0 : (0 : Int) ≤ r := by omega
      have r1 : (r : Int) ≤ c' := by omega
      have r2 : (r : Int) ≤ m := by omega
      have hml : (m : Int) ≤ 400000 := by have := hQ.len; omega
      have HROW := Lib.hid hrow
      rw [hm]
      cases b with
      | true =>
        have hnb : ∀ w3, Below wr.heap.size wr w3 → Calls Try.prog 70 #[.pointer (some ⟨g, 0, none⟩), .int .i64 k, .int .i64 (8192 + (r : Int)), .slice A' r c'] w3 fun e w' => e = .returned (.tuple #[]) ∧ ∃ v', PLoop v w w' g k T (if c' = r then A' else A'.map (fun x => x.add (r * 4))) (c' - r) (l'.drop r) false v' (X ++ vecBytes k true (l'.take r)) := by
          intro w3 b3
          have h3 := (hQ.below b3).round HTL.out HK.out
          rw [hr, show ((r : Nat) : Int) + (if true = true then 8192 else 0) = 8192 + (r : Int) by simp; omega] at h3
          refine h3.mono ?_
          rintro e w' ⟨rfl, v4, h4⟩
          exact ⟨rfl, v4, h4 (.inl rfl)⟩
        have HNB := Lib.hid hnb
        have hdl : (l'.drop r).length = m - r := by rw [List.length_drop, hm]
        have HDL := Lib.hid hdl
        clear hrow hrl hcap hm hr hQ hnb hdl
        go_wp2_with fail
        with_reducible refine HROW.out.mono ?_
        rintro e w3 ⟨rfl, b3⟩
        go_wp2_with fail
        with_reducible refine (HNB.out w3 b3).mono ?_
        rintro e w4 ⟨rfl, v4, h4⟩
        go_wp2_with fail
        go_roundw
        case rel => exact ⟨_, _, l'.drop r, false, v4, _, by rw [HDL.out], rfl, h4⟩
        case measure =>
          simp only [lenV, flag, intOf]
          simp
          omega
      | false =>
        by_cases h0 : l' = []
        · subst h0
          obtain rfl : m = 0 := by simpa using HM.out.symm
          have hfin : X = T := by have := hQ.rest; rw [vecs_nil] at this; simpa using this
          subst hfin
          clear hrow hrl hcap hm hr r0 r1 r2 hml HROW
          go_wp2_with fail
          refine (put_any g _ _ _ _ _ hQ.isw (by have := HTL.out; omega)).mono ?_
          rw [near_l2]
          rintro e w5 ⟨rfl, v5, i5, t5, m5⟩
          have o5 := hQ.own.moved m5 (Nat.le_of_lt hQ.lt)
          have b5 := hQ.bel.trans (hQ.own.below (Nat.le_refl g) (Nat.le_of_lt hQ.lt) t5)
          have t6 := foot_step hQ.tch hQ.mv t5
          have m6 := hQ.mv.trans m5 hQ.tch.size
          go_wp2
          go_end0
          refine ⟨rfl, v5, ?_, o5, b5, t6, m6⟩
          rw [HF.out]
          exact i5
        · have hnb : ∀ w3, Below wr.heap.size wr w3 → Calls Try.prog 70 #[.pointer (some ⟨g, 0, none⟩), .int .i64 k, .int .i64 (r : Int), .slice A' r c'] w3 fun e w' => e = .returned (.tuple #[]) ∧ ∃ v', PLoop v w w' g k T (if c' = r then A' else A'.map (fun x => x.add (r * 4))) (c' - r) (l'.drop r) false v' (X ++ vecBytes k false (l'.take r)) := by
            intro w3 b3
            have h3 := (hQ.below b3).round HTL.out HK.out
            rw [hr, show ((r : Nat) : Int) + (if false = true then 8192 else 0) = (r : Int) by simp] at h3
            refine h3.mono ?_
            rintro e w' ⟨rfl, v4, h4⟩
            exact ⟨rfl, v4, h4 (.inr h0)⟩
          have HNB := Lib.hid hnb
          have hdl : (l'.drop r).length = m - r := by rw [List.length_drop, hm]
          have HDL := Lib.hid hdl
          have m0 : (0 : Int) < m := by have := List.length_pos_iff.2 h0; omega
          have hrp : 0 < r := by
            rw [← hr]
            cases l' with
            | nil => exact absurd rfl h0
            | cons a t => simp only [rowLen]; omega
          have HRP := Lib.hid hrp
          clear hrow hrl hcap hm hr hQ hnb hdl h0 hrp
          go_wp2_with fail
          with_reducible refine HROW.out.mono ?_
          rintro e w3 ⟨rfl, b3⟩
          go_wp2_with fail
          with_reducible refine (HNB.out w3 b3).mono ?_
          rintro e w4 ⟨rfl, v4, h4⟩
          go_wp2_with fail
          go_roundw
          case rel => exact ⟨_, _, l'.drop r, false, v4, _, by rw [HDL.out], rfl, h4⟩
          case measure =>
            have := HRP.out
            simp only [lenV, flag, intOf]
            simp
            omega
end Go.Proofs.Ythghedlgeceepaa
