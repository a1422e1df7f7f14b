/- slices.DeleteFunc of places, by a closure of which one contract is known. Its condition: fewer than 2^20 places. -/
import Derived.Test.YtocahiifeckogaaFgRow
namespace Go.Proofs.Ytocahiifeckogaa
open Go.RowKit
set_option maxRecDepth 100000

theorem eg_lose : ∀ args w, (callFunc 36 args).run Try.prog w = .ok (.enter 36 args) w := enters_of Try.func36 (by kernel_rfl) rfl
/-- The closure that asks whether a place goes, while Ok. -/
structure PredF (Ok : World → Prop) (bs : Nat) (dead : Pl → Bool) : Prop where
  call : ∀ (W : World) (x : Pl), Ok W → Calls Try.prog 36 #[.agg #[.int .i64 x.v, .int .i64 x.m, .int .i64 x.p, .int .i64 x.s, .bool x.st], .pointer (some ⟨bs, 0, none⟩)] W fun e w' => e = .returned (.bool (dead x)) ∧ Below W.heap.size W w'
  below : ∀ (W W' : World), Ok W → Below W.heap.size W W' → Ok W'
/-- The place of the first that is idle; none: as many as there are. -/
def firstK (dead : Pl → Bool) (l : List Pl) : Nat := (l.takeWhile fun t => !dead t).length
theorem first_stopF (dead : Pl → Bool) (l : List Pl) (j : Nat) (hj : j ≤ l.length) (h : ∀ i, i < j → dead (l.getD i pl0) = false) (he : j < l.length → dead (l.getD j pl0) = true) : firstK dead l = j := by
  induction l generalizing j with
  | nil => simp at hj; subst hj; rfl
  | cons a l ih =>
    cases j with
    | zero =>
      have := he (by simp)
      simp only [List.getD_cons_zero] at this
      simp [firstK, this]
    | succ j =>
      have h0 := h 0 (by omega)
      simp only [List.getD_cons_zero] at h0
      have := ih j (by simpa using hj) (fun r hr => by simpa using h (r + 1) (by omega)) (fun hlt => by simpa using he (by simpa using hlt))
      simp only [firstK] at this ⊢
      simp [h0, this]
def idxK (dead : Pl → Bool) (l : List Pl) : Int := if firstK dead l < l.length then (firstK dead l : Int) else -1
set_option maxHeartbeats 2000000 in
theorem index_dead {Ok : World → Prop} {bs : Nat} {dead : Pl → Bool} (hP : PredF Ok bs dead) (A : Option Addr) (c : Nat) (l : List Pl) (w : World) (hA : PlsAt w w.heap.size A l) (hn : l.length ≤ 1048000) (hq : Ok w) :
    Calls Try.prog 44 #[.slice A l.length c, .func (.func 36) #[] #[.pointer (some ⟨bs, 0, none⟩)]] w fun e w' =>
      e = .returned (.int .i64 (idxK dead l)) ∧ Below w.heap.size w w' := by
  obtain ⟨n, hnn⟩ : ∃ n, l.length = n := ⟨_, rfl⟩
  rw [hnn]
  obtain ⟨ix, hix⟩ : ∃ ix, idxK dead l = ix := ⟨_, rfl⟩
  rw [hix]
  have HIX := Lib.hid (show (if firstK dead l < n then (firstK dead l : Int) else -1) = ix by rw [← hix, ← hnn]; rfl)
  clear hix
  have HN := Lib.hid hnn
  have HN5 := Lib.hid hn
  have HA := Lib.hid hA
  have HC := Lib.hid hq
  have HP := Lib.hid hP
  clear hnn hn hA hq hP
  go_enter Try.func44, Try.ntmps44
  go_wp2_with fail
  go_loopw [8] (fun i wr => ∃ j : Nat, j ≤ n ∧ i = .int .i64 j ∧ Hid (∀ r, r < j → dead (l.getD r pl0) = false) ∧ Hid (Below w.heap.size w wr)) (fun i _ => n - (intOf i).toNat)
  case atStart => exact ⟨0, Nat.zero_le _, rfl, Lib.hid (fun r hr => absurd hr (Nat.not_lt_zero _)), Lib.hid (Below.refl _ _)⟩
  case round =>
    obtain ⟨j, hj, rfl, hf, hB⟩ := hrel
    by_cases hlt : j < n
    · obtain ⟨b, off, eb, hbl, p⟩ := HA.out j (by rw [HN.out]; exact hlt)
      subst eb
      obtain ⟨x, hx⟩ : ∃ x, l.getD j pl0 = x := ⟨_, rfl⟩
      rw [hx] at p
      have q := p.below hB.out hbl
      have q0 := q.c0
      have q1 := q.c1
      have q2 := q.c2
      have q3 := q.c3
      have q4 := q.c4
      have hcl := HP.out.call wr x (HP.out.below _ _ HC.out hB.out)
      have HX := Lib.hid hx
      have j1 : (j : Int) < n := by omega
      have j0 : (0 : Int) ≤ j := by omega
      have HJ := Lib.hid (show wrap64 ((j : Int) + 1) = (j : Int) + 1 from IntWalk.wrap64_in _ (by have := HN5.out; have := HN.out; omega))
      clear p q hbl hx hj
      cases hlb : dead x with
      | true =>
        rw [hlb] at hcl
        have HCL := Lib.hid hcl
        have hst := first_stopF dead l j (by rw [HN.out]; omega) hf.out (fun _ => by rw [HX.out]; exact hlb)
        have HST := Lib.hid (show (j : Int) = ix by rw [← HIX.out, hst, if_pos hlt])
        clear hcl hlb hst
        go_wp2_with fail
        refine HCL.out.mono ?_
        rintro e w2 ⟨rfl, b2⟩
        go_wp2_with fail
        go_ret
        exact ⟨ret_i64 HST.out, hB.out.trans (b2.mono hB.out.size)⟩
      | false =>
        rw [hlb] at hcl
        have HCL := Lib.hid hcl
        have HL := Lib.hid hlb
        have jw := HJ.out
        clear hcl hlb
        go_wp2_with fail
        refine HCL.out.mono ?_
        rintro e w2 ⟨rfl, b2⟩
        go_wp2_with fail
        go_roundw
        case rel =>
          rw [jw]
          refine ⟨j + 1, hlt, by rw [Int.natCast_add]; rfl, Lib.hid (fun r hr => ?_), Lib.hid (hB.out.trans (b2.mono hB.out.size))⟩
          by_cases e : r = j
          · subst e; rw [HX.out]; exact HL.out
          · exact hf.out r (by omega)
        case measure =>
          rw [jw]
          show n - ((j : Int) + 1).toNat < n - ((j : Int)).toNat
          omega
    · obtain rfl : n = j := by omega
      have hst := first_stopF dead l n (by rw [HN.out]; exact Nat.le_refl _) hf.out (fun h => absurd h (by rw [HN.out]; omega))
      have HST := Lib.hid (show (-1 : Int) = ix by rw [← HIX.out, hst, if_neg (Nat.lt_irrefl _)])
      clear hst hj hlt
      go_wp2_with fail
      go_ret
      exact ⟨ret_i64 HST.out, hB.out⟩

/-- The ones that aren't late. -/
def keepK (dead : Pl → Bool) (l : List Pl) : List Pl := l.filter fun t => !dead t
/-- Zeros in n slots. -/
def zeroF (n : Nat) : List Value := (Builtin.zeroCells (Value.agg #[.int .i64 0, .int .i64 0, .int .i64 0, .int .i64 0, .bool false]).cells n).toList
theorem zeroF_len (n : Nat) : (zeroF n).length = n * 5 := by unfold zeroF; rw [Array.length_toList, zero_size]
theorem zeroF_one (n : Nat) : ∀ u ∈ zeroF n, u.oneCell' = true := by
  intro u hu
  obtain ⟨i, hi, rfl⟩ := List.getElem_of_mem hu
  rw [zeroF_len] at hi
  simp only [zeroF, Builtin.zeroCells, Value.cells, Array.getElem_toList, Array.getElem_map, Array.getElem_range]
  have h3 : i % 5 = 0 ∨ i % 5 = 1 ∨ i % 5 = 2 ∨ i % 5 = 3 ∨ i % 5 = 4 := by omega
  rcases h3 with h3 | h3 | h3 | h3 | h3
  all_goals
    show ((#[Value.int .i64 0, .int .i64 0, .int .i64 0, .int .i64 0, .bool false] : Array Value)[i % 5]!).oneCell' = true
    rw [h3]; rfl
theorem run_clear_f (w : World) (ty : TypeId) (b o n c : Nat) (hn : 0 < n) (hc : ∀ j, j < n * 5 → (w.cell? ⟨b, o + j, none⟩).isSome = true) (hf : ∀ j, j < n * 5 → w.frozen? ⟨b, o + j, none⟩ = false) :
    (Builtin.clear_ #[38] ty #[.slice (some ⟨b, o, none⟩) n c]).run Try.prog w = .ok (.tuple #[]) (w.setCells b o (zeroF n)) := by
  have hst := run_storeCells_cells (P := Try.prog) b o (zeroF n) 0 w (by rw [zeroF_len]; simpa using hc) (by rw [zeroF_len]; simpa using hf) (zeroF_one n)
  simp only [Nat.add_zero] at hst
  have hz := Try.zeroValue40
  obtain ⟨m, rfl⟩ : ∃ m, n = m + 1 := ⟨n - 1, by omega⟩
  have hzc : (Builtin.zeroCells (Value.agg #[.int .i64 0, .int .i64 0, .int .i64 0, .int .i64 0, .bool false]).cells (m + 1)).toList = zeroF (m + 1) := rfl
  simp [Builtin.clear_, run_underlying Try.underlying38, hz, hzc, hst]
/-- Where the loop stands: what is kept ahead of i, what came from j on. -/
def FilK (dead : Pl → Bool) (l L : List Pl) (i j : Nat) : Prop := L.length = l.length ∧ L.take i = keepK dead (l.take j) ∧ L.drop j = l.drop j
theorem keep_takeF (dead : Pl → Bool) (l : List Pl) (j : Nat) (hj : j < l.length) : keepK dead (l.take (j + 1)) = keepK dead (l.take j) ++ (if dead (l.getD j pl0) then [] else [l.getD j pl0]) := by
  have e : l.getD j pl0 = l[j] := by simp [List.getD_eq_getElem?_getD, List.getElem?_eq_getElem hj]
  rw [List.take_succ_eq_append_getElem hj, e]
  unfold keepK
  rw [List.filter_append]
  congr 1
  cases h : dead l[j] <;> simp [h]
theorem drop_atF (l L : List Pl) (j : Nat) (h : L.drop j = l.drop j) (k : Nat) (hk : j ≤ k) : L.getD k pl0 = l.getD k pl0 := by
  have e := congrArg (fun z => z[k - j]?) h
  simp only [List.getElem?_drop] at e
  rw [show j + (k - j) = k by omega] at e
  simp only [List.getD_eq_getElem?_getD, e]
theorem fil_lateF {dead : Pl → Bool} {l L : List Pl} {i j : Nat} (h : FilK dead l L i j) (hj : j < l.length) (hl : dead (l.getD j pl0) = true) : FilK dead l L i (j + 1) := by
  refine ⟨h.1, by rw [keep_takeF dead l j hj, if_pos hl, List.append_nil]; exact h.2.1, ?_⟩
  rw [← List.drop_drop, ← List.drop_drop, h.2.2]
theorem fil_keepF {dead : Pl → Bool} {l L : List Pl} {i j : Nat} (h : FilK dead l L i j) (hi : i < j) (hj : j < l.length) (hl : dead (l.getD j pl0) = false) : FilK dead l (L.set i (l.getD j pl0)) (i + 1) (j + 1) := by
  have hL := h.1
  refine ⟨by rw [List.length_set]; exact hL, ?_, ?_⟩
  · rw [keep_takeF dead l j hj, hl, ← h.2.1]
    rw [List.take_succ_eq_append_getElem (by rw [List.length_set]; omega), List.take_set_of_le (Nat.le_refl _)]
    simp
  · rw [List.drop_set_of_lt (by omega), ← List.drop_drop, ← List.drop_drop, h.2.2]
theorem fil_endF {dead : Pl → Bool} {l L : List Pl} {i : Nat} (h : FilK dead l L i l.length) : L.take i = keepK dead l := by rw [h.2.1, List.take_length]
theorem fil_startF (dead : Pl → Bool) (l : List Pl) (h : firstK dead l < l.length) : FilK dead l l (firstK dead l) (firstK dead l + 1) := by
  refine ⟨rfl, ?_, rfl⟩
  induction l with
  | nil => simp at h
  | cons a l ih =>
    cases hl : dead a with
    | true => simp [firstK, keepK, hl]
    | false =>
      have e : firstK dead (a :: l) = firstK dead l + 1 := by simp [firstK, hl]
      rw [e] at h ⊢
      rw [List.take_succ_cons, ih (by simpa using h), List.take_succ_cons]
      simp [keepK, hl]
theorem keep_noneF (dead : Pl → Bool) (l : List Pl) (h : ¬ firstK dead l < l.length) : keepK dead l = l := by
  induction l with
  | nil => rfl
  | cons a l ih =>
    cases hl : dead a with
    | true => simp [firstK, hl] at h
    | false =>
      have e : firstK dead (a :: l) = firstK dead l + 1 := by simp [firstK, hl]
      rw [e] at h
      have := ih (by simpa using h)
      simp only [keepK, List.filter_cons, hl, Bool.not_false, if_true] at this ⊢
      rw [this]
/-- A row of slots that is one of the program's own, by its block. -/
structure RowF (w : World) (base g c : Nat) (l : List Pl) : Prop where
  own : OwnL 40 w base (some ⟨g, 0, none⟩) c l
theorem RowF.cell {w : World} {base g c : Nat} {l : List Pl} (h : RowF w base g c l) (k : Nat) (hk : k < l.length) : PlCells w g (k * 5) (l.getD k pl0) := by
  obtain ⟨b, off, e, _, p⟩ := h.own.at_ k hk
  injection e with e
  injection e with e1 e2
  subst e1 e2
  rwa [Nat.zero_add] at p
theorem own_setkF {w : World} {base g n c size : Nat} {e : TypeId} {xs : List Value} (h : w.ownsRow base e size (.slice (some ⟨g, 0, none⟩) n c) n xs) (j : Nat) (u : Value) : (w.setCell ⟨g, j, none⟩ u).ownsRow base e size (.slice (some ⟨g, 0, none⟩) n c) n (xs.set j u) := by
  refine ⟨by rw [List.length_set]; exact h.1, .inr ?_⟩
  rcases h.2 with ⟨h, _⟩ | ⟨g', cap, cur, he, hb, hg, hn, hm, hs, ht⟩
  · cases h
  · injection he with e1 e2 e3
    injection e1 with e1
    injection e1 with e1
    subst e1 e3
    refine ⟨g, c, cur.setIfInBounds j u, rfl, hb, ?_, hn, hm, by simpa using hs, ?_⟩
    · simp [World.setCell, Array.getElem?_modify, hg]
    · rw [Array.toList_setIfInBounds, List.take_set, ht]
theorem plL_put (l : List Pl) (i : Nat) (x : Pl) (hi : i < l.length) : plL (l.set i x) = (((((plL l).set (i * 5) (.int .i64 x.v)).set (i * 5 + 1) (.int .i64 x.m)).set (i * 5 + 2) (.int .i64 x.p)).set (i * 5 + 3) (.int .i64 x.s)).set (i * 5 + 4) (.bool x.st) := by
  induction l generalizing i with
  | nil => simp at hi
  | cons a l ih =>
    cases i with
    | zero => simp [plL, Pl.cells]
    | succ i =>
      have e : a.cells.length = 5 := rfl
      have s : ∀ (L : List Value) (j : Nat) (u : Value), (a.cells ++ L).set ((i + 1) * 5 + j) u = a.cells ++ L.set (i * 5 + j) u := fun L j u => by
        rw [List.set_append_right _ _ (by omega), e, show (i + 1) * 5 + j - 5 = i * 5 + j by omega]
      rw [List.set_cons_succ, plL, ih i (by simpa using hi), plL]
      rw [show (a.cells ++ plL l).set ((i + 1) * 5) (.int .i64 x.v) = a.cells ++ (plL l).set (i * 5) (.int .i64 x.v) from s _ 0 _, s, s, s, s]
def putF (w : World) (g i : Nat) (x : Pl) : World := ((((w.setCell ⟨g, i * 5, none⟩ (.int .i64 x.v)).setCell ⟨g, i * 5 + 1, none⟩ (.int .i64 x.m)).setCell ⟨g, i * 5 + 2, none⟩ (.int .i64 x.p)).setCell ⟨g, i * 5 + 3, none⟩ (.int .i64 x.s)).setCell ⟨g, i * 5 + 4, none⟩ (.bool x.st)
theorem RowF.set_ {w : World} {base g c : Nat} {l : List Pl} (h : RowF w base g c l) (i : Nat) (x : Pl) (hi : i < l.length) : RowF (putF w g i x) base g c (l.set i x) := by
  have h1 := own_setkF (own_setkF (own_setkF (own_setkF (own_setkF h.own (i * 5) (.int .i64 x.v)) (i * 5 + 1) (.int .i64 x.m)) (i * 5 + 2) (.int .i64 x.p)) (i * 5 + 3) (.int .i64 x.s)) (i * 5 + 4) (.bool x.st)
  refine ⟨?_⟩
  unfold OwnL
  rw [List.length_set, plL_put l i x hi]
  exact h1
theorem putF_touch {w0 w : World} {g i : Nat} {x : Pl} (h : Touch (· = g) w0 w) : Touch (· = g) w0 (putF w g i x) := ((((h.set_ (fun _ => rfl) _).set_ (fun _ => rfl) _).set_ (fun _ => rfl) _).set_ (fun _ => rfl) _).set_ (fun _ => rfl) _
theorem RowF.below {w w' : World} {base g c : Nat} {l : List Pl} (h : RowF w base g c l) (b : Below w.heap.size w w') : RowF w' base g c l :=
  ⟨own_heap h.own fun k hk => b.block k (World.ownsRow.lt h.own k hk).2⟩
theorem row_cutF {w : World} {base g c i : Nat} {L : List Pl} (h : RowF w base g c L) (hi : i ≤ L.length) (vs : List Value) : OwnL 40 (w.setCells g (i * 5) vs) base (some ⟨g, 0, none⟩) c (L.take i) := by
  have hc := (own_cap h.own).1
  have hl : (L.take i).length = i := by rw [List.length_take]; omega
  rcases h.own.2 with ⟨e0, _⟩ | ⟨g', cap', cur, e0, hb, hg, hn', hm, hs, ht⟩
  · cases e0
  · injection e0 with e1 _ e3
    injection e1 with e1
    injection e1 with e1
    subst e1 e3
    obtain ⟨c2, h2, z2⟩ := setCells_blk g vs (i * 5) w cur hg
    refine own_of_cells h2 hb (by omega) (by rw [hl]; omega) hm (by rw [plL_len]) (fun j u hu => ?_)
    rw [plL_take, List.getElem?_take] at hu
    split at hu
    · rename_i hj
      rw [World.cell?_setCells_out g _ _ _ _ (fun _ _ => Or.inl hj)]
      have := h.own.cells (g := g) rfl j u hu
      rwa [Addr.add_lit, Nat.zero_add] at this
    · cases hu
set_option maxRecDepth 100000 in
set_option maxHeartbeats 4000000 in
theorem delf_any {Ok : World → Prop} {bs : Nat} {dead : Pl → Bool} (hP : PredF Ok bs dead) (A : Option Addr) (c : Nat) (l : List Pl) (base : Nat) (w : World) (h : OwnL 40 w base A c l) (hn : l.length ≤ 1048000) (hq : Ok w) (hT : ∀ W W' : World, Ok W → Touch (fun k => (Value.slice A l.length c).ownBlock = some k) W W' → Ok W') :
    Calls Try.prog 35 #[.slice A l.length c, .func (.func 36) #[] #[.pointer (some ⟨bs, 0, none⟩)]] w fun e w' =>
      e = .returned (.slice A (keepK dead l).length c) ∧ OwnL 40 w' base A c (keepK dead l) ∧ Touch (fun k => (Value.slice A l.length c).ownBlock = some k) w w' := by
  have HIX := Lib.hid (index_dead hP A c l w h.at_ hn hq)
  by_cases hf : firstK dead l < l.length
  · obtain ⟨g, cap, e, hbg, hlg⟩ := h.form (show 0 < l.length by omega)
    injection e with e1 _ e3
    subst e1 e3
    have hix : idxK dead l = (firstK dead l : Int) := by unfold idxK; rw [if_pos hf]
    rw [hix] at HIX
    have hfil := fil_startF dead l hf
    obtain ⟨i0, hi0⟩ : ∃ i, firstK dead l = i := ⟨_, rfl⟩
    rw [hi0] at HIX hfil hf
    have hrow : RowF w base g c l := ⟨h⟩
    have hgq : ∀ W' : World, Touch (· = g) w W' → Ok W' := fun W' ht => hT w W' hq (ht.mono fun k _ hk => by rw [hk]; rfl)
    have hcap := (own_cap h).1
    obtain ⟨n, hnn⟩ : ∃ n, l.length = n := ⟨_, rfl⟩
    have HN := Lib.hid hnn
    have HN5 := Lib.hid hn
    have HGB := Lib.hid hgq
    have HR0 := Lib.hid (And.intro hrow hq)
    have HP := Lib.hid hP
    have HF0 := Lib.hid hfil
    have HCAP := Lib.hid hcap
    have HLG := Lib.hid hlg
    have HF := Lib.hid hf
    have i1 : ((i0 : Int) == -1) = false := by rw [beq_eq_false_iff_ne]; omega
    have i2 : (0 : Int) ≤ i0 := by omega
    have i3 : wrap64 ((i0 : Int) + 1) = (i0 : Int) + 1 := IntWalk.wrap64_in _ (by omega)
    rw [hnn] at HIX ⊢
    clear h hn hq hT hP hix hfil hi0 hrow hgq hcap hnn hbg hlg hf
    go_enter Try.func35, Try.ntmps35
    go_wp2_with fail
    refine HIX.out.mono ?_
    rintro e w1 ⟨rfl, b1⟩
    have HB1 := Lib.hid b1
    clear b1
    go_wp2_with fail
    rw [i3]
    clear i3
    go_loopw [5, 6] (fun iv jv wr => ∃ i j : Nat, iv = .int .i64 i ∧ jv = .int .i64 j ∧ i < j ∧ j ≤ n ∧ Hid (∃ L, FilK dead l L i j ∧ RowF wr base g c L ∧ Touch (· = g) w wr)) (fun _ jv _ => n - (intOf jv).toNat)
    case atStart => exact ⟨i0, i0 + 1, rfl, by rw [Int.natCast_add]; rfl, by omega, by have := HF.out; have := HN.out; omega, Lib.hid ⟨l, HF0.out, HR0.out.1.below HB1.out, (Below.touch HB1.out).mono (fun k hk hp => absurd hp (by omega))⟩⟩
    case round =>
      obtain ⟨i, j, rfl, rfl, hij, hj, hL⟩ := hrel
      by_cases hlt : j < n
      · obtain ⟨L, hfl, hrw, ht⟩ := hL.out
        have hLl : L.length = n := hfl.1.trans HN.out
        obtain ⟨x, hx⟩ : ∃ x, l.getD j pl0 = x := ⟨_, rfl⟩
        have hLx : L.getD j pl0 = x := (drop_atF l L j hfl.2.2 j (Nat.le_refl _)).trans hx
        have q := hrw.cell j (by omega)
        rw [hLx] at q
        have q0 := q.c0
        have q1 := q.c1
        have q2 := q.c2
        have q3 := q.c3
        have q4 := q.c4
        have hq1 := HGB.out _ ht
        have hcl := HP.out.call _ x (HP.out.below _ _ hq1 ((Below.refl wr.heap.size wr).alloc (Nat.le_refl _) (.cells #[.int .i64 x.v, .int .i64 x.m, .int .i64 x.p, .int .i64 x.s, .bool x.st] 40)))
        have bal := (Below.refl wr.heap.size wr).alloc (Nat.le_refl _) (.cells #[.int .i64 x.v, .int .i64 x.m, .int .i64 x.p, .int .i64 x.s, .bool x.st] 40)
        have zx := Blk.new wr 40 #[.int .i64 x.v, .int .i64 x.m, .int .i64 x.p, .int .i64 x.s, .bool x.st]
        have j1 : (j : Int) < n := by omega
        have j0 : (0 : Int) ≤ j := by omega
        have k0 : (0 : Int) ≤ i := by omega
        have k1 : (i : Int) < n := by omega
        have HJ := Lib.hid (show wrap64 ((j : Int) + 1) = (j : Int) + 1 from IntWalk.wrap64_in _ (by have := HN5.out; have := HN.out; omega))
        have HI := Lib.hid (show wrap64 ((i : Int) + 1) = (i : Int) + 1 from IntWalk.wrap64_in _ (by have := HN5.out; have := HN.out; omega))
        have HST := Lib.hid (And.intro hfl (And.intro hrw (And.intro ht (And.intro hLl hx))))
        have HAL := Lib.hid (And.intro bal zx)
        clear hfl hrw ht hLl hx hLx bal zx hL q hq1
        cases hlb : dead x with
        | true =>
          rw [hlb] at hcl
          have HCL := Lib.hid hcl
          have HLB := Lib.hid hlb
          have jw := HJ.out
          clear hcl hlb
          go_wp2_with fail
          refine HCL.out.mono ?_
          rintro e w2 ⟨rfl, b2⟩
          have b3 : Below wr.heap.size wr w2 := HAL.out.1.trans (b2.mono HAL.out.1.size)
          have HB3 := Lib.hid b3
          clear b2 b3
          go_wp2_with fail
          go_roundw
          case rel =>
            rw [jw]
            refine ⟨i, j + 1, rfl, by rw [Int.natCast_add]; rfl, by omega, hlt, Lib.hid ⟨L, fil_lateF HST.out.1 (by rw [HN.out]; exact hlt) (by rw [HST.out.2.2.2.2]; exact HLB.out), HST.out.2.1.below HB3.out, HST.out.2.2.1.trans ((Below.touch HB3.out).mono (fun k hk hp => absurd hp (by omega)))⟩⟩
          case measure =>
            rw [jw]
            show n - ((j : Int) + 1).toNat < n - ((j : Int)).toNat
            omega
        | false =>
          rw [hlb] at hcl
          have HCL := Lib.hid hcl
          have HLB := Lib.hid hlb
          clear hcl hlb
          go_wp2_with fail
          refine HCL.out.mono ?_
          rintro e w2 ⟨rfl, b2⟩
          have b3 : Below wr.heap.size wr w2 := HAL.out.1.trans (b2.mono HAL.out.1.size)
          have zx2 := HAL.out.2.below b2 HAL.out.2.lt
          have hr2 := HST.out.2.1.below b3
          have x0 := zx2.cell 0
          have x1 := zx2.cell 1
          have x2 := zx2.cell 2
          have x3 := zx2.cell 3
          have x4 := zx2.cell 4
          have kc := hr2.cell i (by rw [HST.out.2.2.2.1]; omega)
          have c0 := kc.c0
          have c1 := kc.c1
          have c2 := kc.c2
          have c3 := kc.c3
          have c4 := kc.c4
          have f0 : w2.frozen? ⟨g, i * 5, none⟩ = false := hr2.own.frozenAt (i * 5)
          have f1 : w2.frozen? ⟨g, i * 5 + 1, none⟩ = false := hr2.own.frozenAt (i * 5 + 1)
          have f2 : w2.frozen? ⟨g, i * 5 + 2, none⟩ = false := hr2.own.frozenAt (i * 5 + 2)
          have f3 : w2.frozen? ⟨g, i * 5 + 3, none⟩ = false := hr2.own.frozenAt (i * 5 + 3)
          have f4 : w2.frozen? ⟨g, i * 5 + 4, none⟩ = false := hr2.own.frozenAt (i * 5 + 4)
          have HB3 := Lib.hid b3
          have HR2 := Lib.hid hr2
          have jw := HJ.out
          have iw := HI.out
          clear b2 b3 zx2 hr2 kc
          go_wp2_with fail
          go_roundw
          case rel =>
            rw [iw, jw]
            refine ⟨i + 1, j + 1, by rw [Int.natCast_add]; rfl, by rw [Int.natCast_add]; rfl, by omega, hlt, Lib.hid ⟨_, ?_, HR2.out.set_ i x (by rw [HST.out.2.2.2.1]; omega), ?_⟩⟩
            · have := fil_keepF HST.out.1 hij (by rw [HN.out]; exact hlt) (by rw [HST.out.2.2.2.2]; exact HLB.out)
              rw [HST.out.2.2.2.2] at this
              exact this
            · exact putF_touch (HST.out.2.2.1.trans ((Below.touch HB3.out).mono (fun k hk hp => absurd hp (by omega))))
          case measure =>
            rw [jw]
            show n - ((j : Int) + 1).toNat < n - ((j : Int)).toNat
            omega
      · obtain rfl : n = j := by omega
        obtain ⟨L, hfl, hrw, ht⟩ := hL.out
        have hLl : L.length = n := hfl.1.trans HN.out
        have hkeep : L.take i = keepK dead l := fil_endF (by rw [HN.out]; exact hfl)
        have hcut := row_cutF hrw (show i ≤ L.length by omega) (zeroF (n - i))
        rw [hkeep] at hcut
        have hkl : (keepK dead l).length = i := by rw [← hkeep, List.length_take]; omega
        have hsome : ∀ q, q < (n - i) * 5 → (wr.cell? ⟨g, i * 5 + q, none⟩).isSome = true := fun q hq => by
          have h1 : i * 5 + q = (i * 5 + q) / 5 * 5 + (i * 5 + q) % 5 := by omega
          have h2 := hrw.cell ((i * 5 + q) / 5) (by omega)
          have h3 : (i * 5 + q) % 5 = 0 ∨ (i * 5 + q) % 5 = 1 ∨ (i * 5 + q) % 5 = 2 ∨ (i * 5 + q) % 5 = 3 ∨ (i * 5 + q) % 5 = 4 := by omega
          rcases h3 with h3 | h3 | h3 | h3 | h3
          · rw [h1, h3, Nat.add_zero, h2.c0]; rfl
          · rw [h1, h3, h2.c1]; rfl
          · rw [h1, h3, h2.c2]; rfl
          · rw [h1, h3, h2.c3]; rfl
          · rw [h1, h3, h2.c4]; rfl
        have hcl : ∀ ty, (Builtin.clear_ #[38] ty #[.slice (some ⟨g, i * 5, none⟩) (n - i) (c - i)]).run Try.prog wr = .ok (.tuple #[]) (wr.setCells g (i * 5) (zeroF (n - i))) := fun ty =>
          run_clear_f wr ty g (i * 5) (n - i) (c - i) (by omega) hsome (fun q hq => hrw.own.frozenAt (i * 5 + q))
        have HEND := Lib.hid (And.intro hcut (ht.trans (setCells_touch g (zeroF (n - i)) (i * 5) wr)))
        have HKL := Lib.hid hkl
        have b1 : ¬ (c = i) := by have := HCAP.out; have := HN.out; omega
        have b2 : (0 : Int) ≤ i := by omega
        have b3 : (i : Int) ≤ n := by omega
        have b4 : (i : Int) ≤ c := by have := HCAP.out; have := HN.out; omega
        clear hfl hrw ht hLl hkeep hcut hkl hsome hL hj hlt hij i1 i2
        go_wp2_with (simp only [hcl])
        go_ret
        exact ⟨by rw [HKL.out]; rfl, HEND.out.1, HEND.out.2.mono (fun k _ hk => by rw [hk]; rfl)⟩
  · have hix : idxK dead l = -1 := by unfold idxK; rw [if_neg hf]
    rw [hix] at HIX
    have hk := keep_noneF dead l hf
    rw [hk]
    have HO := Lib.hid h
    clear hix hk h hq hn hf hT hP
    go_enter Try.func35, Try.ntmps35
    go_wp2_with fail
    refine HIX.out.mono ?_
    rintro e w1 ⟨rfl, b1⟩
    have HB := Lib.hid b1
    clear b1
    go_wp2_with fail
    go_ret
    exact ⟨rfl, own_heap HO.out fun k hk => HB.out.block k (World.ownsRow.lt HO.out k hk).2, (Below.touch HB.out).mono (fun k hk hp => absurd hp (by omega))⟩
end Go.Proofs.Ytocahiifeckogaa
