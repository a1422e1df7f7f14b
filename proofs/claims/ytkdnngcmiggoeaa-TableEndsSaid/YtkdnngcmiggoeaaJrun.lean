/- Run: the cells by events, one by one. Its condition: fewer than 2^20 events. -/
import Derived.Test.YtkdnngcmiggoeaaJtab
import Derived.Test.YtkdnngcmiggoeaaOwn
namespace Go.Proofs.Ytkdnngcmiggoeaa
open Go.RowKit
set_option maxRecDepth 100000

/-- Numbers that lie in a row. -/
def EvAt (w : World) (B : Nat) (A : Option Addr) (l : List Int) : Prop := ∀ k, k < l.length → ∃ b off, A = some ⟨b, off, none⟩ ∧ b < B ∧ w.cell? ⟨b, off + k, none⟩ = some (.int .i64 (l.getD k 0))
theorem EvAt.below {w w' : World} {B : Nat} {A : Option Addr} {l : List Int} (h : EvAt w B A l) (hb : Below B w w') : EvAt w' B A l := fun k hk => by
  obtain ⟨b, off, e, hl, hc⟩ := h k hk
  exact ⟨b, off, e, hl, (hb.cell (p := ⟨b, off + k, none⟩) hl).trans hc⟩
theorem EvAt.more {w : World} {B B' : Nat} {A : Option Addr} {l : List Int} (h : EvAt w B A l) (hB : B ≤ B') : EvAt w B' A l := fun k hk => by
  obtain ⟨b, off, e, hl, hc⟩ := h k hk
  exact ⟨b, off, e, by omega, hc⟩
theorem ceL_append (l m : List Ce) : cesL (l ++ m) = cesL l ++ cesL m := by
  induction l with
  | nil => rfl
  | cons a l ih => simp [cesL, ih]
theorem ceL_length (l : List Ce) : (cesL l).length = l.length * 2 := by
  induction l with
  | nil => rfl
  | cons a l ih => simp [cesL, ih]; omega
theorem ceL_one (l : List Ce) : ∀ u ∈ cesL l, u.oneCell' = true := by
  induction l with
  | nil => simp [cesL]
  | cons a l ih =>
    intro u hu
    simp only [cesL, List.mem_cons] at hu
    rcases hu with rfl | rfl | hu
    · rfl
    · rfl
    · exact ih u hu
theorem ce_info : (Try.prog.info? 56).map (fun i => (i.zero, i.size, i.bytes)) = some (some (.agg #[.int .i64 0, .int .i64 0]), 2, 16) := by kernel_rfl
def OwnC (w : World) (base : Nat) (A : Option Addr) (c : Nat) (l : List Ce) : Prop := w.ownsRow base 56 2 (.slice A l.length c) l.length (cesL l)
theorem append_ce (w : World) (base : Nat) (A0 : Option Addr) (c0 n0 : Nat) (l : List Ce) (hl0 : l.length = n0) (hown : OwnC w base A0 c0 l) (A : Option Addr) (m c : Nat) (l2 : List Ce) (hl2 : l2.length = m) (hnone : A = none → c = 0) (hsrc : CrAt w w.heap.size A l2) (hn : l.length + m ≤ 1048576) (hbase : base ≤ w.heap.size) :
    ∃ a' c' w', (Builtin.append_ #[54, 54] 54 #[.slice A0 n0 c0, .slice A m c]).run Try.prog w = .ok (.slice a' (n0 + m) c') w' ∧ OwnC w' base a' c' (l ++ l2) ∧ w.grownBy w' (Value.slice A0 n0 c0).ownBlock := by
  subst hl0 hl2
  obtain ⟨i0, hi0, hz0, hz1, hz2⟩ := info_parts ce_info
  obtain ⟨a', c', w', hr, ho, hgr, _, _⟩ := append_src w base 54 54 56 i0 _ 2 16 Try.underlying54 hi0 hz0 hz1 hz2 rfl (by decide) _ l.length (cesL l) hown A l2.length c (cesL l2) (ceL_length l2) hnone
    (fun hpos => by
      obtain ⟨b, off, e, _, _⟩ := hsrc 0 hpos
      refine ⟨b, off, e, fun j u hu => ?_⟩
      have hj : j < l2.length * 2 := by rw [← ceL_length]; exact (List.getElem?_eq_some_iff.1 hu).1
      obtain ⟨b', off', e', _, p, q⟩ := hsrc (j / 2) (by omega)
      rw [e] at e'
      injection e' with e'
      injection e' with e1 e2
      subst e1 e2
      obtain ⟨p', q'⟩ := cesL_at l2 (j / 2) (by omega)
      rcases (show j = j / 2 * 2 ∨ j = j / 2 * 2 + 1 from by omega) with h | h
      · rw [← h] at p' p
        rw [p', Option.some.injEq] at hu
        subst hu
        exact p
      · rw [← h] at q'
        rw [q', Option.some.injEq] at hu
        subst hu
        rw [show off + j = off + j / 2 * 2 + 1 by omega]
        exact q)
    (ceL_one l2) (by unfold maxLen; omega) (by omega) hbase
  refine ⟨a', c', w', hr, ?_, hgr⟩
  unfold OwnC
  rw [ceL_append, List.length_append]
  exact ho
def endT (t : Tb) : Int → List Int → Int
  | s, [] => s
  | s, e :: es => match cellT t s e with
    | some c => endT t c.1 es
    | none => endT t s es
theorem runT_append (t : Tb) (s : Int) (a b : List Int) : runT t s (a ++ b) = runT t s a ++ runT t (endT t s a) b := by
  induction a generalizing s with
  | nil => rfl
  | cons e a ih =>
    simp only [List.cons_append, runT, endT]
    cases cellT t s e with
    | none => exact ih s
    | some c => simp only [ih, List.cons_append]
theorem endT_append (t : Tb) (s : Int) (a b : List Int) : endT t s (a ++ b) = endT t (endT t s a) b := by
  induction a generalizing s with
  | nil => rfl
  | cons e a ih =>
    simp only [List.cons_append, endT]
    cases cellT t s e with
    | none => exact ih s
    | some c => exact ih c.1
theorem runT_le (t : Tb) (s : Int) (a : List Int) : (runT t s a).length ≤ a.length := by
  induction a generalizing s with
  | nil => exact Nat.le_refl _
  | cons e a ih =>
    simp only [runT]
    cases cellT t s e with
    | none => exact Nat.le_trans (ih s) (Nat.le_succ _)
    | some c => simp only [List.length_cons]; have := ih c.1; omega
theorem take_ev (es : List Int) (j : Nat) (h : j < es.length) : es.take (j + 1) = es.take j ++ [es.getD j 0] := by
  rw [List.take_add_one, List.getElem?_eq_getElem h, List.getD_eq_getElem?_getD, List.getElem?_eq_getElem h]
  rfl
theorem run_some {t : Tb} {s : Int} {es : List Int} {j : Nat} (h : j < es.length) {c : Ce} (hc : cellT t (endT t s (es.take j)) (es.getD j 0) = some c) : runT t s (es.take (j + 1)) = runT t s (es.take j) ++ [c] ∧ endT t s (es.take (j + 1)) = c.1 := by
  rw [take_ev es j h, runT_append, endT_append]
  simp only [runT, endT, hc, and_self]
theorem run_none {t : Tb} {s : Int} {es : List Int} {j : Nat} (h : j < es.length) (hc : cellT t (endT t s (es.take j)) (es.getD j 0) = none) : runT t s (es.take (j + 1)) = runT t s (es.take j) ∧ endT t s (es.take (j + 1)) = endT t s (es.take j) := by
  rw [take_ev es j h, runT_append, endT_append]
  simp only [runT, endT, hc, List.append_nil, and_self]
set_option maxHeartbeats 2000000 in
theorem run_any (w : World) (A : Option Addr) (c : Nat) (t : Tb) (s : Int) (A2 : Option Addr) (c2 : Nat) (es : List Int) (ht : TbAt w w.heap.size A t) (he : EvAt w w.heap.size A2 es) (hl : es.length ≤ 1048000) :
    Calls Try.prog 27 #[.slice A t.length c, .int .i64 s, .slice A2 es.length c2] w fun e w' => ∃ A' c', e = .returned (.slice A' (runT t s es).length c') ∧ OwnC w' w.heap.size A' c' (runT t s es) ∧ Below w.heap.size w w' := by
  obtain ⟨n, hn⟩ : ∃ n, es.length = n := ⟨_, rfl⟩
  obtain ⟨tn, htn⟩ : ∃ tn, t.length = tn := ⟨_, rfl⟩
  have hat := fun (s e : Int) (w0 : World) (hb : Below w.heap.size w w0) => at_any A c t s e w0 ((ht.below hb).more hb.size)
  rw [htn] at hat ⊢
  rw [hn] at hl ⊢
  have HAT := Lib.hid hat
  have HE := Lib.hid he
  have HN := Lib.hid hn
  have HL := Lib.hid hl
  clear hat he hn hl ht htn
  go_enter Try.func27, Try.ntmps27
  go_wp2_with fail
  go_loopw [1, 7, 14] (fun sv cv iv wr => ∃ (j m : Nat) (s1 : Int) (A1 : Option Addr) (c1 : Nat), j ≤ n ∧ iv = .int .i64 j ∧ sv = .int .i64 s1 ∧ cv = .slice A1 m c1 ∧ Hid (endT t s (es.take j) = s1 ∧ (runT t s (es.take j)).length = m ∧ OwnC wr w.heap.size A1 c1 (runT t s (es.take j)) ∧ Below w.heap.size w wr)) (fun _ _ iv _ => n - (intOf iv).toNat)
  case atStart => exact ⟨0, 0, s, none, 0, Nat.zero_le _, rfl, rfl, rfl, Lib.hid ⟨rfl, rfl, World.ownsRow_nil _ _ _ _, Below.refl _ _⟩⟩
  case round =>
    obtain ⟨j, m, s1, A1, c1, hj, rfl, rfl, rfl, hS⟩ := hrel
    by_cases hlt : j < n
    · have j1 : (j : Int) < n := by omega
      have j0 : (0 : Int) ≤ j := by omega
      have HJ := Lib.hid (show wrap64 ((j : Int) + 1) = (j : Int) + 1 from IntWalk.wrap64_in _ (by have := HL.out; omega))
      obtain ⟨b, off, rfl, hbl, p⟩ := HE.out j (by rw [HN.out]; exact hlt)
      obtain ⟨ev, hev⟩ : ∃ ev, es.getD j 0 = ev := ⟨_, rfl⟩
      rw [hev] at p
      have q := (hS.out.2.2.2.cell (p := ⟨b, off + j, none⟩) hbl).trans p
      have hc := HAT.out s1 ev wr hS.out.2.2.2
      have hm : m ≤ 1048000 := by
        have h1 := runT_le t s (es.take j)
        have h2 := hS.out.2.1
        have h3 := HL.out
        rw [List.length_take] at h1
        omega
      clear p hbl
      cases hce : cellT t s1 ev with
      | none =>
        rw [atV_none hce] at hc
        obtain ⟨e1, e2⟩ := run_none (t := t) (s := s) (es := es) (j := j) (by rw [HN.out]; exact hlt) (by rw [hS.out.1, hev]; exact hce)
        have HC := Lib.hid hc
        have HX := Lib.hid (And.intro e1 e2)
        clear hc e1 e2 hce hev
        go_wp2_with fail
        refine HC.out.mono ?_
        rintro r w1 ⟨rfl, b1⟩
        have hb := hS.out.2.2.2.trans (b1.mono hS.out.2.2.2.size)
        have HB := Lib.hid hb
        have HO := Lib.hid (show OwnC w1 w.heap.size A1 c1 (runT t s (es.take j)) from own_heap hS.out.2.2.1 fun k hk => b1.block k (World.ownsRow.lt hS.out.2.2.1 k hk).2)
        clear b1 hb
        go_wp2_with fail
        go_roundw
        case rel =>
          rw [HJ.out]
          exact ⟨j + 1, m, s1, A1, c1, hlt, by rw [Int.natCast_add]; rfl, rfl, rfl, Lib.hid ⟨by rw [HX.out.2, hS.out.1], by rw [HX.out.1, hS.out.2.1], by rw [HX.out.1]; exact HO.out.alloc _, HB.out.alloc HB.out.size _⟩⟩
        case measure =>
          rw [HJ.out]
          show n - ((j : Int) + 1).toNat < n - ((j : Int)).toNat
          omega
      | some x =>
        rw [atV_some hce] at hc
        obtain ⟨x0, x1⟩ := x
        obtain ⟨e1, e2⟩ := run_some (t := t) (s := s) (es := es) (j := j) (by rw [HN.out]; exact hlt) (c := (x0, x1)) (by rw [hS.out.1, hev]; exact hce)
        have HC := Lib.hid hc
        have HX := Lib.hid (And.intro e1 e2)
        clear hc e1 e2 hce hev
        go_wp2_with fail
        refine HC.out.mono ?_
        rintro r w1 ⟨rfl, b1⟩
        have hb := hS.out.2.2.2.trans (b1.mono hS.out.2.2.2.size)
        have ho : OwnC w1 w.heap.size A1 c1 (runT t s (es.take j)) := own_heap hS.out.2.2.1 fun k hk => b1.block k (World.ownsRow.lt hS.out.2.2.1 k hk).2
        have hap : ∃ a' c' w3, (Builtin.append_ #[54, 54] 54 #[.slice A1 m c1, .slice (some ⟨w1.heap.size + 1, 0, none⟩) 1 1]).run Try.prog ((w1.alloc (.cells #[.int .i64 x0, .int .i64 x1] 56)).alloc (.cells #[.int .i64 x0, .int .i64 x1] 56)) = .ok (.slice a' (m + 1) c') w3 ∧
            Hid (OwnC w3 w.heap.size a' c' (runT t s (es.take (j + 1))) ∧ Below w.heap.size w w3 ∧ w3.cell? ⟨w1.heap.size, 0, none⟩ = some (.int .i64 x0) ∧ w3.cell? ⟨w1.heap.size, 1, none⟩ = some (.int .i64 x1) ∧ (runT t s (es.take (j + 1))).length = m + 1) := by
          have o2 : OwnC ((w1.alloc (.cells #[.int .i64 x0, .int .i64 x1] 56)).alloc (.cells #[.int .i64 x0, .int .i64 x1] 56)) w.heap.size A1 c1 (runT t s (es.take j)) := World.ownsRow.alloc (World.ownsRow.alloc ho _) _
          have hb1 := Blk.new (w1.alloc (.cells #[.int .i64 x0, .int .i64 x1] 56)) 56 #[.int .i64 x0, .int .i64 x1]
          rw [show (w1.alloc (.cells #[.int .i64 x0, .int .i64 x1] 56)).heap.size = w1.heap.size + 1 by simp] at hb1
          have hb0 := (Blk.new w1 56 #[.int .i64 x0, .int .i64 x1]).alloc (.cells #[.int .i64 x0, .int .i64 x1] 56)
          have hbe := hb.trans ((bel_alloc2 w1 (.cells #[.int .i64 x0, .int .i64 x1] 56) (.cells #[.int .i64 x0, .int .i64 x1] 56)).mono hb.size)
          obtain ⟨a', c', w3, hr, ho3, hg⟩ := append_ce _ w.heap.size A1 c1 m (runT t s (es.take j)) hS.out.2.1 o2 (some ⟨w1.heap.size + 1, 0, none⟩) 1 1 [(x0, x1)] rfl (fun h => by cases h) (CrAt.of_blk hb1 hb1.lt rfl) (by rw [hS.out.2.1]; omega) hbe.size
          have hk : ∀ k, (Value.slice A1 m c1).ownBlock = some k → k ≠ w1.heap.size := fun k hk => by
            have := (World.ownsRow.lt ho k (by rw [hS.out.2.1]; exact hk)).2
            omega
          have hb3 : Blk w3 w1.heap.size 56 #[.int .i64 x0, .int .i64 x1] := (hg.block _ hb0.lt (fun e => hk _ e.symm rfl)).trans hb0
          have o2' := o2
          unfold OwnC at o2'
          rw [hS.out.2.1] at o2'
          refine ⟨a', c', w3, hr, Lib.hid ⟨?_, hbe.trans (bel_own o2' hg (Nat.le_refl _) hbe.size), hb3.cell 0, hb3.cell 1, ?_⟩⟩
          · rw [HX.out.1]; exact ho3
          · rw [HX.out.1, List.length_append, hS.out.2.1]; rfl
        obtain ⟨a', c', w3, hr, HE3⟩ := hap
        have HR := Lib.hid hr
        have q0 := HE3.out.2.2.1
        have q1 := HE3.out.2.2.2.1
        clear b1 hb ho hr hm
        go_wp2_with (at_builtin; refine Lib.wpList_append_run _ rfl _ _ _ _ rfl _ _ rfl rfl _ _ HR.out ?_)
        go_roundw
        case rel =>
          rw [HJ.out]
          exact ⟨j + 1, m + 1, x0, a', c', hlt, by rw [Int.natCast_add]; rfl, rfl, rfl, Lib.hid ⟨HX.out.2, HE3.out.2.2.2.2, HE3.out.1, HE3.out.2.1⟩⟩
        case measure =>
          rw [HJ.out]
          show n - ((j : Int) + 1).toNat < n - ((j : Int)).toNat
          omega
    · obtain rfl : n = j := by omega
      have htk : es.take n = es := List.take_of_length_le (by rw [HN.out]; exact Nat.le_refl _)
      rw [htk] at hS
      clear htk
      go_wp2_with fail
      go_ret
      exact ⟨A1, c1, by rw [hS.out.2.1]; rfl, hS.out.2.2.1, hS.out.2.2.2⟩
end Go.Proofs.Ytkdnngcmiggoeaa
