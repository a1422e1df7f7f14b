/- What stage 19's statements ask first: the ports for the document, the table of places that were learned, the network of a frame. No condition but the reach. -/
import Derived.Test.YtnhnllkcnpbgoaaRlMem
import Derived.Test.YtnhnllkcnpbgoaaFgTop
namespace Go.Proofs.Ytnhnllkcnpbgoaa
open Go.RowKit
set_option maxRecDepth 100000

theorem rpo_info : (Try.prog.info? 38).map (fun i => (i.zero, i.size, i.bytes)) = some (some (.agg #[.int .i64 0, .int .i64 0, .bool false, .slice none 0 0]), 4, 48) := by kernel_rfl
theorem po_info : (Try.prog.info? 42).map (fun i => (i.zero, i.size, i.bytes)) = some (some (.agg #[.int .i64 0, .int .i64 0, .bool false, .slice none 0 0]), 4, 48) := by kernel_rfl
theorem take_px (l : List Px) (j : Nat) (h : j < l.length) : l.take (j + 1) = l.take j ++ [l.getD j px0] := by
  rw [List.take_add_one, List.getD_eq_getElem?_getD, List.getElem?_eq_getElem h]
  rfl
set_option maxHeartbeats 8000000 in
theorem rlplain_any (A : Option Addr) (c : Nat) (l : List Px) (w : World) (hA : PxAt w w.heap.size A l) (hl : l.length * 48 ≤ 140737488351232) :
    Calls Try.prog 6 #[.slice A l.length c] w fun e w' => ((∃ z, e = .returned (.tuple #[z, .bool false])) ∨ (∃ A' c', e = .returned (.tuple #[.slice A' l.length c', .bool true]) ∧ PxAt w' w'.heap.size A' l ∧ l.length ≤ c' ∧ PxFew l)) ∧ Below w.heap.size w w' := by
  obtain ⟨n, hn⟩ : ∃ n, l.length = n := ⟨_, rfl⟩
  have HA := Lib.hid hA
  have HN := Lib.hid (And.intro hn hl)
  rw [hn]
  clear hA hl hn
  go_enter Try.func6, Try.ntmps6
  go_wp2_with fail
  go_loopw [4, 9] (fun pv iv wr => ∃ (j : Nat) (A1 : Option Addr) (c1 : Nat), j ≤ n ∧ iv = .int .i64 j ∧ pv = .slice A1 j c1 ∧ Hid ((OwnPx 38 wr w.heap.size A1 c1 (l.take j) ∧ Below w.heap.size w wr) ∧ ∀ k, k < j → (l.getD k px0).ms.length ≤ 40)) (fun _ iv _ => n - (intOf iv).toNat)
  case atStart => exact ⟨0, none, 0, Nat.zero_le _, rfl, rfl, Lib.hid ⟨⟨World.ownsRow_nil _ _ _ _, Below.refl _ _⟩, fun k hk => absurd hk (Nat.not_lt_zero k)⟩⟩
  case round =>
    obtain ⟨j, A1, c1, hj, rfl, rfl, hS'⟩ := hrel
    have hS := Lib.hid hS'.out.1
    by_cases hlt : j < n
    · have hj' : j < l.length := by rw [HN.out.1]; exact hlt
      have htk := take_px l j hj'
      obtain ⟨⟨b, off, rfl, hbl, hc⟩, hr⟩ := HA.out j hj'
      have hc := hc.below hS.out.2 hbl
      obtain ⟨x, hx⟩ : ∃ x, l.getD j px0 = x := ⟨_, rfl⟩
      have HSM := Lib.hid (And.intro hS'.out.2 hx)
      rw [hx] at hc htk
      obtain ⟨x0, x1, x2, xA, xc, xs⟩ := x
      obtain ⟨xn, hxn⟩ : ∃ xn, xs.length = xn := ⟨_, rfl⟩
      obtain ⟨q0, q1, q2, q3⟩ := hc
      simp only [hxn] at q0 q1 q2 q3
      have HX := Lib.hid hxn
      have hlen : (l.take j).length = j := by rw [List.length_take]; omega
      have j1 : (j : Int) < n := by omega
      have j0 : (0 : Int) ≤ j := by omega
      have HLT := Lib.hid hlt
      have HJ := Lib.hid (show wrap64 ((j : Int) + 1) = (j : Int) + 1 from IntWalk.wrap64_in _ (by have := HN.out.2; have := HN.out.1; omega))
      have HBB := Lib.hid (hS.out.2.trans ((bel_alloc wr (.cells #[.int .i64 x0, .int .i64 x1, .bool x2, .slice xA xn xc] 42)).mono hS.out.2.size))
      by_cases d0 : 40 < (xn : Int)
      · clear hr hbl hx hj hj' htk hlen hxn
        go_wp2_with fail
        go_ret2
        exact ⟨.inl ⟨_, rfl⟩, HBB.out⟩
      · have d0' : (xn : Int) ≤ 40 := by omega
        clear d0
        have o1 : OwnPx 38 (wr.alloc (.cells #[.int .i64 x0, .int .i64 x1, .bool x2, .slice xA xn xc] 42)) w.heap.size A1 c1 (l.take j) := World.ownsRow.alloc hS.out.1 _
        have o2 : OwnPx 38 ((wr.alloc (.cells #[.int .i64 x0, .int .i64 x1, .bool x2, .slice xA xn xc] 42)).alloc (.cells #[.int .i64 x0, .int .i64 x1, .bool x2, .slice xA xn xc] 38)) w.heap.size A1 c1 (l.take j) := World.ownsRow.alloc o1 _
        have z2 : Blk ((wr.alloc (.cells #[.int .i64 x0, .int .i64 x1, .bool x2, .slice xA xn xc] 42)).alloc (.cells #[.int .i64 x0, .int .i64 x1, .bool x2, .slice xA xn xc] 38)) (wr.heap.size + 1) 38 (Px.cells ⟨x0, x1, x2, xA, xc, xs⟩).toArray := by
          have := Blk.new (wr.alloc (.cells #[.int .i64 x0, .int .i64 x1, .bool x2, .slice xA xn xc] 42)) 38 #[.int .i64 x0, .int .i64 x1, .bool x2, .slice xA xn xc]
          rw [show (wr.alloc (.cells #[.int .i64 x0, .int .i64 x1, .bool x2, .slice xA xn xc] 42)).heap.size = wr.heap.size + 1 by simp] at this
          rw [← hxn] at this ⊢
          exact this
        have hsz : w.heap.size ≤ ((wr.alloc (.cells #[.int .i64 x0, .int .i64 x1, .bool x2, .slice xA xn xc] 42)).alloc (.cells #[.int .i64 x0, .int .i64 x1, .bool x2, .slice xA xn xc] 38)).heap.size := Nat.le_trans hS.out.2.size (bel_alloc2 wr _ _).size
        obtain ⟨a', c', w3, hrun, ho3, hg3, _⟩ := append_px 38 27 Try.underlying27 rpo_info ((wr.alloc (.cells #[.int .i64 x0, .int .i64 x1, .bool x2, .slice xA xn xc] 42)).alloc (.cells #[.int .i64 x0, .int .i64 x1, .bool x2, .slice xA xn xc] 38)) w.heap.size A1 c1 j (l.take j) hlen o2 (wr.heap.size + 1) _ z2 (by rw [hlen]; have := HN.out.2; have := HN.out.1; omega) hsz
        have hb3 : Below w.heap.size w w3 := (hS.out.2.trans ((bel_alloc2 wr _ _).mono hS.out.2.size)).trans (by have ho := o2; unfold OwnPx at ho; rw [hlen] at ho; exact bel_own ho hg3 (Nat.le_refl _) hsz)
        rw [← htk] at ho3
        have HR := Lib.hid hrun
        have HEND := Lib.hid (show (OwnPx 38 w3 w.heap.size a' c' (l.take (j + 1)) ∧ Below w.heap.size w w3) ∧ ∀ k, k < j + 1 → (l.getD k px0).ms.length ≤ 40 from ⟨⟨ho3, hb3⟩, fun k hk => by
          by_cases e : k = j
          · subst e
            rw [HSM.out.2]
            have := HX.out
            show xs.length ≤ 40
            omega
          · exact HSM.out.1 k (by omega)⟩)
        clear hr hbl hx hj hj' htk hlen hxn o1 o2 z2 hsz hrun ho3 hg3 hb3
        go_wp2_with (at_builtin; refine Lib.wpList_append_run _ rfl _ _ _ _ rfl _ _ rfl rfl _ _ HR.out ?_)
        go_roundw
        case rel =>
          rw [HJ.out]
          exact ⟨j + 1, a', c', HLT.out, by rw [Int.natCast_add]; rfl, rfl, HEND⟩
        case measure =>
          rw [HJ.out]
          show n - ((j : Int) + 1).toNat < n - ((j : Int)).toNat
          have := HLT.out
          omega
    · obtain rfl : n = j := by omega
      have htk : l.take n = l := List.take_of_length_le (by rw [HN.out.1]; exact Nat.le_refl _)
      have ho : OwnPx 38 wr w.heap.size A1 c1 l := by have := hS.out.1; rw [htk] at this; exact this
      have HO := Lib.hid (And.intro ho (And.intro hS.out.2 hS'.out.2))
      have HC := Lib.hid (show n ≤ c1 by have h := ho; unfold OwnPx at h; rw [HN.out.1] at h; exact (own_cap h).1)
      clear htk ho hS hS' hj hlt
      by_cases d : (n : Int) ≤ 10
      · go_wp2_with fail
        go_ret2
        have hv : PxAt wr wr.heap.size A1 l := HO.out.1.px fun k hk => ((HA.out k hk).2.below HO.out.2.1).more HO.out.2.1.size
        exact ⟨.inr ⟨A1, c1, rfl, hv, HC.out, ⟨by rw [HN.out.1]; omega, fun k hk => HO.out.2.2 k (by rw [← HN.out.1]; exact hk)⟩⟩, HO.out.2.1⟩
      · have d' : 10 < (n : Int) := by omega
        go_wp2_with fail
        go_ret2
        exact ⟨.inl ⟨_, rfl⟩, HO.out.2.1⟩
/-- A table of which places were learned, or said, one by one. -/
def tableS (l : List Pl) : Nat → Dt
  | 0 => ⟨[], 0⟩
  | k + 1 => if (l.getD k pl0).st then (fixS (tableS l k) (l.getD k pl0).v (l.getD k pl0).m (l.getD k pl0).p).1 else (learnS (tableS l k) (l.getD k pl0).v (l.getD k pl0).m (l.getD k pl0).p (l.getD k pl0).s).1
theorem put_few (s : Dt) (x : Pl) : (putS s x).1.l.length ≤ s.l.length + 1 := by
  unfold putS
  repeat' split
  · simp
  · simp
  · rw [ins_len]; unfold rmP; rw [List.length_append, List.length_take, List.length_drop]; omega
  · rw [ins_len]; exact Nat.le_refl _
theorem learn_few (s : Dt) (v m p now : Int) : (learnS s v m p now).1.l.length ≤ s.l.length + 1 := by
  unfold learnS
  repeat' split
  all_goals first | exact put_few _ _ | (simp; done) | (exact Nat.le_succ _)
theorem fix_few (s : Dt) (v m p : Int) : (fixS s v m p).1.l.length ≤ s.l.length + 1 := by
  unfold fixS
  repeat' split
  all_goals first | exact put_few _ _ | (exact Nat.le_succ _)
theorem rel_self {s : Dt} (h : Srt s.l) : Rel s s := ⟨h, List.Perm.refl _, rfl⟩
theorem table_ok (l : List Pl) (k : Nat) : Srt (tableS l k).l ∧ (tableS l k).l.length ≤ k := by
  induction k with
  | zero => exact ⟨List.Pairwise.nil, Nat.le_refl _⟩
  | succ k ih =>
    unfold tableS
    split
    · exact ⟨((rel_self ih.1).fix _ _ _).1.srt, Nat.le_trans (fix_few _ _ _ _) (by omega)⟩
    · exact ⟨((rel_self ih.1).learn _ _ _ _).1.srt, Nat.le_trans (learn_few _ _ _ _ _) (by omega)⟩
/-- Whoever stands in a table is none of many. -/
def Single (l : List Pl) : Prop := ∀ x, x ∈ l → manyB x.m = false
theorem put_single {s : Dt} {x : Pl} (h : Single s.l) (hx : manyB x.m = false) : Single (putS s x).1.l := by
  have hrm : ∀ (i : Nat) (y : Pl), y ∈ rmP s.l i → y ∈ s.l := fun i y hy => by
    unfold rmP at hy
    rcases List.mem_append.1 hy with q | q
    · exact List.mem_of_mem_take q
    · exact List.mem_of_mem_drop q
  unfold putS
  split
  · intro y hy
    rcases List.mem_or_eq_of_mem_set hy with q | q
    · exact h y q
    · rw [q]; exact hx
  · split
    · split
      · exact h
      · intro y hy
        rcases ins_mem.1 hy with q | q
        · rw [q]; exact hx
        · exact h y (hrm _ _ q)
    · intro y hy
      rcases ins_mem.1 hy with q | q
      · rw [q]; exact hx
      · exact h y q
theorem fine_single {v m p : Int} (h : fineP v m p) : manyB m = false := decide_eq_false (fun q => h.2.1.2.2 q.2.2)
theorem table_single (l : List Pl) (k : Nat) : Single (tableS l k).l := by
  induction k with
  | zero => exact fun x hx => by cases hx
  | succ k ih =>
    unfold tableS
    split
    · unfold fixS
      split
      · rename_i c
        exact put_single ih (fine_single c)
      · exact ih
    · unfold learnS
      split
      · rename_i c
        split
        · split
          · exact ih
          · exact put_single ih (fine_single c)
        · exact put_single ih (fine_single c)
      · exact ih
theorem find_many {l : List Pl} (h : Single l) {v m : Int} (hm : manyB m = true) : findS l v m = -1 := by
  unfold findS
  rw [ixP_no fun k hk e => ?_]
  have := h _ (getD_mem hk)
  rw [show (l.getD k pl0).m = m from e.2, hm] at this
  cases this
set_option maxHeartbeats 8000000 in
theorem table_any (A : Option Addr) (c : Nat) (l : List Pl) (w : World) (hA : PlsAt w w.heap.size A l) (hl : l.length ≤ 40) :
    Calls Try.prog 8 #[.slice A l.length c] w fun e w' => ∃ (g : Nat) (F : Nat → Prop), e = .returned (.pointer (some ⟨g, 0, none⟩)) ∧ Below w.heap.size w w' ∧ Pt w' w.heap.size F g (tableS l l.length) := by
  obtain ⟨n, hn⟩ : ∃ n, l.length = n := ⟨_, rfl⟩
  have HA := Lib.hid hA
  have HN := Lib.hid (And.intro hn hl)
  have HNEW := Lib.hid (fnew_any w w.heap.size (Nat.le_refl _))
  rw [hn]
  clear hA hl hn
  go_enter Try.func8, Try.ntmps8
  go_wp2_with fail
  refine HNEW.out.mono ?_
  rintro e w1 ⟨g, rfl, b1, p1⟩
  have H1 := Lib.hid (And.intro b1 p1)
  clear b1 p1
  go_wp2_with fail
  go_loopw [9] (fun iv wr => ∃ j : Nat, j ≤ n ∧ iv = .int .i64 j ∧ Hid (Below w.heap.size w wr ∧ ∃ F, Pt wr w.heap.size F g (tableS l j))) (fun iv _ => n - (intOf iv).toNat)
  case atStart => exact ⟨0, Nat.zero_le _, rfl, Lib.hid ⟨H1.out.1, _, H1.out.2⟩⟩
  case round =>
    obtain ⟨j, hj, rfl, hS⟩ := hrel
    by_cases hlt : j < n
    · obtain ⟨b, off, rfl, hbl, hc⟩ := HA.out j (by rw [HN.out.1]; exact hlt)
      have hc := hc.below hS.out.1 hbl
      obtain ⟨x, hx⟩ : ∃ x, l.getD j pl0 = x := ⟨_, rfl⟩
      rw [hx] at hc
      obtain ⟨x0, x1, x2, x3, x4⟩ := x
      obtain ⟨q0, q1, q2, q3, q4⟩ := hc
      simp only at q0 q1 q2 q3 q4
      obtain ⟨hbw, F, hp⟩ := hS.out
      obtain ⟨Ap, cp, hpt⟩ := hp
      have hal := bel_alloc wr (.cells #[.int .i64 x0, .int .i64 x1, .int .i64 x2, .int .i64 x3, .bool x4] 49)
      have HP := Lib.hid (show Pt (wr.alloc (.cells #[.int .i64 x0, .int .i64 x1, .int .i64 x2, .int .i64 x3, .bool x4] 49)) w.heap.size F g (tableS l j) from ⟨Ap, cp, hpt.below hal⟩)
      have HLO := Lib.hid hpt.lo
      have HT := Lib.hid (table_ok l j)
      have HBW := Lib.hid (hbw.trans (hal.mono hbw.size))
      have j1 : (j : Int) < n := by omega
      have j0 : (0 : Int) ≤ j := by omega
      have HLT := Lib.hid hlt
      have HJ := Lib.hid (show wrap64 ((j : Int) + 1) = (j : Int) + 1 from IntWalk.wrap64_in _ (by have := HN.out.2; have := HN.out.1; omega))
      have HE := Lib.hid (show tableS l (j + 1) = if x4 then (fixS (tableS l j) x0 x1 x2).1 else (learnS (tableS l j) x0 x1 x2 x3).1 by
        show (if (l.getD j pl0).st then _ else _) = _
        rw [hx])
      cases x4 with
      | true =>
        have HF := Lib.hid (ffix_any x0 x1 x2 HP.out HT.out.1 (by have := HT.out.2; have := HN.out; omega))
        clear hbl hx hj hbw hpt hal hlt hS
        go_wp2_with fail
        refine HF.out.mono ?_
        rintro e w3 ⟨rfl, t3, p3⟩
        have HEND := Lib.hid (show Below w.heap.size w w3 ∧ ∃ F, Pt w3 w.heap.size F g (tableS l (j + 1)) from ⟨HBW.out.trans (t3.below HBW.out.size (fun k hk => (HLO.out k hk).1)), _, by rw [HE.out]; exact p3⟩)
        clear t3 p3
        go_wp2_with fail
        go_roundw
        case rel =>
          rw [HJ.out]
          exact ⟨j + 1, HLT.out, by rw [Int.natCast_add]; rfl, HEND⟩
        case measure =>
          rw [HJ.out]
          show n - ((j : Int) + 1).toNat < n - ((j : Int)).toNat
          have := HLT.out
          omega
      | false =>
        have HF := Lib.hid (flearn_any x0 x1 x2 x3 HP.out HT.out.1 (by have := HT.out.2; have := HN.out; omega))
        clear hbl hx hj hbw hpt hal hlt hS
        go_wp2_with fail
        refine HF.out.mono ?_
        rintro e w3 ⟨rfl, t3, p3⟩
        have HEND := Lib.hid (show Below w.heap.size w w3 ∧ ∃ F, Pt w3 w.heap.size F g (tableS l (j + 1)) from ⟨HBW.out.trans (t3.below HBW.out.size (fun k hk => (HLO.out k hk).1)), _, by rw [HE.out]; exact p3⟩)
        clear t3 p3
        go_wp2_with fail
        go_roundw
        case rel =>
          rw [HJ.out]
          exact ⟨j + 1, HLT.out, by rw [Int.natCast_add]; rfl, HEND⟩
        case measure =>
          rw [HJ.out]
          show n - ((j : Int) + 1).toNat < n - ((j : Int)).toNat
          have := HLT.out
          omega
    · obtain rfl : n = j := by omega
      have HO := Lib.hid hS.out
      clear hS hj hlt
      go_wp2_with fail
      go_ret
      obtain ⟨hb, F, hp⟩ := HO.out
      exact ⟨g, F, rfl, hb, hp⟩
/-- The network of a frame, for the document. -/
theorem rclass_any (x : Px) (f : Fr) (w : World) : Calls Try.prog 9 #[.agg #[.int .i64 x.st, .int .i64 x.pv, .bool x.sp, .slice x.A x.ms.length x.c], f.v] w fun e w' => e = .returned (.int .i64 (classP x.pv f)) ∧ Below w.heap.size w w' := by
  obtain ⟨x0, x1, x2, xA, xc, xs⟩ := x
  obtain ⟨f0, f1, f2, f3, f4, f5, f6⟩ := f
  have HB := Lib.hid (bel_alloc2 w (.cells #[.int .i64 x0, .int .i64 x1, .bool x2, .slice xA xs.length xc] 38) (.cells #[.int .i64 f0, .int .i64 f1, .bool f2, .int .i64 f3, .int .i64 f4, .int .i64 f5, .string f6] 24))
  obtain ⟨r, hr⟩ : ∃ r, classP x1 ⟨f0, f1, f2, f3, f4, f5, f6⟩ = r := ⟨_, rfl⟩
  show Calls _ _ #[.agg #[.int .i64 x0, .int .i64 x1, .bool x2, .slice xA xs.length xc], .agg #[.int .i64 f0, .int .i64 f1, .bool f2, .int .i64 f3, .int .i64 f4, .int .i64 f5, .string f6]] w fun e w' => e = .returned (.int .i64 (classP x1 ⟨f0, f1, f2, f3, f4, f5, f6⟩)) ∧ Below w.heap.size w w'
  rw [hr]
  have HR := Lib.hid hr
  clear hr
  have hcase : ∀ v, (v = f3 ∨ v = x1) → (v = (if f2 = true ∧ f3 ≠ 0 then f3 else x1)) → (if 1 ≤ v ∧ v ≤ 4094 then v else 0) = r := fun v _ hv => by
    rw [← HR.out, hv]
    unfold classP
    show _ = if f2 = true ∧ f3 ≠ 0 then _ else _
    by_cases c : f2 = true ∧ f3 ≠ 0
    · simp only [if_pos c]
    · simp only [if_neg c]
  have HC := Lib.hid hcase
  clear hcase
  by_cases ht : f2 = true ∧ f3 ≠ 0
  · obtain ⟨rfl, h3⟩ := ht
    have hv := HC.out f3 (.inl rfl) (by rw [if_pos ⟨rfl, h3⟩])
    have h3' : (f3 != 0) = true := by rw [bne_iff_ne]; exact h3
    by_cases h1 : f3 < 1
    · have HE := Lib.hid (show (0 : Int) = r by rw [← hv, if_neg (by omega)])
      clear hv h3
      go_enter Try.func9, Try.ntmps9
      go_wp2_with fail
      go_ret
      exact ⟨ret_i64 HE.out, HB.out⟩
    · by_cases h2 : 4094 < f3
      · have HE := Lib.hid (show (0 : Int) = r by rw [← hv, if_neg (by omega)])
        clear hv h3
        go_enter Try.func9, Try.ntmps9
        go_wp2_with fail
        go_ret
        exact ⟨ret_i64 HE.out, HB.out⟩
      · have HE := Lib.hid (show f3 = r by rw [← hv, if_pos (by omega)])
        clear hv h3
        go_enter Try.func9, Try.ntmps9
        go_wp2_with fail
        go_ret
        exact ⟨ret_i64 HE.out, HB.out⟩
  · have hv := HC.out x1 (.inr rfl) (by rw [if_neg ht])
    have HT : f2 = false ∨ (f2 = true ∧ (f3 != 0) = false) := by
      cases f2 with
      | false => exact .inl rfl
      | true => exact .inr ⟨rfl, by rw [bne_eq_false_iff_eq]; by_cases e : f3 = 0; exact e; exact absurd ⟨rfl, e⟩ ht⟩
    clear ht
    rcases HT with rfl | ⟨rfl, h3'⟩
    all_goals
      by_cases h1 : x1 < 1
      · have HE := Lib.hid (show (0 : Int) = r by rw [← hv, if_neg (by omega)])
        clear hv
        go_enter Try.func9, Try.ntmps9
        go_wp2_with fail
        go_ret
        exact ⟨ret_i64 HE.out, HB.out⟩
      · by_cases h2 : 4094 < x1
        · have HE := Lib.hid (show (0 : Int) = r by rw [← hv, if_neg (by omega)])
          clear hv
          go_enter Try.func9, Try.ntmps9
          go_wp2_with fail
          go_ret
          exact ⟨ret_i64 HE.out, HB.out⟩
        · have HE := Lib.hid (show x1 = r by rw [← hv, if_pos (by omega)])
          clear hv
          go_enter Try.func9, Try.ntmps9
          go_wp2_with fail
          go_ret
          exact ⟨ret_i64 HE.out, HB.out⟩
end Go.Proofs.Ytnhnllkcnpbgoaa
