/- spread.All and spread.Members, as contracts. Its condition: at most 20 ports of 40 attributes, 40 named. -/
import Derived.Test.YtaieopejabpegaaSnComp
import Derived.Test.YtaieopejabpegaaSnWant
namespace Go.Proofs.Ytaieopejabpegaa
open Go.RowKit
set_option maxRecDepth 100000

set_option maxHeartbeats 4000000 in
theorem aclone_any (A : Option Addr) (c : Nat) (l : List At) (w : World) (h : AtsAt w w.heap.size A l) (hc : l.length ≤ c ∧ (A = none → c = 0)) (hn : l.length ≤ 1048576) :
    Calls Try.prog 19 #[.slice A l.length c] w fun e w' => ∃ A' c', e = .returned (.slice A' l.length c') ∧ OwnA w' w.heap.size A' c' l ∧ Below w.heap.size w w' := by
  cases A with
  | none =>
    obtain rfl : l = [] := List.eq_nil_of_length_eq_zero (by have := hc.1; have := hc.2 rfl; omega)
    obtain rfl := hc.2 rfl
    clear h hc hn
    show Calls _ _ #[.slice none 0 0] w _
    have q22 := Lib.run_eql_slice_nil (P := Try.prog) w 33 24 none 0 0 0 0 Try.underlying33
    go_enter Try.func19, Try.ntmps19
    go_wp2_with fail
    go_ret
    exact ⟨none, 0, rfl, World.ownsRow_nil _ _ _ _, Below.refl _ _⟩
  | some a =>
    have q22 := Lib.run_eql_slice_nil (P := Try.prog) w 33 24 (some a) l.length c 0 0 Try.underlying33
    have ho : OwnA (w.alloc (.cells #[] 24)) w.heap.size (some ⟨w.heap.size, 0, none⟩) 0 [] := own_blank w w.heap.size 2 24 (Nat.le_refl _)
    have hb1 := bel_alloc w (.cells #[] 24)
    obtain ⟨a', c', w', hr, ho', hg⟩ := append_a (w.alloc (.cells #[] 24)) w.heap.size (some ⟨w.heap.size, 0, none⟩) 0 0 [] rfl ho (some a) c l.length w.heap.size l rfl (fun h => by cases h) (h.below hb1) (by show (0 + l.length) * 16 ≤ _; omega) hb1.size
    rw [List.nil_append] at ho'
    rw [Nat.zero_add] at hr
    have hb : Below w.heap.size w w' := hb1.trans (bel_own ho hg (Nat.le_refl _) hb1.size)
    obtain ⟨n, hnn⟩ : ∃ n, l.length = n := ⟨_, rfl⟩
    have HF := Lib.hid (And.intro ho' hb)
    rw [hnn] at hr q22 ⊢
    have HR := Lib.hid hr
    clear hr ho' hg hb ho h hc hn hnn hb1
    go_enter Try.func19, Try.ntmps19
    go_wp2_with (at_builtin; refine Lib.wpList_append_run _ rfl _ _ _ _ rfl _ _ rfl rfl _ _ HR.out ?_)
    go_ret
    exact ⟨a', c', rfl, HF.out⟩
/-- All that comes by the first j ports. -/
def rowsT (l : List Vx) (more : List At) : Nat → List At
  | 0 => more
  | j + 1 => rowsT l more j ++ (l.getD j vx0).xs
theorem rowsT_mem (l : List Vx) (more : List At) (j : Nat) (x : At) : x ∈ rowsT l more j ↔ x ∈ more ∨ ∃ i, i < j ∧ x ∈ (l.getD i vx0).xs := by
  induction j with
  | zero => exact ⟨fun h => .inl h, fun h => h.elim id (fun ⟨i, hi, _⟩ => absurd hi (Nat.not_lt_zero i))⟩
  | succ j ih =>
    show x ∈ rowsT l more j ++ _ ↔ _
    rw [List.mem_append, ih]
    constructor
    · rintro ((h | ⟨i, hi, h⟩) | h)
      · exact .inl h
      · exact .inr ⟨i, by omega, h⟩
      · exact .inr ⟨j, by omega, h⟩
    · rintro (h | ⟨i, hi, h⟩)
      · exact .inl (.inl h)
      · by_cases c : i = j
        · subst c; exact .inr h
        · exact .inl (.inr ⟨i, by omega, h⟩)
theorem rowsT_len (l : List Vx) (more : List At) (hx : ∀ k, k < l.length → (l.getD k vx0).xs.length ≤ 40) (j : Nat) (hj : j ≤ l.length) : (rowsT l more j).length ≤ more.length + j * 40 := by
  induction j with
  | zero => exact Nat.le_add_right _ _
  | succ j ih =>
    show (rowsT l more j ++ _).length ≤ _
    rw [List.length_append]
    have := ih (by omega)
    have := hx j (by omega)
    omega
set_option maxHeartbeats 8000000 in
theorem sall_any (A A2 : Option Addr) (c c2 : Nat) (l : List Vx) (more : List At) (w : World) (hA : VxAt w w.heap.size A l) (hM : AtsAt w w.heap.size A2 more) (hc2 : more.length ≤ c2 ∧ (A2 = none → c2 = 0)) (hl : l.length ≤ 20) (hm : more.length ≤ 40) (hx : ∀ k, k < l.length → (l.getD k vx0).xs.length ≤ 40)
    (hxc : ∀ k, k < l.length → ((l.getD k vx0).A = none → (l.getD k vx0).c = 0)) :
    Calls Try.prog 12 #[.slice A l.length c, .slice A2 more.length c2] w fun e w' => ∃ A' c', e = .returned (.slice A' (allA (rowsT l more l.length)).length c') ∧ AtsAt w' w'.heap.size A' (allA (rowsT l more l.length)) ∧ Below w.heap.size w w' := by
  have HC := Lib.hid (aclone_any A2 c2 more w hM hc2 (by omega))
  obtain ⟨n, hn⟩ : ∃ n, l.length = n := ⟨_, rfl⟩
  obtain ⟨m, hmm⟩ : ∃ m, more.length = m := ⟨_, rfl⟩
  have HA := Lib.hid hA
  have HN := Lib.hid (And.intro hn (And.intro hmm (And.intro hl (And.intro hm (And.intro hx hxc)))))
  rw [hmm] at HC
  rw [hn, hmm]
  clear hA hM hc2 hl hm hx hxc hn hmm
  go_enter Try.func12, Try.ntmps12
  go_wp2_with fail
  refine HC.out.mono ?_
  rintro e w1 ⟨A1, c1, rfl, ho1, b1⟩
  have HO1 := Lib.hid (And.intro ho1 b1)
  clear ho1 b1
  go_wp2_with fail
  go_loopw [5, 12] (fun pv iv wr => ∃ (j m1 : Nat) (A1 : Option Addr) (c1 : Nat), j ≤ n ∧ iv = .int .i64 j ∧ pv = .slice A1 m1 c1 ∧ Hid (m1 = (rowsT l more j).length ∧ OwnA wr w.heap.size A1 c1 (rowsT l more j) ∧ Below w.heap.size w wr)) (fun _ iv _ => n - (intOf iv).toNat)
  case atStart => exact ⟨0, m, A1, c1, Nat.zero_le _, rfl, rfl, Lib.hid ⟨HN.out.2.1.symm, HO1.out.1, HO1.out.2⟩⟩
  case round =>
    obtain ⟨j, m1, A1, c1, hj, rfl, rfl, HS⟩ := hrel
    by_cases hlt : j < n
    · have j1 : (j : Int) < n := by omega
      have j0 : (0 : Int) ≤ j := by omega
      have HLT := Lib.hid hlt
      have HJ := Lib.hid (show wrap64 ((j : Int) + 1) = (j : Int) + 1 from IntWalk.wrap64_in _ (by have := HN.out.1; have := HN.out.2.2.1; omega))
      obtain ⟨⟨b, off, eA, hbl, hc⟩, hr⟩ := HA.out j (by rw [HN.out.1]; exact hlt)
      have hc := hc.below HS.out.2.2 hbl
      have hxl := HN.out.2.2.2.2.1 j (by rw [HN.out.1]; exact hlt)
      have hxn := HN.out.2.2.2.2.2 j (by rw [HN.out.1]; exact hlt)
      have hrl := rowsT_len l more HN.out.2.2.2.2.1 j (by rw [HN.out.1]; omega)
      have HRT := Lib.hid (show rowsT l more (j + 1) = rowsT l more j ++ (l.getD j vx0).xs from rfl)
      obtain ⟨x, hx⟩ : ∃ x, l.getD j vx0 = x := ⟨_, rfl⟩
      rw [hx] at hc hr hxl hxn HRT
      obtain ⟨q0, q1, q2⟩ := hc
      obtain ⟨xop, xA, xc, xs, xA', xc', xbs⟩ := x
      obtain ⟨xk, hxk⟩ : ∃ xk, xs.length = xk := ⟨_, rfl⟩
      obtain ⟨xm, hxm⟩ : ∃ xm, xbs.length = xm := ⟨_, rfl⟩
      simp only [hxk, hxm] at q0 q1 q2
      have hb2 := bel_alloc wr (.cells #[.bool xop, .slice xA xk xc, .slice xA' xm xc'] 43)
      have hbw := HS.out.2.2.trans (hb2.mono HS.out.2.2.size)
      have hown : OwnA (wr.alloc (.cells #[.bool xop, .slice xA xk xc, .slice xA' xm xc'] 43)) w.heap.size A1 c1 (rowsT l more j) := World.ownsRow.alloc HS.out.2.1 _
      obtain ⟨a', c', w', hrun, ho', hg⟩ := append_a (wr.alloc (.cells #[.bool xop, .slice xA xk xc, .slice xA' xm xc'] 43)) w.heap.size A1 c1 m1 (rowsT l more j) HS.out.1.symm hown xA xc xk w.heap.size xs hxk hxn (hr.1.below hbw) (by
        have := HN.out.2.2.1
        have := HN.out.2.2.2.1
        have := HN.out.1
        have h40 : xs.length ≤ 40 := hxl
        omega) hbw.size
      have hbel : Below w.heap.size w w' := hbw.trans (bel_own (by have h := hown; unfold OwnA at h; rw [← HS.out.1] at h; exact h) hg (Nat.le_refl _) hbw.size)
      have HF := Lib.hid (show m1 + xk = (rowsT l more (j + 1)).length ∧ OwnA w' w.heap.size a' c' (rowsT l more (j + 1)) ∧ Below w.heap.size w w' from ⟨by rw [HRT.out, List.length_append, HS.out.1]; show _ + xk = _ + xs.length; rw [hxk], by rw [HRT.out]; exact ho', hbel⟩)
      have HR := Lib.hid hrun
      subst eA
      clear hj hlt hbl hr hx hxl hxn hrl hxk hxm hb2 hbw hown hrun ho' hg hbel
      go_wp2_with (at_builtin; refine Lib.wpList_append_run _ rfl _ _ _ _ rfl _ _ rfl rfl _ _ HR.out ?_)
      go_roundw
      case rel =>
        rw [HJ.out]
        exact ⟨j + 1, m1 + xk, a', c', HLT.out, by rw [Int.natCast_add]; rfl, rfl, HF⟩
      case measure =>
        rw [HJ.out]
        show n - ((j : Int) + 1).toNat < n - ((j : Int)).toNat
        have := HLT.out
        omega
    · obtain rfl : n = j := by omega
      clear hj hlt
      have hlen : (rowsT l more n).length ≤ 1048576 := by
        have := rowsT_len l more HN.out.2.2.2.2.1 n (by rw [HN.out.1]; exact Nat.le_refl _)
        have := HN.out
        omega
      have hs := sort_any A1 c1 (rowsT l more n) w.heap.size wr HS.out.2.1 hlen
      rw [← HS.out.1] at hs
      have HSO := Lib.hid hs
      have HLE := Lib.hid hlen
      clear hs hlen
      go_wp2_with fail
      refine HSO.out.mono ?_
      rintro e w2 ⟨rfl, ho2, ht2⟩
      have hb2 : Below w.heap.size w w2 := HS.out.2.2.trans (ht2.below HS.out.2.2.size fun k hk => by
        have ho := HS.out.2.1
        unfold OwnA at ho
        rw [← HS.out.1] at ho
        exact (World.ownsRow.lt ho k hk).1)
      have hcp := acompact_any A1 c1 (sortA (rowsT l more n)) w.heap.size w2 ho2 (by rw [sortA_length]; exact HLE.out) hb2.size
      rw [sortA_length, ← HS.out.1] at hcp
      have HCP := Lib.hid hcp
      have HB2 := Lib.hid hb2
      clear ho2 ht2 hb2 hcp
      go_wp2_with fail
      refine HCP.out.mono ?_
      rintro e w3 ⟨A3, c3, rfl, h3, b3⟩
      have HE := Lib.hid (show AtsAt w3 w3.heap.size A3 (allA (rowsT l more n)) ∧ Below w.heap.size w w3 from ⟨by unfold allA; rw [← HS.out.1]; exact h3, HB2.out.trans b3⟩)
      have HLN := Lib.hid (show (ddT (sortA (rowsT l more n)) m1).length = (allA (rowsT l more n)).length from by unfold allA; rw [← HS.out.1])
      clear h3 b3
      go_wp2_with fail
      go_ret
      exact ⟨A3, c3, by rw [← HLN.out]; rfl, HE.out⟩
/-- The ports at which an attribute is registered, of the first j. -/
def memT (l : List Vx) (a : At) : Nat → List Int
  | 0 => []
  | j + 1 => if a ∈ (l.getD j vx0).xs then memT l a j ++ [(j : Int)] else memT l a j
theorem memT_len (l : List Vx) (a : At) (j : Nat) : (memT l a j).length ≤ j := by
  induction j with
  | zero => exact Nat.le_refl _
  | succ j ih =>
    show (if _ then _ else _ : List Int).length ≤ _
    split
    · rw [List.length_append]
      simp only [List.length_singleton]
      omega
    · omega
set_option maxHeartbeats 8000000 in
theorem smem_any (A : Option Addr) (c : Nat) (l : List Vx) (a : At) (w : World) (hA : VxAt w w.heap.size A l) (hl : l.length ≤ 20) (hx : ∀ k, k < l.length → (l.getD k vx0).xs.length ≤ 40) :
    Calls Try.prog 16 #[.slice A l.length c, .agg #[.int .i64 a.t, .int .i64 a.v]] w fun e w' => ∃ A' c', e = .returned (.slice A' (memT l a l.length).length c') ∧ IntAt w' w'.heap.size A' (memT l a l.length) ∧ Below w.heap.size w w' := by
  obtain ⟨n, hn⟩ : ∃ n, l.length = n := ⟨_, rfl⟩
  have HA := Lib.hid hA
  have HN := Lib.hid (And.intro hn (And.intro hl hx))
  rw [hn]
  have HX := Lib.hid (boxd w a)
  clear hA hl hx hn
  go_enter Try.func16, Try.ntmps16
  go_wp2_with fail
  go_loopw [5, 10] (fun pv iv wr => ∃ (j m1 : Nat) (A1 : Option Addr) (c1 : Nat), j ≤ n ∧ iv = .int .i64 j ∧ pv = .slice A1 m1 c1 ∧ Hid (m1 = (memT l a j).length ∧ OwnJ wr (w.heap.size + 1) A1 c1 (memT l a j) ∧ Boxd w wr a)) (fun _ iv _ => n - (intOf iv).toNat)
  case atStart => exact ⟨0, 0, none, 0, Nat.zero_le _, rfl, rfl, Lib.hid ⟨rfl, World.ownsRow_nil _ _ _ _, HX.out⟩⟩
  case round =>
    obtain ⟨j, m1, A1, c1, hj, rfl, rfl, HS⟩ := hrel
    by_cases hlt : j < n
    · have j1 : (j : Int) < n := by omega
      have j0 : (0 : Int) ≤ j := by omega
      have HLT := Lib.hid hlt
      have HJ := Lib.hid (show wrap64 ((j : Int) + 1) = (j : Int) + 1 from IntWalk.wrap64_in _ (by have := HN.out.1; have := HN.out.2.1; omega))
      obtain ⟨⟨b, off, eA, hbl, hc⟩, hr⟩ := HA.out j (by rw [HN.out.1]; exact hlt)
      have hc := hc.below HS.out.2.2.1 hbl
      have hxl := HN.out.2.2 j (by rw [HN.out.1]; exact hlt)
      have HRT := Lib.hid (show memT l a (j + 1) = if a ∈ (l.getD j vx0).xs then memT l a j ++ [(j : Int)] else memT l a j from rfl)
      obtain ⟨x, hx⟩ : ∃ x, l.getD j vx0 = x := ⟨_, rfl⟩
      rw [hx] at hc hr hxl HRT
      obtain ⟨q0, q1, q2⟩ := hc
      obtain ⟨xop, xA, xc, xs, xA', xc', xbs⟩ := x
      have hR := fun (V : World) (hV : Below w.heap.size w V) => acon_any xA xc xs a V ((hr.1.below hV).more hV.size) (by have : xs.length ≤ 40 := hxl; omega)
      obtain ⟨xk, hxk⟩ : ∃ xk, xs.length = xk := ⟨_, rfl⟩
      obtain ⟨xm, hxm⟩ : ∃ xm, xbs.length = xm := ⟨_, rfl⟩
      simp only [hxk, hxm] at q0 q1 q2
      rw [hxk] at hR
      obtain ⟨hv, hhv⟩ : ∃ hv, decide (a ∈ xs) = hv := ⟨_, rfl⟩
      rw [hhv] at hR
      have HR := Lib.hid hR
      have HHV := Lib.hid hhv
      have hb2 := bel_alloc wr (.cells #[.bool xop, .slice xA xk xc, .slice xA' xm xc'] 43)
      have HB2 := Lib.hid (show Boxd w (wr.alloc (.cells #[.bool xop, .slice xA xk xc, .slice xA' xm xc'] 43)) a from ⟨HS.out.2.2.1.trans (hb2.mono HS.out.2.2.1.size), HS.out.2.2.2.alloc _⟩)
      have HO2 := Lib.hid (show OwnJ (wr.alloc (.cells #[.bool xop, .slice xA xk xc, .slice xA' xm xc'] 43)) (w.heap.size + 1) A1 c1 (memT l a j) from World.ownsRow.alloc HS.out.2.1 _)
      have a0 := fun o => (HS.out.2.2.2.alloc o).cell 0
      have a1 := fun o => (HS.out.2.2.2.alloc o).cell 1
      subst eA
      clear hj hlt hbl hr hx hxl hxk hxm hb2 hR hhv
      go_wp2_with fail
      refine (HR.out _ HB2.out.1).mono ?_
      rintro e w2 ⟨rfl, b2⟩
      have HB3 := Lib.hid (show Boxd w w2 a from And.intro (HB2.out.1.trans (b2.mono HB2.out.1.size)) (HB2.out.2.below b2 HB2.out.2.lt))
      have HO3 := Lib.hid (show OwnJ w2 (w.heap.size + 1) A1 c1 (memT l a j) from own_heap HO2.out fun k hk => b2.block k (World.ownsRow.lt HO2.out k hk).2)
      clear b2 a0 a1 q0 q1 q2
      cases hv with
      | false =>
        have HE := Lib.hid (show memT l a (j + 1) = memT l a j from HRT.out.trans (if_neg (of_decide_eq_false HHV.out)))
        go_wp2_with fail
        go_roundw
        case rel =>
          rw [HJ.out]
          exact ⟨j + 1, m1, A1, c1, HLT.out, by rw [Int.natCast_add]; rfl, rfl, Lib.hid ⟨by rw [HE.out]; exact HS.out.1, by rw [HE.out]; exact HO3.out, HB3.out⟩⟩
        case measure =>
          rw [HJ.out]
          show n - ((j : Int) + 1).toNat < n - ((j : Int)).toNat
          have := HLT.out
          omega
      | true =>
        have HE := Lib.hid (show memT l a (j + 1) = memT l a j ++ [(j : Int)] from HRT.out.trans (if_pos (of_decide_eq_true HHV.out)))
        have hml := memT_len l a j
        have hb4 := bel_alloc w2 (.cells #[.int .i64 (j : Int)] 3)
        have hbx := Blk.new w2 3 #[.int .i64 (j : Int)]
        have hown : OwnJ (w2.alloc (.cells #[.int .i64 (j : Int)] 3)) (w.heap.size + 1) A1 c1 (memT l a j) := World.ownsRow.alloc HO3.out _
        obtain ⟨a', c', w', hrun, ho', hg⟩ := append_j (w2.alloc (.cells #[.int .i64 (j : Int)] 3)) (w.heap.size + 1) A1 c1 m1 (memT l a j) HS.out.1.symm hown (some ⟨w2.heap.size, 0, none⟩) 1 1 (w2.alloc (.cells #[.int .i64 (j : Int)] 3)).heap.size [(j : Int)] rfl (fun h => by cases h)
          (fun k hk => by
            obtain rfl : k = 0 := by have : k < 1 := hk; omega
            exact ⟨w2.heap.size, 0, rfl, hbx.lt, hbx.cell 0⟩) (by have := HN.out; have := HLT.out; show (memT l a j).length + 1 ≤ _; omega) (by have := HB3.out.2.lt; have := hb4.size; omega)
        have hown' := hown
        unfold OwnJ at hown'
        rw [← HS.out.1] at hown'
        have hbel : Below (w.heap.size + 1) w2 w' := (hb4.mono HB3.out.2.lt).trans (bel_own hown' hg (Nat.le_refl _) (Nat.le_trans HB3.out.2.lt hb4.size))
        have HF := Lib.hid (show m1 + 1 = (memT l a (j + 1)).length ∧ OwnJ w' (w.heap.size + 1) a' c' (memT l a (j + 1)) ∧ Boxd w w' a from ⟨by rw [HE.out, List.length_append, HS.out.1]; rfl, by rw [HE.out]; exact ho', ⟨HB3.out.1.trans (hbel.mono (Nat.le_succ _)), HB3.out.2.below hbel (Nat.lt_succ_self _)⟩⟩)
        have HRU := Lib.hid hrun
        clear hml hb4 hbx hown hown' hrun ho' hg hbel
        go_wp2_with (at_builtin; refine Lib.wpList_append_run _ rfl _ _ _ _ rfl _ _ rfl rfl _ _ HRU.out ?_)
        go_roundw
        case rel =>
          rw [HJ.out]
          exact ⟨j + 1, m1 + 1, a', c', HLT.out, by rw [Int.natCast_add]; rfl, rfl, HF⟩
        case measure =>
          rw [HJ.out]
          show n - ((j : Int) + 1).toNat < n - ((j : Int)).toNat
          have := HLT.out
          omega
    · obtain rfl : n = j := by omega
      clear hj hlt
      go_wp2_with fail
      go_ret
      exact ⟨A1, c1, by rw [← HS.out.1]; rfl, HS.out.2.1.at_, HS.out.2.2.1⟩
end Go.Proofs.Ytaieopejabpegaa
