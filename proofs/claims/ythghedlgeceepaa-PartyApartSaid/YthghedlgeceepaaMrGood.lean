/- Contracts of mrpdu's Good and the document's: can a message be. Their condition: at most 2^20 types and words. -/
import Derived.Test.YthghedlgeceepaaMrAsk
import Derived.Deep.RegionHeld3
namespace Go.Proofs.Ythghedlgeceepaa
open Go.RowKit

def Msg.goodB (m : Msg) : Bool := decide m.Good
/-- The first k of a list: each of them can be, and they rise. -/
def chk {α : Type} (P : α → Prop) (R : α → α → Prop) (l : List α) (k : Nat) : Prop := (∀ x ∈ l.take k, P x) ∧ (l.take k).Pairwise R
theorem chk_zero {α : Type} (P : α → Prop) (R : α → α → Prop) (l : List α) : chk P R l 0 := by simp [chk]
theorem chk_full {α : Type} {P : α → Prop} {R : α → α → Prop} {l : List α} (h : chk P R l l.length) : (∀ x ∈ l, P x) ∧ l.Pairwise R := by
  unfold chk at h; rwa [List.take_length] at h
theorem chk_of {α : Type} {P : α → Prop} {R : α → α → Prop} {l : List α} (h : (∀ x ∈ l, P x) ∧ l.Pairwise R) (k : Nat) : chk P R l k :=
  ⟨fun x hx => h.1 x (List.mem_of_mem_take hx), h.2.sublist (List.take_sublist k l)⟩
theorem take_getD {α : Type} (l : List α) (d : α) (k : Nat) (h : k < l.length) : l.take (k + 1) = l.take k ++ [l.getD k d] := by
  rw [List.take_succ_eq_append_getElem h, List.getD_eq_getElem?_getD, List.getElem?_eq_getElem h]; rfl
theorem chk_succ {α : Type} {P : α → Prop} {R : α → α → Prop} (tr : ∀ {a b c}, R a b → R b c → R a c) (d : α) {l : List α} {k : Nat} (hk : k < l.length) (h : chk P R l k) (hp : P (l.getD k d)) (hr : 0 < k → R (l.getD (k - 1) d) (l.getD k d)) : chk P R l (k + 1) := by
  unfold chk at *
  rw [take_getD l d k hk]
  refine ⟨fun x hx => ?_, List.pairwise_append.2 ⟨h.2, by simp, fun x hx y hy => ?_⟩⟩
  · rcases List.mem_append.1 hx with hx | hx
    · exact h.1 x hx
    · obtain rfl : x = l.getD k d := by simpa using hx
      exact hp
  · obtain rfl : y = l.getD k d := by simpa using hy
    by_cases h0 : k = 0
    · subst h0; simp at hx
    · obtain ⟨j, rfl⟩ : ∃ j, k = j + 1 := ⟨k - 1, by omega⟩
      have h1 := hr (by omega)
      rw [Nat.add_sub_cancel] at h1
      rw [take_getD l d j (by omega)] at hx
      have h2 := h.2
      rw [take_getD l d j (by omega)] at h2
      rcases List.mem_append.1 hx with hx | hx
      · exact tr ((List.pairwise_append.1 h2).2.2 x hx _ (by simp)) h1
      · obtain rfl : x = l.getD j d := by simpa using hx
        exact h1
theorem chk_at {α : Type} {P : α → Prop} {R : α → α → Prop} (d : α) {l : List α} {k : Nat} (hk : k < l.length) (h : chk P R l (k + 1)) : P (l.getD k d) ∧ (0 < k → R (l.getD (k - 1) d) (l.getD k d)) := by
  unfold chk at h
  rw [take_getD l d k hk] at h
  refine ⟨h.1 _ (by simp), fun h0 => ?_⟩
  obtain ⟨j, rfl⟩ : ∃ j, k = j + 1 := ⟨k - 1, by omega⟩
  rw [Nat.add_sub_cancel]
  refine (List.pairwise_append.1 h.2).2.2 _ ?_ _ (by simp)
  rw [take_getD l d j (by omega)]
  simp
abbrev chkA (l : List Int) (k : Nat) : Prop := chk (fun k => vs k ≠ 0) (fun a b : Int => a < b) l k
abbrev chkW (l : List Wd) (k : Nat) : Prop := chk wordP lessP l k
theorem chkA_succ {l : List Int} {k : Nat} (hk : k < l.length) (h : chkA l k) (hp : vs (l.getD k 0) ≠ 0) (hr : 0 < k → l.getD (k - 1) 0 < l.getD k 0) : chkA l (k + 1) :=
  chk_succ (R := fun a b : Int => a < b) (fun h h' => Int.lt_trans h h') 0 hk h hp hr
theorem chkW_succ {l : List Wd} {k : Nat} (hk : k < l.length) (h : chkW l k) (hp : wordP (l.getD k wd0)) (hr : 0 < k → lessP (l.getD (k - 1) wd0) (l.getD k wd0)) : chkW l (k + 1) :=
  chk_succ (R := lessP) (fun h h' => lessP_trans h h') wd0 hk h hp hr
theorem chkA_at {l : List Int} {k : Nat} (hk : k < l.length) (h : chkA l (k + 1)) : vs (l.getD k 0) ≠ 0 ∧ (0 < k → l.getD (k - 1) 0 < l.getD k 0) := chk_at (R := fun a b : Int => a < b) 0 hk h
theorem chkW_at {l : List Wd} {k : Nat} (hk : k < l.length) (h : chkW l (k + 1)) : wordP (l.getD k wd0) ∧ (0 < k → lessP (l.getD (k - 1) wd0) (l.getD k wd0)) := chk_at (R := lessP) wd0 hk h
theorem good_iff (m : Msg) : m.Good ↔ chkA m.all m.all.length ∧ chkW m.ws m.ws.length :=
  ⟨fun h => ⟨chk_of h.1 _, chk_of h.2 _⟩, fun h => ⟨chk_full h.1, chk_full h.2⟩⟩
theorem goodB_true {m : Msg} (h1 : chkA m.all m.all.length) (h2 : chkW m.ws m.ws.length) : m.goodB = true := decide_eq_true ((good_iff m).2 ⟨h1, h2⟩)
theorem goodB_all {m : Msg} {k : Nat} (h : ¬ chkA m.all k) : m.goodB = false := decide_eq_false fun hg => h (chk_of hg.1 k)
theorem goodB_ws {m : Msg} {k : Nat} (h : ¬ chkW m.ws k) : m.goodB = false := decide_eq_false fun hg => h (chk_of hg.2 k)
theorem lessB_iff (a b : Wd) : lessB a.t a.v b.t b.v = decide (lessP a b) := rfl

/-- What the second loop of Good knows at a round: behind the new box of the round's word. -/
structure GoodAt (w W wr Wn : World) (p : Value) (b o : Nat) (a q : Wd) : Prop where
  bel : Below (w.heap.size + 1) W Wn
  low : Below w.heap.size w Wn
  box : Wn.cell? ⟨w.heap.size, 1, none⟩ = some p
  n0 : Wn.cell? ⟨wr.heap.size, 0, none⟩ = some (.int .i64 a.t)
  n1 : Wn.cell? ⟨wr.heap.size, 1, none⟩ = some (.int .i64 a.v)
  n2 : Wn.cell? ⟨wr.heap.size, 2, none⟩ = some (.int .i64 a.e)
  n3 : Wn.cell? ⟨wr.heap.size, 3, none⟩ = some (.int .i64 a.b)
  p0 : Wn.cell? ⟨b, o, none⟩ = some (.int .i64 q.t)
  p1 : Wn.cell? ⟨b, o + 1, none⟩ = some (.int .i64 q.v)
  s1 : w.heap.size < Wn.heap.size
  s2 : wr.heap.size < Wn.heap.size
  s3 : b < Wn.heap.size
theorem GoodAt.go {w W wr Wn w1 : World} {p : Value} {b o : Nat} {a q : Wd} (h : GoodAt w W wr Wn p b o a q) (b1 : Below (World.drew Wn).heap.size (World.drew Wn) w1) : GoodAt w W wr w1 p b o a q := by
  have b2 : Below Wn.heap.size Wn w1 := (bel_drewN (Below.refl _ Wn) 1).trans b1
  have hs := b2.size
  have h1 := h.bel.size
  have h3 := h.s1
  have hx := h.s2
  have h5 := h.s3
  exact ⟨h.bel.trans (b2.mono (by omega)), h.low.trans (b2.mono (by omega)), (b2.cell (p := ⟨w.heap.size, 1, none⟩) h.s1).trans h.box, (b2.cell (p := ⟨wr.heap.size, 0, none⟩) h.s2).trans h.n0,
    (b2.cell (p := ⟨wr.heap.size, 1, none⟩) h.s2).trans h.n1, (b2.cell (p := ⟨wr.heap.size, 2, none⟩) h.s2).trans h.n2, (b2.cell (p := ⟨wr.heap.size, 3, none⟩) h.s2).trans h.n3, (b2.cell (p := ⟨b, o, none⟩) h.s3).trans h.p0, (b2.cell (p := ⟨b, o + 1, none⟩) h.s3).trans h.p1, by omega, by omega, by omega⟩

theorem GoodAt.on {w W wr Wn w1 : World} {p : Value} {b o : Nat} {a q : Wd} (h : GoodAt w W wr Wn p b o a q) (b2 : Below Wn.heap.size Wn w1) : GoodAt w W wr w1 p b o a q :=
  h.go ⟨b2.os, b2.tape, b2.output, b2.size, b2.block⟩
/-- The cells that the round's question reads. -/
theorem GoodAt.cells {w W wr Wn : World} {p : Value} {b o : Nat} {t v e g : Int} {q : Wd} (h : GoodAt w W wr Wn p b o ⟨t, v, e, g⟩ q) :
    Wn.cell? ⟨w.heap.size, 1, none⟩ = some p ∧ Wn.cell? ⟨wr.heap.size, 0, none⟩ = some (.int .i64 t) ∧ Wn.cell? ⟨wr.heap.size, 1, none⟩ = some (.int .i64 v) ∧ Wn.cell? ⟨wr.heap.size, 2, none⟩ = some (.int .i64 e) ∧ Wn.cell? ⟨wr.heap.size, 3, none⟩ = some (.int .i64 g) ∧
      Wn.cell? ⟨b, o, none⟩ = some (.int .i64 q.t) ∧ Wn.cell? ⟨b, o + 1, none⟩ = some (.int .i64 q.v) := ⟨h.box, h.n0, h.n1, h.n2, h.n3, h.p0, h.p1⟩

set_option maxHeartbeats 2000000 in
set_option maxRecDepth 100000 in
theorem good_all (A A' : Option Addr) (c c' : Nat) (l : List Int) (ws : List Wd) (B : Nat) (w : World) (hB : B ≤ w.heap.size) (hl : l.length ≤ 1048576) (hw : ws.length ≤ 1048576) (hA : IntsAt w B A l) (hA' : WordsAt w B A' ws) :
    Calls Try.prog 31 #[.agg #[.slice A l.length c, .slice A' ws.length c']] w fun e w' => e = .returned (.bool (Msg.goodB ⟨l, ws⟩)) ∧ Below w.heap.size w w' := by
  have hbx := Blk.new w 32 #[.slice A l.length c, .slice A' ws.length c']
  have hbl := bel_alloc w (.cells #[.slice A l.length c, .slice A' ws.length c'] 32)
  have hsz : (w.alloc (.cells #[.slice A l.length c, .slice A' ws.length c'] 32)).heap.size = w.heap.size + 1 := by simp
  generalize hn : l.length = n at *
  generalize hn' : ws.length = n' at *
  have HN := Lib.hid hn
  have HN' := Lib.hid hn'
  clear hn hn'
  go_enter Try.func31, Try.ntmps31
  go_wp2_with fail
  go_loop [10] (fun i => ∃ k : Nat, k ≤ n ∧ i = .int .i64 k ∧ chkA l k) (fun i => n - (intOf i).toNat)
  case atStart => exact ⟨0, Nat.zero_le _, rfl, chk_zero _ _ _⟩
  case round =>
    obtain ⟨k, hk, rfl, hchk⟩ := hrel
    by_cases hlt : k < n
    · obtain ⟨b, off, rfl, hb, hc⟩ := hA k (by rw [HN.out]; exact hlt)
      have c0 := (Below.cell hbl (p := ⟨b, off + k, none⟩) (by show b < _; omega)).trans hc
      clear hc
      by_cases hv : vs (l.getD k 0) = 0
      · have HO : Hid (Msg.goodB ⟨l, ws⟩ = false) := Lib.hid (goodB_all (m := ⟨l, ws⟩) (k := k + 1) fun h => (chkA_at (by rw [HN.out]; exact hlt) h).1 hv)
        have HV := Lib.hid hv
        generalize l.getD k 0 = x at *
        clear hv hchk
        go_wp2_with (go_at_call 59; refine (vs_any _ _).mono ?_; rw [HV.out]; rintro e w' ⟨rfl, rfl⟩)
        go_ret
        exact ⟨ret_bool HO.out.symm, hbl⟩
      · have hvp : 0 < vs (l.getD k 0) := by omega
        have hv9 := vs_le (l.getD k 0)
        by_cases h0 : k = 0
        · subst h0
          simp only [Nat.add_zero] at c0
          have hnx : chkA l (0 + 1) := chkA_succ (by rw [HN.out]; exact hlt) hchk hv (by omega)
          generalize hz : vs (l.getD 0 0) = z at *
          have HZ := Lib.hid hz
          generalize l.getD 0 0 = x at *
          have d : ((z : Int) == 0) = false := by simp; omega
          clear hv hchk hvp hz
          go_wp2_with (go_at_call 59; refine (vs_any _ _).mono ?_; rw [HZ.out]; rintro e w' ⟨rfl, rfl⟩)
          go_round
          case rel => exact ⟨0 + 1, by omega, by go_num, hnx⟩
          case measure => simp [intOf]; omega
        · obtain ⟨j, rfl⟩ : ∃ j, k = j + 1 := ⟨k - 1, by omega⟩
          obtain ⟨b', off', e', hb', hc'⟩ := hA j (by rw [HN.out]; omega)
          injection e' with e'
          injection e' with e1 e2
          subst e1 e2
          have c1 := (Below.cell hbl (p := ⟨b, off + j, none⟩) (by show b < _; omega)).trans hc'
          clear hc' hb'
          by_cases hr : l.getD j 0 < l.getD (j + 1) 0
          · have hnx : chkA l (j + 1 + 1) := chkA_succ (by rw [HN.out]; exact hlt) hchk hv (fun _ => by rw [Nat.add_sub_cancel]; exact hr)
            generalize hz : vs (l.getD (j + 1) 0) = z at *
            have HZ := Lib.hid hz
            generalize l.getD (j + 1) 0 = x at *
            generalize l.getD j 0 = y at *
            have d : ((z : Int) == 0) = false := by simp; omega
            have d2 : decide (x ≤ y) = false := decide_eq_false (by omega)
            have HX := Lib.hid hnx
            clear hv hchk hvp hz hr hnx
            go_wp2_with (go_at_call 59; refine (vs_any _ _).mono ?_; rw [HZ.out]; rintro e w' ⟨rfl, rfl⟩)
            go_round
            case rel => exact ⟨j + 1 + 1, by omega, by go_num, HX.out⟩
            case measure => simp [intOf]; omega
          · have HO : Hid (Msg.goodB ⟨l, ws⟩ = false) := Lib.hid (goodB_all (m := ⟨l, ws⟩) (k := j + 1 + 1) fun h => hr (by have := (chkA_at (by rw [HN.out]; exact hlt) h).2 (by omega); rwa [Nat.add_sub_cancel] at this))
            generalize hz : vs (l.getD (j + 1) 0) = z at *
            have HZ := Lib.hid hz
            generalize l.getD (j + 1) 0 = x at *
            generalize l.getD j 0 = y at *
            have d : ((z : Int) == 0) = false := by simp; omega
            have d2 : decide (x ≤ y) = true := decide_eq_true (by omega)
            clear hv hchk hvp hz hr
            go_wp2_with (go_at_call 59; refine (vs_any _ _).mono ?_; rw [HZ.out]; rintro e w' ⟨rfl, rfl⟩)
            go_ret
            exact ⟨ret_bool HO.out.symm, hbl⟩
    · obtain rfl : k = n := by omega
      have HC := Lib.hid hchk
      clear hchk hlt hA
      go_wp2_with fail
      generalize w.alloc (.cells #[.slice A k c, .slice A' n' c'] 32) = W at *
      go_loopw [36] (fun i wr => ∃ k' : Nat, k' ≤ n' ∧ i = .int .i64 k' ∧ chkW ws k' ∧ Below (w.heap.size + 1) W wr) (fun i _ => n' - (intOf i).toNat)
      case atStart => exact ⟨0, Nat.zero_le _, rfl, chk_zero _ _ _, Below.refl _ _⟩
      case round =>
        obtain ⟨k', hk', rfl, hchk, hbw⟩ := hrel
        by_cases hlt : k' < n'
        · obtain ⟨b, off, rfl, hb, q0, q1, q2, q3⟩ := hA' k' (by rw [HN'.out]; exact hlt)
          have hin : ∀ (o : Nat) (v : Value), w.cell? ⟨b, o, none⟩ = some v → wr.cell? ⟨b, o, none⟩ = some v := fun o v h => (hbw.cell (p := ⟨b, o, none⟩) (by show b < _; omega)).trans ((Below.cell hbl (p := ⟨b, o, none⟩) (by show b < _; omega)).trans h)
          have c0 := hin _ _ q0
          have c1 := hin _ _ q1
          have c2 := hin _ _ q2
          have c3 := hin _ _ q3
          have hbx' := Blk.below hbx hbw (by omega)
          have hwr := Blk.lt hbx'
          have hga : ∀ (j : Nat), j < n' → ∀ o : Obj, o = .cells #[.int .i64 (ws.getD k' wd0).t, .int .i64 (ws.getD k' wd0).v, .int .i64 (ws.getD k' wd0).e, .int .i64 (ws.getD k' wd0).b] 52 →
              GoodAt w W wr (wr.alloc o) (.slice (some ⟨b, off, none⟩) n' c') b (off + j * 4) (ws.getD k' wd0) (ws.getD j wd0) := by
            rintro j hj o rfl
            obtain ⟨b', off', e', hb', p0, p1, _, _⟩ := hA' j (by rw [HN'.out]; exact hj)
            injection e' with e'
            injection e' with e1 e2
            subst e1 e2
            have hbn := Blk.new wr 52 #[.int .i64 (ws.getD k' wd0).t, .int .i64 (ws.getD k' wd0).v, .int .i64 (ws.getD k' wd0).e, .int .i64 (ws.getD k' wd0).b]
            have hs := hbw.size
            rw [hsz] at hs
            exact ⟨hbw.alloc hs _, (hbl.trans (hbw.mono (by omega))).alloc (by omega) _, (hbx'.alloc _).cell 1, hbn.cell 0, hbn.cell 1, hbn.cell 2, hbn.cell 3, ((bel_alloc wr _).cell (p := ⟨b, off + j * 4, none⟩) (by show b < _; omega)).trans (hin _ _ p0),
              ((bel_alloc wr _).cell (p := ⟨b, off + j * 4 + 1, none⟩) (by show b < _; omega)).trans (hin _ _ p1), by simp; omega, by simp, by simp; omega⟩
          have HGA := Lib.hid hga
          clear q0 q1 q2 q3 hga hin hbx hbl hbx' hsz
          by_cases hv : wordP (ws.getD k' wd0)
          · have HV : Hid (wordB (ws.getD k' wd0) = true) := Lib.hid (decide_eq_true hv)
            by_cases h0 : k' = 0
            · subst h0
              have HX := Lib.hid (chkW_succ (by rw [HN'.out]; exact hlt) hchk hv (by omega))
              have ga := HGA.out 0 hlt _ rfl
              clear HGA
              generalize ws.getD 0 wd0 = x at *
              obtain ⟨t, v, e, g⟩ := x
              simp only [Nat.zero_mul, Nat.add_zero] at c0 c1 c2 c3
              clear hv hchk
              go_wp2_with fail
              generalize wr.alloc (.cells #[.int .i64 t, .int .i64 v, .int .i64 e, .int .i64 g] 52) = Wn at *
              clear c0 c1 c2 c3 hbw
              refine wp_region_pf (by kernel_rfl) (fun _ _ _ _ _ h => h) (fun hPF => ?_)
              obtain ⟨g2, g3, g4, ga2, ga3, _, _⟩ := ga.cells
              refine wpAny_ready (rs := [0]) (by kernel_rfl) (by simp) ?_
              refine AllReady.cons rfl (fun K hK => ?_) AllReady.nil
              go_simp
              refine hK _ _ ?_
              clear hK K
              refine wpAny_ready (rs := [1]) (by kernel_rfl) (by simp) ?_
              refine AllReady.cons rfl (fun K hK => ?_) AllReady.nil
              go_simp
              go_at_call 60
              refine (goodWord_any ⟨t, v, e, g⟩ _).mono ?_
              rw [HV.out]
              rintro e1 w1 ⟨rfl, b1⟩
              have ga1 := ga.go b1
              refine hK _ _ ?_
              clear hK K
              refine wpAny_takeD (i := 2) 43 (v := ?_) hPF rfl rfl (by kernel_rfl) (by kernel_rfl) (by kernel_rfl) (Or.inl ⟨by kernel_rfl, ?_⟩) ?_
              rotate_left
              · intro w; go_simp; try with_reducible rfl
              simp only [Act.put]
              refine wpAny_takeD (i := 3) 44 (v := ?_) hPF rfl rfl (by kernel_rfl) (by kernel_rfl) (by kernel_rfl) (Or.inl ⟨by kernel_rfl, ?_⟩) ?_
              rotate_left
              · intro w; go_simp; try with_reducible rfl
              simp only [Act.put]
              refine wpAny_takeD (i := 4) 45 (v := ?_) hPF rfl rfl (by kernel_rfl) (by kernel_rfl) (by kernel_rfl) (Or.inl ⟨by kernel_rfl, ?_⟩) ?_
              rotate_left
              · intro w; go_simp; try with_reducible rfl
              simp only [Act.put]
              refine wpAny_takeD (i := 5) 46 (v := ?_) hPF rfl rfl (by kernel_rfl) (by kernel_rfl) (by kernel_rfl) (Or.inl ⟨by kernel_rfl, ?_⟩) ?_
              rotate_left
              · intro w; go_simp; try with_reducible rfl
              simp only [Act.put]
              refine wpAny_takeD (i := 6) 47 (v := ?_) hPF rfl rfl (by kernel_rfl) (by kernel_rfl) (by kernel_rfl) (Or.inl ⟨by kernel_rfl, ?_⟩) ?_
              rotate_left
              · intro w; go_simp; try with_reducible rfl
              simp only [Act.put]
              refine wpAny_takeD (i := 7) 48 (v := undef) hPF rfl rfl (by kernel_rfl) (by kernel_rfl) (by kernel_rfl) (Or.inr ⟨by kernel_rfl, rfl⟩) ?_
              simp only [Act.put]
              refine wpAny_takeD (i := 8) 49 (v := undef) hPF rfl rfl (by kernel_rfl) (by kernel_rfl) (by kernel_rfl) (Or.inr ⟨by kernel_rfl, rfl⟩) ?_
              simp only [Act.put]
              refine wpAny_takeD (i := 9) 50 (v := undef) hPF rfl rfl (by kernel_rfl) (by kernel_rfl) (by kernel_rfl) (Or.inr ⟨by kernel_rfl, rfl⟩) ?_
              simp only [Act.put]
              refine wpAny_takeD (i := 10) 51 (v := undef) hPF rfl rfl (by kernel_rfl) (by kernel_rfl) (by kernel_rfl) (Or.inr ⟨by kernel_rfl, rfl⟩) ?_
              simp only [Act.put]
              refine wpAny_takeD (i := 11) 52 (v := undef) hPF rfl rfl (by kernel_rfl) (by kernel_rfl) (by kernel_rfl) (Or.inr ⟨by kernel_rfl, rfl⟩) ?_
              simp only [Act.put]
              refine wpAny_takeD (i := 12) 53 (v := undef) hPF rfl rfl (by kernel_rfl) (by kernel_rfl) (by kernel_rfl) (Or.inr ⟨by kernel_rfl, rfl⟩) ?_
              simp only [Act.put]
              refine wpAny_takeD (i := 13) 54 (v := undef) hPF rfl rfl (by kernel_rfl) (by kernel_rfl) (by kernel_rfl) (Or.inr ⟨by kernel_rfl, rfl⟩) ?_
              simp only [Act.put]
              refine wpAny_takeD (i := 14) 55 (v := undef) hPF rfl rfl (by kernel_rfl) (by kernel_rfl) (by kernel_rfl) (Or.inr ⟨by kernel_rfl, rfl⟩) ?_
              simp only [Act.put]
              refine wpAny_takeD (i := 15) 56 (v := undef) hPF rfl rfl (by kernel_rfl) (by kernel_rfl) (by kernel_rfl) (Or.inr ⟨by kernel_rfl, rfl⟩) ?_
              simp only [Act.put]
              refine wpAny_takeD (i := 16) 57 (v := undef) hPF rfl rfl (by kernel_rfl) (by kernel_rfl) (by kernel_rfl) (Or.inr ⟨by kernel_rfl, rfl⟩) ?_
              simp only [Act.put]
              refine wpAny_takeD (i := 17) 58 (v := undef) hPF rfl rfl (by kernel_rfl) (by kernel_rfl) (by kernel_rfl) (Or.inr ⟨by kernel_rfl, rfl⟩) ?_
              simp only [Act.put]
              refine wpAny_takeD (i := 18) 59 (v := ?_) hPF rfl rfl (by kernel_rfl) (by kernel_rfl) (by kernel_rfl) (Or.inl ⟨by kernel_rfl, ?_⟩) ?_
              rotate_left
              · intro w; go_simp; try with_reducible rfl
              simp only [Act.put]
              refine wpAny_takeD (i := 19) 60 (v := ?_) hPF rfl rfl (by kernel_rfl) (by kernel_rfl) (by kernel_rfl) (Or.inl ⟨by kernel_rfl, ?_⟩) ?_
              rotate_left
              · intro w; go_simp; try with_reducible rfl
              simp only [Act.put]
              refine wpAny_done (by kernel_rfl) ?_ _
              simp only [List.setIfInBounds_toArray, List.set_cons_zero, List.set_cons_succ]
              have hf := ga1.bel
              clear b1 ga1 ga
              go_wp2_with fail
              go_roundw
              case rel => exact ⟨0 + 1, by omega, by go_num, HX.out, hf⟩
              case measure => simp [intOf]; omega
            · obtain ⟨j, rfl⟩ : ∃ j, k' = j + 1 := ⟨k' - 1, by omega⟩
              have ga := HGA.out j (by omega) _ rfl
              clear HGA
              have hj1 : j < n' := by omega
              have hless := cmpA_less (ws.getD j wd0).t (ws.getD j wd0).v (ws.getD (j + 1) wd0).t (ws.getD (j + 1) wd0).v
              rw [lessB_iff] at hless
              by_cases hr : lessP (ws.getD j wd0) (ws.getD (j + 1) wd0)
              · have HX := Lib.hid (chkW_succ (by rw [HN'.out]; exact hlt) hchk hv (fun _ => by rw [Nat.add_sub_cancel]; exact hr))
                rw [decide_eq_true hr] at hless
                generalize ws.getD (j + 1) wd0 = x at *
                generalize ws.getD j wd0 = y at *
                obtain ⟨t, v, e, g⟩ := x
                obtain ⟨t', v', e', g'⟩ := y
                simp only at c0 c1 c2 c3 hless
                simp only [Bool.not_true] at hless
                generalize hz : cmpA t' v' t v = z at *
                have HZ := Lib.hid hz
                clear hv hchk hz hr
                go_wp2_with fail
                generalize wr.alloc (.cells #[.int .i64 t, .int .i64 v, .int .i64 e, .int .i64 g] 52) = Wn at *
                clear c0 c1 c2 c3 hbw
                have hj2 : (j : Int) < (n' : Int) := by omega
                have hj3 : (0 : Int) ≤ (j : Int) := by omega
                have hj4 : IntKind.i64.wrap (j : Int) = (j : Int) := IntWalk.i64_in _ (by omega)
                have hj5 : IntKind.i64.wrap ((j : Int) + 1 - 1) = (j : Int) := by rw [Int.add_sub_cancel]; exact hj4
                go_region_held3 (fun w' => w'.cell? ⟨w.heap.size, 1, none⟩ = some (.slice (some ⟨b, off, none⟩) n' c') ∧ w'.cell? ⟨wr.heap.size, 0, none⟩ = some (.int .i64 t) ∧ w'.cell? ⟨wr.heap.size, 1, none⟩ = some (.int .i64 v) ∧ w'.cell? ⟨wr.heap.size, 2, none⟩ = some (.int .i64 e) ∧ w'.cell? ⟨wr.heap.size, 3, none⟩ = some (.int .i64 g) ∧ w'.cell? ⟨b, off + j * 4, none⟩ = some (.int .i64 t') ∧ w'.cell? ⟨b, off + j * 4 + 1, none⟩ = some (.int .i64 v')) (first | exact ga2.cells | exact ga1.cells | exact ga.cells)
                  (first
                    | (go_at_call 60; refine (goodWord_any ⟨t, v, e, g⟩ _).mono ?_; rw [HV.out]; rintro e1 w1 ⟨rfl, b1⟩; have ga1 := ga.go b1)
                    | (go_at_call 61; refine (compare_any t' v' t v _).mono ?_; rw [HZ.out]; rintro e2 w2 ⟨rfl, b2⟩; have ga2 := ga1.on b2))
                all_goals
                  have hf2 := ga2.bel
                  clear b1 b2 ga ga1 ga2
                  go_wp2_with fail
                  go_roundw
                  case rel => exact ⟨j + 1 + 1, by omega, by go_num, HX.out, hf2⟩
                  case measure => simp [intOf]; omega
              · have HO : Hid (Msg.goodB ⟨l, ws⟩ = false) := Lib.hid (goodB_ws (m := ⟨l, ws⟩) (k := j + 1 + 1) fun h => hr (by have := (chkW_at (by rw [HN'.out]; exact hlt) h).2 (by omega); rwa [Nat.add_sub_cancel] at this))
                rw [decide_eq_false hr] at hless
                generalize ws.getD (j + 1) wd0 = x at *
                generalize ws.getD j wd0 = y at *
                obtain ⟨t, v, e, g⟩ := x
                obtain ⟨t', v', e', g'⟩ := y
                simp only at c0 c1 c2 c3 hless
                simp only [Bool.not_false] at hless
                generalize hz : cmpA t' v' t v = z at *
                have HZ := Lib.hid hz
                clear hv hchk hz hr
                go_wp2_with fail
                generalize wr.alloc (.cells #[.int .i64 t, .int .i64 v, .int .i64 e, .int .i64 g] 52) = Wn at *
                clear c0 c1 c2 c3 hbw
                have hj2 : (j : Int) < (n' : Int) := by omega
                have hj3 : (0 : Int) ≤ (j : Int) := by omega
                have hj4 : IntKind.i64.wrap (j : Int) = (j : Int) := IntWalk.i64_in _ (by omega)
                have hj5 : IntKind.i64.wrap ((j : Int) + 1 - 1) = (j : Int) := by rw [Int.add_sub_cancel]; exact hj4
                go_region_held3 (fun w' => w'.cell? ⟨w.heap.size, 1, none⟩ = some (.slice (some ⟨b, off, none⟩) n' c') ∧ w'.cell? ⟨wr.heap.size, 0, none⟩ = some (.int .i64 t) ∧ w'.cell? ⟨wr.heap.size, 1, none⟩ = some (.int .i64 v) ∧ w'.cell? ⟨wr.heap.size, 2, none⟩ = some (.int .i64 e) ∧ w'.cell? ⟨wr.heap.size, 3, none⟩ = some (.int .i64 g) ∧ w'.cell? ⟨b, off + j * 4, none⟩ = some (.int .i64 t') ∧ w'.cell? ⟨b, off + j * 4 + 1, none⟩ = some (.int .i64 v')) (first | exact ga2.cells | exact ga1.cells | exact ga.cells)
                  (first
                    | (go_at_call 60; refine (goodWord_any ⟨t, v, e, g⟩ _).mono ?_; rw [HV.out]; rintro e1 w1 ⟨rfl, b1⟩; have ga1 := ga.go b1)
                    | (go_at_call 61; refine (compare_any t' v' t v _).mono ?_; rw [HZ.out]; rintro e2 w2 ⟨rfl, b2⟩; have ga2 := ga1.on b2))
                all_goals
                  have hf2 := ga2.low
                  clear b1 b2 ga ga1 ga2
                  go_wp2_with fail
                  go_ret
                  exact ⟨ret_bool HO.out.symm, hf2⟩
          · have HO : Hid (Msg.goodB ⟨l, ws⟩ = false) := Lib.hid (goodB_ws (m := ⟨l, ws⟩) (k := k' + 1) fun h => hv (chkW_at (by rw [HN'.out]; exact hlt) h).1)
            have HV : Hid (wordB (ws.getD k' wd0) = false) := Lib.hid (decide_eq_false hv)
            have ga := HGA.out k' hlt _ rfl
            clear HGA
            generalize ws.getD k' wd0 = x at *
            obtain ⟨t, v, e, g⟩ := x
            simp only at c0 c1 c2 c3
            clear hv hchk
            go_wp2_with fail
            generalize wr.alloc (.cells #[.int .i64 t, .int .i64 v, .int .i64 e, .int .i64 g] 52) = Wn at *
            clear c0 c1 c2 c3 hbw
            refine wp_region_pf (by kernel_rfl) (fun _ _ _ _ _ h => h) (fun hPF => ?_)
            obtain ⟨g2, g3, g4, ga2, ga3, _, _⟩ := ga.cells
            refine wpAny_ready (rs := [0]) (by kernel_rfl) (by simp) ?_
            refine AllReady.cons rfl (fun K hK => ?_) AllReady.nil
            go_simp
            refine hK _ _ ?_
            clear hK K
            refine wpAny_ready (rs := [1]) (by kernel_rfl) (by simp) ?_
            refine AllReady.cons rfl (fun K hK => ?_) AllReady.nil
            go_simp
            go_at_call 60
            refine (goodWord_any ⟨t, v, e, g⟩ _).mono ?_
            rw [HV.out]
            rintro e1 w1 ⟨rfl, b1⟩
            have ga1 := ga.go b1
            refine hK _ _ ?_
            clear hK K
            refine wpAny_takeD (i := 2) 43 (v := ?_) hPF rfl rfl (by kernel_rfl) (by kernel_rfl) (by kernel_rfl) (Or.inl ⟨by kernel_rfl, ?_⟩) ?_
            rotate_left
            · intro w; go_simp; try with_reducible rfl
            simp only [Act.put]
            refine wpAny_takeD (i := 3) 44 (v := ?_) hPF rfl rfl (by kernel_rfl) (by kernel_rfl) (by kernel_rfl) (Or.inl ⟨by kernel_rfl, ?_⟩) ?_
            rotate_left
            · intro w; go_simp; try with_reducible rfl
            simp only [Act.put]
            refine wpAny_takeD (i := 4) 45 (v := undef) hPF rfl rfl (by kernel_rfl) (by kernel_rfl) (by kernel_rfl) (Or.inr ⟨by kernel_rfl, rfl⟩) ?_
            simp only [Act.put]
            refine wpAny_takeD (i := 5) 46 (v := undef) hPF rfl rfl (by kernel_rfl) (by kernel_rfl) (by kernel_rfl) (Or.inr ⟨by kernel_rfl, rfl⟩) ?_
            simp only [Act.put]
            refine wpAny_takeD (i := 6) 47 (v := undef) hPF rfl rfl (by kernel_rfl) (by kernel_rfl) (by kernel_rfl) (Or.inr ⟨by kernel_rfl, rfl⟩) ?_
            simp only [Act.put]
            refine wpAny_takeD (i := 7) 48 (v := undef) hPF rfl rfl (by kernel_rfl) (by kernel_rfl) (by kernel_rfl) (Or.inr ⟨by kernel_rfl, rfl⟩) ?_
            simp only [Act.put]
            refine wpAny_takeD (i := 8) 49 (v := undef) hPF rfl rfl (by kernel_rfl) (by kernel_rfl) (by kernel_rfl) (Or.inr ⟨by kernel_rfl, rfl⟩) ?_
            simp only [Act.put]
            refine wpAny_takeD (i := 9) 50 (v := undef) hPF rfl rfl (by kernel_rfl) (by kernel_rfl) (by kernel_rfl) (Or.inr ⟨by kernel_rfl, rfl⟩) ?_
            simp only [Act.put]
            refine wpAny_takeD (i := 10) 51 (v := undef) hPF rfl rfl (by kernel_rfl) (by kernel_rfl) (by kernel_rfl) (Or.inr ⟨by kernel_rfl, rfl⟩) ?_
            simp only [Act.put]
            refine wpAny_takeD (i := 11) 52 (v := undef) hPF rfl rfl (by kernel_rfl) (by kernel_rfl) (by kernel_rfl) (Or.inr ⟨by kernel_rfl, rfl⟩) ?_
            simp only [Act.put]
            refine wpAny_takeD (i := 12) 53 (v := undef) hPF rfl rfl (by kernel_rfl) (by kernel_rfl) (by kernel_rfl) (Or.inr ⟨by kernel_rfl, rfl⟩) ?_
            simp only [Act.put]
            refine wpAny_takeD (i := 13) 54 (v := undef) hPF rfl rfl (by kernel_rfl) (by kernel_rfl) (by kernel_rfl) (Or.inr ⟨by kernel_rfl, rfl⟩) ?_
            simp only [Act.put]
            refine wpAny_takeD (i := 14) 55 (v := undef) hPF rfl rfl (by kernel_rfl) (by kernel_rfl) (by kernel_rfl) (Or.inr ⟨by kernel_rfl, rfl⟩) ?_
            simp only [Act.put]
            refine wpAny_takeD (i := 15) 56 (v := undef) hPF rfl rfl (by kernel_rfl) (by kernel_rfl) (by kernel_rfl) (Or.inr ⟨by kernel_rfl, rfl⟩) ?_
            simp only [Act.put]
            refine wpAny_takeD (i := 16) 57 (v := undef) hPF rfl rfl (by kernel_rfl) (by kernel_rfl) (by kernel_rfl) (Or.inr ⟨by kernel_rfl, rfl⟩) ?_
            simp only [Act.put]
            refine wpAny_takeD (i := 17) 58 (v := undef) hPF rfl rfl (by kernel_rfl) (by kernel_rfl) (by kernel_rfl) (Or.inr ⟨by kernel_rfl, rfl⟩) ?_
            simp only [Act.put]
            refine wpAny_takeD (i := 18) 59 (v := undef) hPF rfl rfl (by kernel_rfl) (by kernel_rfl) (by kernel_rfl) (Or.inr ⟨by kernel_rfl, rfl⟩) ?_
            simp only [Act.put]
            refine wpAny_takeD (i := 19) 60 (v := ?_) hPF rfl rfl (by kernel_rfl) (by kernel_rfl) (by kernel_rfl) (Or.inl ⟨by kernel_rfl, ?_⟩) ?_
            rotate_left
            · intro w; go_simp; try with_reducible rfl
            simp only [Act.put]
            refine wpAny_done (by kernel_rfl) ?_ _
            simp only [List.setIfInBounds_toArray, List.set_cons_zero, List.set_cons_succ]
            have hf := ga1.low
            clear b1 ga1 ga
            go_wp2_with fail
            go_ret
            exact ⟨ret_bool HO.out.symm, hf⟩
        · obtain rfl : k' = n' := by omega
          have HO : Hid (Msg.goodB ⟨l, ws⟩ = true) := Lib.hid (goodB_true (m := ⟨l, ws⟩) (by show chkA l l.length; rw [HN.out]; exact HC.out) (by show chkW ws ws.length; rw [HN'.out]; exact hchk))
          have HB := Lib.hid (hbl.trans (hbw.mono (by omega)))
          clear hchk hbw
          go_wp2_with fail
          go_ret
          exact ⟨ret_bool HO.out.symm, HB.out⟩
end Go.Proofs.Ythghedlgeceepaa
