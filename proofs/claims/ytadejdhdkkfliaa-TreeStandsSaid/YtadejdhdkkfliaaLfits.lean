/- fits: bridges with names of their own, links between two of them, each port in one at most. No condition. -/
import Derived.Test.YtadejdhdkkfliaaLk
import Derived.Test.YtadejdhdkkfliaaTrow
import Derived.Deep.WholeRow
import Derived.Deep.RegionHeld3
namespace Go.Proofs.Ytadejdhdkkfliaa
open Go.RowKit
set_option maxRecDepth 100000

def used0 : Array Value := (List.replicate 48 (Value.bool false)).toArray
theorem used_info : (Try.prog.info? 97).map (fun i => (i.zero, i.size)) = some (some (.agg used0), 48) := by kernel_rfl
theorem used_one : used0.all (·.oneCell') = true := by unfold used0; simp [Value.oneCell']
def boU (S : List Bool) : Array Value := (S.map Value.bool).toArray
theorem used_bo : used0 = boU (List.replicate 48 false) := by unfold used0 boU; rw [List.map_replicate]
section
variable {w : World} {g : Nat} {S : List Bool} {t : TypeId}
theorem bo_cell (h : Blk w g t (boU S)) {b : Nat} (hb : b < S.length) : w.cell? ⟨g, b, none⟩ = some (.bool (S.getD b false)) := by
  refine (h.cell b).trans ?_
  unfold boU
  rw [List.getElem?_toArray, List.getElem?_map, List.getD_eq_getElem?_getD, List.getElem?_eq_getElem hb]
  rfl
theorem bo_mark (h : Blk w g t (boU S)) (b : Nat) : Blk (w.setCell ⟨g, b, none⟩ (.bool true)) g t (boU (S.set b true)) := by
  have := h.set_ b (.bool true)
  have e : (boU S).setIfInBounds b (.bool true) = boU (S.set b true) := by
    unfold boU
    rw [List.map_set]
    simp
  rw [e] at this
  exact this
end
theorem bset_getD (S : List Bool) (i j : Nat) : (S.set i true).getD j false = true ↔ (j = i ∧ i < S.length) ∨ S.getD j false = true := by
  rw [List.getD_eq_getElem?_getD, List.getD_eq_getElem?_getD, List.getElem?_set]
  by_cases h : i = j
  · subst h
    by_cases hl : i < S.length
    · simp [hl]
    · rw [if_pos rfl, if_neg hl, List.getElem?_eq_none (by omega)]
      simp [hl]
  · rw [if_neg h]
    constructor
    · exact .inr
    · rintro (⟨h', _⟩ | h')
      · exact absurd h'.symm h
      · exact h'
theorem run_move_at (x : Operand) (dst : Option Tmp) (ty : TypeId) (pos : String) (after : Array Edge) (guard : Option (Nat × Bool)) (a : Act) (w : World) (v : Value) (hx : a.eval x = v) :
    (execOp a.eval { dst, op := .move x, type := ty, pos, after, guard }).run Try.prog w = .ok (.value v) w := by
  unfold execOp
  simp only [hx]
  rfl
theorem run_pick_at (x y z : Operand) (dst : Option Tmp) (ty : TypeId) (pos : String) (after : Array Edge) (guard : Option (Nat × Bool)) (a : Act) (w : World) (b : Bool) (v u : Value) (hx : a.eval x = .bool b) (hy : a.eval y = v) (hz : a.eval z = u) :
    (execOp a.eval { dst, op := .pick x y z, type := ty, pos, after, guard }).run Try.prog w = .ok (.value (if b = true then v else u)) w := by
  unfold execOp
  simp only [hx, hy, hz]
  cases b <;> rfl
theorem run_fa_at (x : Operand) (k : Nat) (dst : Option Tmp) (ty : TypeId) (pos : String) (after : Array Edge) (guard : Option (Nat × Bool)) (a : Act) (w : World) (b : Nat) (hx : a.eval x = .pointer (some ⟨b, 0, none⟩)) (hk : k < 6) :
    (execOp a.eval { dst, op := .fieldAddr 99 x k, type := ty, pos, after, guard }).run Try.prog w = .ok (.value (.pointer (some ⟨b, k, none⟩))) w := by
  unfold execOp
  simp only [hx]
  rcases (show k = 0 ∨ k = 1 ∨ k = 2 ∨ k = 3 ∨ k = 4 ∨ k = 5 by omega) with rfl | rfl | rfl | rfl | rfl | rfl <;> go_simp
theorem run_len_at (x : Operand) (dst : Option Tmp) (ty : TypeId) (pos : String) (after : Array Edge) (guard : Option (Nat × Bool)) (a : Act) (w : World) (A : Option Addr) (n c : Nat) (hx : a.eval x = .slice A n c) :
    (execOp a.eval { dst, op := .call { callee := .builtin .len, args := #[x], argTypes := #[47] }, type := ty, pos, after, guard }).run Try.prog w = .ok (.value (.int .i64 n)) w := by
  rw [BigFrame.execOp_builtin]
  simp only [BigFrame.builtin_len, List.map_toArray, List.map_cons, List.map_nil, hx]
  go_simp
theorem wpList_yieldD {P : Program} {ops : Array Oper} {Q : Exit → Act → World → Prop} {a : Act} {w : World} {rest : List Oper} {o : Oper} (d : Nat) {v v' : Value} (hd : o.dst = some d) (hw : Region.wanted o (yielded ops a.tmps) = true)
    (hr : (execOp a.eval o).run P w = .ok (.value v) w) (hv : v = v') (h : wpList P ops Q rest (a.put (some d) v') w) : wpList P ops Q (o :: rest) a w :=
  wpList_step fun K hK => by
    rw [if_pos hw]
    subst hv
    simp only [Oper.wp, hr, Oper.upon]
    rw [hd]
    exact hK _ _ h
theorem wpList_skipD {P : Program} {ops : Array Oper} {Q : Exit → Act → World → Prop} {a : Act} {w : World} {rest : List Oper} {o : Oper} (d : Nat) (hd : o.dst = some d) (hw : Region.wanted o (yielded ops a.tmps) = false) (h : wpList P ops Q rest (a.put (some d) undef) w) : wpList P ops Q (o :: rest) a w :=
  wpList_skip hw (by rw [hd]; exact h)
theorem run_load_at (x : Operand) (dst : Option Tmp) (ty : TypeId) (pos : String) (after : Array Edge) (guard : Option (Nat × Bool)) (a : Act) (w : World) (b o : Nat) (v : Int) (hx : a.eval x = .pointer (some ⟨b, o, none⟩)) (hc : w.cell? ⟨b, o, none⟩ = some (.int .i64 v)) :
    (execOp a.eval { dst, op := .load 3 x, type := ty, pos, after, guard }).run Try.prog w = .ok (.value (.int .i64 v)) w := by
  unfold execOp
  simp only [hx]
  go_simp
theorem run_lss_at (x y : Operand) (dst : Option Tmp) (ty : TypeId) (pos : String) (after : Array Edge) (guard : Option (Nat × Bool)) (a : Act) (w : World) (u v : Int) (hx : a.eval x = .int .i64 u) (hy : a.eval y = .int .i64 v) :
    (execOp a.eval { dst, op := .binOp .lss 3 x y 3, type := ty, pos, after, guard }).run Try.prog w = .ok (.value (.bool (decide (u < v)))) w := by
  unfold execOp
  simp only [hx, hy]
  go_simp
theorem run_geq_at (x y : Operand) (dst : Option Tmp) (ty : TypeId) (pos : String) (after : Array Edge) (guard : Option (Nat × Bool)) (a : Act) (w : World) (u v : Int) (hx : a.eval x = .int .i64 u) (hy : a.eval y = .int .i64 v) :
    (execOp a.eval { dst, op := .binOp .geq 3 x y 3, type := ty, pos, after, guard }).run Try.prog w = .ok (.value (.bool (decide (v ≤ u)))) w := by
  unfold execOp
  simp only [hx, hy]
  go_simp
theorem run_gtr_at (x y : Operand) (dst : Option Tmp) (ty : TypeId) (pos : String) (after : Array Edge) (guard : Option (Nat × Bool)) (a : Act) (w : World) (u v : Int) (hx : a.eval x = .int .i64 u) (hy : a.eval y = .int .i64 v) :
    (execOp a.eval { dst, op := .binOp .gtr 3 x y 3, type := ty, pos, after, guard }).run Try.prog w = .ok (.value (.bool (decide (v < u)))) w := by
  unfold execOp
  simp only [hx, hy]
  go_simp
theorem run_eql_at (x y : Operand) (dst : Option Tmp) (ty : TypeId) (pos : String) (after : Array Edge) (guard : Option (Nat × Bool)) (a : Act) (w : World) (u v : Int) (hx : a.eval x = .int .i64 u) (hy : a.eval y = .int .i64 v) :
    (execOp a.eval { dst, op := .binOp .eql 3 x y 3, type := ty, pos, after, guard }).run Try.prog w = .ok (.value (.bool ((u == v)))) w := by
  unfold execOp
  simp only [hx, hy]
  go_simp
/-- A link that can be. -/
structure OkLi (n : Nat) (x : Li) : Prop where
  a : 0 ≤ x.a ∧ x.a < n
  b : 0 ≤ x.b ∧ x.b < n
  ne : x.a ≠ x.b
  pa : 0 ≤ x.pa ∧ x.pa ≤ 5
  pb : 0 ≤ x.pb ∧ x.pb ≤ 5
  ca : 1 ≤ x.ca ∧ x.ca ≤ 1048576
  cb : 1 ≤ x.cb ∧ x.cb ≤ 1048576
/-- The first q links can be, and their ports are marked. -/
structure FitQ (n : Nat) (l : List Li) (q : Nat) (S : List Bool) : Prop where
  len : S.length = 48
  mark : ∀ (x : Nat) (p : Nat), x < 8 → p ≤ 5 → (S.getD (x * 6 + p) false = true ↔ UsedIn ((l.take q).map Li.lk) x p)
  off : ((l.take q).map Li.lk).Pairwise Off
  each : ∀ x ∈ l.take q, OkLi n x
theorem FitQ.zero (n : Nat) (l : List Li) : FitQ n l 0 (List.replicate 48 false) :=
  ⟨List.length_replicate, fun x p hx hp => by
    rw [List.take_zero]
    constructor
    · intro h
      rw [List.getD_eq_getElem?_getD, List.getElem?_replicate] at h
      split at h <;> simp at h
    · exact fun h => absurd h (used_nil x p), by rw [List.take_zero]; exact List.Pairwise.nil, fun x hx => by rw [List.take_zero] at hx; cases hx⟩
theorem FitQ.next {n : Nat} {l : List Li} {q : Nat} {S : List Bool} (h : FitQ n l q S) (hn : n ≤ 8) (hq : q < l.length) {a b pa pb : Nat} {xca xcb : Int} (hx : l.getD q li0 = ⟨a, pa, b, pb, xca, xcb⟩) (ho : OkLi n ⟨a, pa, b, pb, xca, xcb⟩) (h1 : S.getD (a * 6 + pa) false = false) (h2 : S.getD (b * 6 + pb) false = false) :
    FitQ n l (q + 1) ((S.set (a * 6 + pa) true).set (b * 6 + pb) true) := by
  have ha : a < 8 := by have h3 : (a : Int) < n := ho.a.2; omega
  have hb : b < 8 := by have h3 : (b : Int) < n := ho.b.2; omega
  have hpa : pa ≤ 5 := by have h3 : (pa : Int) ≤ 5 := ho.pa.2; omega
  have hpb : pb ≤ 5 := by have h3 : (pb : Int) ≤ 5 := ho.pb.2; omega
  have htk : l.take (q + 1) = l.take q ++ [⟨a, pa, b, pb, xca, xcb⟩] := by
    rw [List.take_succ_eq_append_getElem hq, ← hx, List.getD_eq_getElem?_getD, List.getElem?_eq_getElem hq]
    rfl
  have hu1 : ¬ UsedIn ((l.take q).map Li.lk) a pa := fun hu => by rw [(h.mark a pa ha hpa).2 hu] at h1; cases h1
  have hu2 : ¬ UsedIn ((l.take q).map Li.lk) b pb := fun hu => by rw [(h.mark b pb hb hpb).2 hu] at h2; cases h2
  refine ⟨by rw [List.length_set, List.length_set]; exact h.len, fun x p hx hp => ?_, ?_, fun x hx => ?_⟩
  · rw [htk, List.map_append, List.map_singleton, used_snoc, bset_getD, bset_getD, List.length_set, h.len, h.mark x p hx hp]
    have e1 : (Li.lk ⟨a, pa, b, pb, xca, xcb⟩).a = a := rfl
    have e2 : (Li.lk ⟨a, pa, b, pb, xca, xcb⟩).pa = (pa : Int) := rfl
    have e3 : (Li.lk ⟨a, pa, b, pb, xca, xcb⟩).b = b := rfl
    have e4 : (Li.lk ⟨a, pa, b, pb, xca, xcb⟩).pb = (pb : Int) := rfl
    rw [e1, e2, e3, e4]
    constructor
    · rintro (⟨h5, _⟩ | ⟨h5, _⟩ | h5)
      · exact .inr (.inr ⟨by omega, by omega⟩)
      · exact .inr (.inl ⟨by omega, by omega⟩)
      · exact .inl h5
    · rintro (h5 | ⟨h5, h6⟩ | ⟨h5, h6⟩)
      · exact .inr (.inr h5)
      · exact .inr (.inl ⟨by omega, by omega⟩)
      · exact .inl ⟨by omega, by omega⟩
  · rw [htk, List.map_append, List.map_singleton]
    exact off_snoc h.off hu1 hu2
  · rw [htk] at hx
    rcases List.mem_append.1 hx with hx | hx
    · exact h.each x hx
    · rw [List.mem_singleton.1 hx]
      exact ho
theorem FitQ.done {n : Nat} {l : List Li} {f : Nat → Int} {S : List Bool} (h : FitQ n l l.length S) (hn : n ≤ 8) (hnm : ∀ x, x < n → nameB (f x) = true ∧ ∀ y, y < x → f y ≠ f x) : Big n f (l.map Li.lk) ∧ ∀ x ∈ l, 0 ≤ x.a ∧ 0 ≤ x.b := by
  have hoff := h.off
  have heach := h.each
  rw [List.take_length] at hoff heach
  have hm : ∀ y ∈ l.map Li.lk, ∃ x ∈ l, y = x.lk := fun y hy => by
    obtain ⟨x, hx, rfl⟩ := List.mem_map.1 hy
    exact ⟨x, hx, rfl⟩
  refine ⟨⟨⟨fun x y hx hy e => ?_, fun y hy => ?_, fun y hy => ?_, hoff⟩, hn, fun x hx => (hnm x hx).1, fun y hy => ?_, fun y hy => ?_⟩, fun x hx => ⟨(heach x hx).a.1, (heach x hx).b.1⟩⟩
  · rcases Nat.lt_trichotomy x y with h1 | h1 | h1
    · exact absurd e ((hnm y hy).2 x h1)
    · exact h1
    · exact absurd e.symm ((hnm x hx).2 y h1)
  · obtain ⟨x, hx, rfl⟩ := hm y hy
    have o := heach x hx
    have h1 := o.a
    have h2 := o.b
    have h3 := o.ne
    refine ⟨by show x.a.toNat < n; omega, by show x.b.toNat < n; omega, by show x.a.toNat ≠ x.b.toNat; omega⟩
  · obtain ⟨x, hx, rfl⟩ := hm y hy
    exact ⟨(heach x hx).ca.1, (heach x hx).cb.1⟩
  · obtain ⟨x, hx, rfl⟩ := hm y hy
    exact ⟨(heach x hx).pa.1, (heach x hx).pa.2, (heach x hx).pb.1, (heach x hx).pb.2⟩
  · obtain ⟨x, hx, rfl⟩ := hm y hy
    exact ⟨(heach x hx).ca.2, (heach x hx).cb.2⟩
set_option maxHeartbeats 8000000 in
theorem fits_any (A : Option Addr) (n c : Nat) (f : Nat → Int) (A2 : Option Addr) (c2 : Nat) (l : List Li) (w : World) (h : IdAt w w.heap.size A n f) (hf : ∀ i, i < n → f i ≤ 9223372036854775807) (hnc : n ≤ c) (h2 : LiAt w w.heap.size A2 l) (hok : ∀ x ∈ l, x.ok) (hn : n ≤ maxLen) (hl : l.length ≤ maxLen) :
    Calls Try.prog 27 #[.slice A n c, .slice A2 l.length c2] w fun e w' => (e = .returned (.bool false) ∨ e = .returned (.bool true) ∧ Big n f (l.map Li.lk) ∧ 1 ≤ n ∧ l.length ≤ 16 ∧ ∀ x ∈ l, 0 ≤ x.a ∧ 0 ≤ x.b) ∧ Below w.heap.size w w' := by
  obtain ⟨k, hk⟩ : ∃ k, l.length = k := ⟨_, rfl⟩
  have H := Lib.hid (And.intro h (And.intro h2 (And.intro hf (And.intro hok (And.intro hn (And.intro (hk ▸ hl : k ≤ maxLen) hk))))))
  rw [hk]
  have n0 : (0 : Int) ≤ n := by omega
  have k0 : (0 : Int) ≤ k := by omega
  have nc : (n : Int) ≤ c := by omega
  clear h hf h2 hok hn hl hk
  by_cases h1 : (n : Int) < 1
  · go_enter Try.func27, Try.ntmps27
    go_wp2_with fail
    go_ret
    exact ⟨.inl rfl, Below.refl _ _⟩
  have d1 : decide ((n : Int) < 1) = false := decide_eq_false h1
  by_cases h8 : 8 < (n : Int)
  · clear h1
    go_enter Try.func27, Try.ntmps27
    go_wp2_with fail
    go_ret
    exact ⟨.inl rfl, Below.refl _ _⟩
  have d8 : decide (8 < (n : Int)) = false := decide_eq_false h8
  by_cases h16 : 16 < (k : Int)
  · clear h1 h8
    go_enter Try.func27, Try.ntmps27
    go_wp2_with fail
    go_ret
    exact ⟨.inl rfl, Below.refl _ _⟩
  have d16 : decide (16 < (k : Int)) = false := decide_eq_false h16
  have HS := Lib.hid (show 1 ≤ n ∧ n ≤ 8 ∧ k ≤ 16 by omega)
  clear h1 h8 h16
  go_enter Try.func27, Try.ntmps27
  go_wp2_with fail
  go_loopw [27] (fun iv wr => ∃ j : Nat, j ≤ n ∧ iv = .int .i64 j ∧ Hid ((∀ x, x < j → nameB (f x) = true ∧ ∀ y, y < x → f y ≠ f x) ∧ Below w.heap.size w wr)) (fun iv _ => n - (intOf iv).toNat)
  case atStart => exact ⟨0, Nat.zero_le _, rfl, Lib.hid ⟨fun x hx => absurd hx (Nat.not_lt_zero _), Below.refl _ _⟩⟩
  case round =>
    obtain ⟨j, hj, rfl, hS⟩ := hrel
    by_cases hlt : j < n
    · have j1 : (j : Int) < n := by omega
      have j0 : (0 : Int) ≤ j := by omega
      have jc : (j : Int) ≤ c := by omega
      have HJ := Lib.hid (show wrap64 ((j : Int) + 1) = (j : Int) + 1 from IntWalk.wrap64_in _ (by have := HS.out; omega))
      obtain ⟨b, off, rfl, hb, hc⟩ := H.out.1 j hlt
      have hc := (hS.out.2.cell (p := ⟨b, off + j, none⟩) hb).trans hc
      have HBR := fun w => rbridge_any (f j) (H.out.2.2.1 j hlt) w
      obtain ⟨nb, hnb⟩ : ∃ nb, nameB (f j) = nb := ⟨_, rfl⟩
      rw [hnb] at HBR
      have HBR := Lib.hid HBR
      have HX := Lib.hid (And.intro hnb (And.intro hj hlt))
      clear hb hnb hj
      cases nb
      · go_wp2_with (go_at_call 11; refine (HBR.out _).mono ?_; rintro e w' ⟨rfl, rfl⟩)
        go_ret
        exact ⟨.inl rfl, hS.out.2⟩
      · go_wp2_with (go_at_call 11; refine (HBR.out _).mono ?_; rintro e w' ⟨rfl, rfl⟩)
        go_loopw [39] (fun iv wq => ∃ q : Nat, q ≤ j ∧ iv = .int .i64 q ∧ Hid ((∀ y, y < q → f y ≠ f j) ∧ Below w.heap.size w wq)) (fun iv _ => j - (intOf iv).toNat)
        case atStart => exact ⟨0, Nat.zero_le _, rfl, Lib.hid ⟨fun x hx => absurd hx (Nat.not_lt_zero _), hS.out.2⟩⟩
        case round =>
          obtain ⟨q, hq, rfl, hQ⟩ := hrel
          by_cases hltq : q < j
          · have q1 : (q : Int) < j := by omega
            have q0 : (0 : Int) ≤ q := by omega
            have HJQ := Lib.hid (show wrap64 ((q : Int) + 1) = (q : Int) + 1 from IntWalk.wrap64_in _ (by have := HS.out; have := HX.out; omega))
            obtain ⟨b', off', e, hb', hcq⟩ := H.out.1 q (by omega)
            injection e with e
            injection e with e1 e2
            subst e1 e2
            have hcq := (hQ.out.2.cell (p := ⟨b, off + q, none⟩) hb').trans hcq
            clear hb' hc
            obtain ⟨fq, hfq⟩ : ∃ fq, f q = fq := ⟨_, rfl⟩
            obtain ⟨fj, hfj⟩ : ∃ fj, f j = fj := ⟨_, rfl⟩
            rw [hfq] at hcq
            rw [hfj]
            by_cases he : fq = fj
            · have de : (fq == fj) = true := by simpa using he
              clear hfq hfj he hq
              go_wp2_with fail
              go_ret
              exact ⟨.inl rfl, hQ.out.2⟩
            · have de : (fq == fj) = false := by simpa using he
              have HNX := Lib.hid (show ∀ y, y < q + 1 → f y ≠ fj from fun y hy => by
                by_cases e : y = q
                · subst e
                  rw [hfq]
                  exact he
                · rw [← hfj]
                  exact hQ.out.1 y (by omega))
              clear hfq hfj he hq
              go_wp2_with fail
              go_roundw
              case rel =>
                rw [HJQ.out]
                exact ⟨q + 1, hltq, by rw [Int.natCast_add]; rfl, Lib.hid ⟨HNX.out, hQ.out.2⟩⟩
              case measure =>
                rw [HJQ.out]
                show j - ((q : Int) + 1).toNat < j - ((q : Int)).toNat
                omega
          · obtain rfl : j = q := by omega
            have HNX := Lib.hid (show ∀ x, x < j + 1 → nameB (f x) = true ∧ ∀ y, y < x → f y ≠ f x from fun x hx => by
              by_cases e : x = j
              · subst e
                exact ⟨HX.out.1, hQ.out.1⟩
              · exact hS.out.1 x (by omega))
            clear hc hq
            go_wp2_with fail
            go_roundw
            case rel =>
              rw [HJ.out]
              exact ⟨j + 1, hlt, by rw [Int.natCast_add]; rfl, Lib.hid ⟨HNX.out, hQ.out.2⟩⟩
            case measure =>
              rw [HJ.out]
              show n - ((j : Int) + 1).toNat < n - ((j : Int)).toNat
              omega
    · obtain rfl : n = j := by omega
      have HNM := Lib.hid hS.out.1
      have HB0 := Lib.hid hS.out.2
      clear hS hj hlt
      obtain ⟨hzv, hzi⟩ := zero_of_info used_info
      have hst := fun w => run_storeCells_new (P := Try.prog) w 97 used0 used0 hzi rfl used_one
      obtain ⟨zc, hzc⟩ : ∃ zc, used0 = zc := ⟨_, rfl⟩
      have hsz : zc.size = 48 := by rw [← hzc]; rfl
      rw [hzc] at hzv hst
      have HZC := Lib.hid hzc
      clear hzc hzi
      go_wp2_with fail
      have hU0 := Blk.new wr 97 zc
      have hbe0 := HB0.out.trans ((bel_alloc wr (.cells zc 97)).mono HB0.out.size)
      have hUg : w.heap.size ≤ wr.heap.size := HB0.out.size
      obtain ⟨W0, hW0⟩ : ∃ W0, wr.alloc (.cells zc 97) = W0 := ⟨_, rfl⟩
      rw [hW0] at hU0 hbe0 ⊢
      have hU0 : Blk W0 wr.heap.size 97 (boU (List.replicate 48 false)) := by rw [← used_bo, HZC.out]; exact hU0
      obtain ⟨U, hUe⟩ : ∃ U, wr.heap.size = U := ⟨_, rfl⟩
      rw [hUe] at hU0 hUg ⊢
      have HU := Lib.hid (And.intro hU0 (And.intro hbe0 hUg))
      clear hU0 hbe0 hUg hW0 hUe hst hzv hsz HZC HB0
      go_loopw [51] (fun iv wr => ∃ q : Nat, q ≤ k ∧ iv = .int .i64 q ∧ Hid (∃ S, FitQ n l q S ∧ Blk wr U 97 (boU S) ∧ Below w.heap.size w wr)) (fun iv _ => k - (intOf iv).toNat)
      case atStart => exact ⟨0, Nat.zero_le _, rfl, Lib.hid ⟨_, FitQ.zero n l, HU.out.1, HU.out.2.1⟩⟩
      case round =>
        obtain ⟨q, hq, rfl, hQ⟩ := hrel
        by_cases hlq : q < k
        · have q1 : (q : Int) < k := by omega
          have q0 : (0 : Int) ≤ q := by omega
          have HJQ := Lib.hid (show wrap64 ((q : Int) + 1) = (q : Int) + 1 from IntWalk.wrap64_in _ (by have := HS.out; omega))
          have hql : q < l.length := by rw [H.out.2.2.2.2.2.2]; exact hlq
          obtain ⟨S, hF, hB, hbw⟩ := hQ.out
          obtain ⟨bl, ofl, rfl, hbl, hc⟩ := H.out.2.1 q hql
          have hc := hc.below hbw hbl
          obtain ⟨x, hx⟩ : ∃ x, l.getD q li0 = x := ⟨_, rfl⟩
          rw [hx] at hc
          obtain ⟨xa, xpa, xb, xpb, xca, xcb⟩ := x
          obtain ⟨p0, p1, p2, p3, p4, p5⟩ := hc
          have hbx := Blk.new wr 99 #[.int .i64 xa, .int .i64 xpa, .int .i64 xb, .int .i64 xpb, .int .i64 xca, .int .i64 xcb]
          have hB1 := hB.alloc (.cells #[.int .i64 xa, .int .i64 xpa, .int .i64 xb, .int .i64 xpb, .int .i64 xca, .int .i64 xcb] 99)
          have HB2 := Lib.hid (hbw.alloc hbw.size (.cells #[.int .i64 xa, .int .i64 xpa, .int .i64 xb, .int .i64 xpb, .int .i64 xca, .int .i64 xcb] 99))
          have r0 : (wr.alloc (.cells #[.int .i64 xa, .int .i64 xpa, .int .i64 xb, .int .i64 xpb, .int .i64 xca, .int .i64 xcb] 99)).cell? ⟨wr.heap.size, 0, none⟩ = some (.int .i64 xa) := hbx.cell 0
          have r1 : (wr.alloc (.cells #[.int .i64 xa, .int .i64 xpa, .int .i64 xb, .int .i64 xpb, .int .i64 xca, .int .i64 xcb] 99)).cell? ⟨wr.heap.size, 1, none⟩ = some (.int .i64 xpa) := hbx.cell 1
          have r2 : (wr.alloc (.cells #[.int .i64 xa, .int .i64 xpa, .int .i64 xb, .int .i64 xpb, .int .i64 xca, .int .i64 xcb] 99)).cell? ⟨wr.heap.size, 2, none⟩ = some (.int .i64 xb) := hbx.cell 2
          have r3 : (wr.alloc (.cells #[.int .i64 xa, .int .i64 xpa, .int .i64 xb, .int .i64 xpb, .int .i64 xca, .int .i64 xcb] 99)).cell? ⟨wr.heap.size, 3, none⟩ = some (.int .i64 xpb) := hbx.cell 3
          have r4 : (wr.alloc (.cells #[.int .i64 xa, .int .i64 xpa, .int .i64 xb, .int .i64 xpb, .int .i64 xca, .int .i64 xcb] 99)).cell? ⟨wr.heap.size, 4, none⟩ = some (.int .i64 xca) := hbx.cell 4
          have r5 : (wr.alloc (.cells #[.int .i64 xa, .int .i64 xpa, .int .i64 xb, .int .i64 xpb, .int .i64 xca, .int .i64 xcb] 99)).cell? ⟨wr.heap.size, 5, none⟩ = some (.int .i64 xcb) := hbx.cell 5
          have HUL := Lib.hid (show U < wr.heap.size from hB.lt)
          have HX := Lib.hid (And.intro hx (And.intro hF (And.intro hbx (And.intro hB1 hql))))
          clear hx hF hbx hB1 hql hB hbw hbl hQ
          refine wp_seq_k (fun K1 hK1 => ?_)
          have HK1 := Lib.hid hK1
          clear hK1
          go_wp2_with fail
          refine HK1.out _ _ ?_
          clear HK1 K1
          refine wp_seq_k (fun K2 hK2 => ?_)
          have HK2 := Lib.hid hK2
          clear hK2
          go_wp2_with fail
          refine HK2.out _ _ ?_
          clear HK2 K2
          refine wp_seq_k (fun K3 hK3 => ?_)
          have HK3 := Lib.hid hK3
          clear hK3
          refine wp_block ?_
          refine wp_seq_k (fun K4 hK4 => ?_)
          have HK4 := Lib.hid hK4
          clear hK4
          go_wp2_with fail
          refine HK4.out _ _ ?_
          clear HK4 K4
          refine wp_seq_k (fun K5 hK5 => ?_)
          have HK5 := Lib.hid hK5
          clear hK5
          refine wp_seq_k (fun K6 hK6 => ?_)
          have HK6 := Lib.hid hK6
          clear hK6
          refine wp_region_lit ?_
          refine wpList_yieldD 55 (v := .pointer (some ⟨wr.heap.size, 0, none⟩)) (v' := .pointer (some ⟨wr.heap.size, 0, none⟩)) rfl (by kernel_rfl) (run_fa_at _ 0 _ _ _ _ _ _ _ wr.heap.size (by kernel_rfl) (by decide)) rfl ?_
          simp only [Act.put, List.setIfInBounds_toArray, List.set_cons_zero, List.set_cons_succ]
          refine wpList_yieldD 56 (v := .int .i64 xa) (v' := .int .i64 xa) rfl (by kernel_rfl) (run_load_at _ _ _ _ _ _ _ _ wr.heap.size 0 xa (by kernel_rfl) r0) rfl ?_
          simp only [Act.put, List.setIfInBounds_toArray, List.set_cons_zero, List.set_cons_succ]
          by_cases g1 : xa < 0
          · have e1 : decide (xa < 0) = true := decide_eq_true g1
            refine wpList_yieldD 57 (v := .bool (decide (xa < 0))) (v' := .bool true) rfl (by kernel_rfl) (run_lss_at _ _ _ _ _ _ _ _ _ xa 0 (by kernel_rfl) (by kernel_rfl)) (congrArg Value.bool e1) ?_
            simp only [Act.put, List.setIfInBounds_toArray, List.set_cons_zero, List.set_cons_succ]
            refine wpList_yieldD 58 (v := .bool true) (v' := .bool true) rfl (by kernel_rfl) (run_move_at _ _ _ _ _ _ _ _ (.bool true) (by kernel_rfl)) rfl ?_
            simp only [Act.put, List.setIfInBounds_toArray, List.set_cons_zero, List.set_cons_succ]
            refine wpList_skipD 59 rfl (by kernel_rfl) ?_
            simp only [Act.put, List.setIfInBounds_toArray, List.set_cons_zero, List.set_cons_succ]
            refine wpList_skipD 60 rfl (by kernel_rfl) ?_
            simp only [Act.put, List.setIfInBounds_toArray, List.set_cons_zero, List.set_cons_succ]
            refine wpList_skipD 61 rfl (by kernel_rfl) ?_
            simp only [Act.put, List.setIfInBounds_toArray, List.set_cons_zero, List.set_cons_succ]
            refine wpList_skipD 62 rfl (by kernel_rfl) ?_
            simp only [Act.put, List.setIfInBounds_toArray, List.set_cons_zero, List.set_cons_succ]
            refine wpList_skipD 63 rfl (by kernel_rfl) ?_
            simp only [Act.put, List.setIfInBounds_toArray, List.set_cons_zero, List.set_cons_succ]
            refine wpList_yieldD 64 (v := .bool true) (v' := .bool true) rfl (by kernel_rfl) (run_pick_at _ _ _ _ _ _ _ _ _ _ true (.bool true) undef (by kernel_rfl) (by kernel_rfl) (by kernel_rfl)) rfl ?_
            simp only [Act.put, List.setIfInBounds_toArray, List.set_cons_zero, List.set_cons_succ]
            refine wpList_yieldD 65 (v := .bool true) (v' := .bool true) rfl (by kernel_rfl) (run_move_at _ _ _ _ _ _ _ _ (.bool true) (by kernel_rfl)) rfl ?_
            simp only [Act.put, List.setIfInBounds_toArray, List.set_cons_zero, List.set_cons_succ]
            refine wpList_skipD 66 rfl (by kernel_rfl) ?_
            simp only [Act.put, List.setIfInBounds_toArray, List.set_cons_zero, List.set_cons_succ]
            refine wpList_skipD 67 rfl (by kernel_rfl) ?_
            simp only [Act.put, List.setIfInBounds_toArray, List.set_cons_zero, List.set_cons_succ]
            refine wpList_skipD 68 rfl (by kernel_rfl) ?_
            simp only [Act.put, List.setIfInBounds_toArray, List.set_cons_zero, List.set_cons_succ]
            refine wpList_yieldD 69 (v := .bool true) (v' := .bool true) rfl (by kernel_rfl) (run_pick_at _ _ _ _ _ _ _ _ _ _ true (.bool true) undef (by kernel_rfl) (by kernel_rfl) (by kernel_rfl)) rfl ?_
            simp only [Act.put, List.setIfInBounds_toArray, List.set_cons_zero, List.set_cons_succ]
            refine wpList_yieldD 70 (v := .bool true) (v' := .bool true) rfl (by kernel_rfl) (run_move_at _ _ _ _ _ _ _ _ (.bool true) (by kernel_rfl)) rfl ?_
            simp only [Act.put, List.setIfInBounds_toArray, List.set_cons_zero, List.set_cons_succ]
            refine wpList_skipD 71 rfl (by kernel_rfl) ?_
            simp only [Act.put, List.setIfInBounds_toArray, List.set_cons_zero, List.set_cons_succ]
            refine wpList_skipD 72 rfl (by kernel_rfl) ?_
            simp only [Act.put, List.setIfInBounds_toArray, List.set_cons_zero, List.set_cons_succ]
            refine wpList_skipD 73 rfl (by kernel_rfl) ?_
            simp only [Act.put, List.setIfInBounds_toArray, List.set_cons_zero, List.set_cons_succ]
            refine wpList_skipD 74 rfl (by kernel_rfl) ?_
            simp only [Act.put, List.setIfInBounds_toArray, List.set_cons_zero, List.set_cons_succ]
            refine wpList_skipD 75 rfl (by kernel_rfl) ?_
            simp only [Act.put, List.setIfInBounds_toArray, List.set_cons_zero, List.set_cons_succ]
            refine wpList_yieldD 76 (v := .bool true) (v' := .bool true) rfl (by kernel_rfl) (run_pick_at _ _ _ _ _ _ _ _ _ _ true (.bool true) undef (by kernel_rfl) (by kernel_rfl) (by kernel_rfl)) rfl ?_
            simp only [Act.put, List.setIfInBounds_toArray, List.set_cons_zero, List.set_cons_succ]
            refine wpList_yieldD 77 (v := .bool true) (v' := .bool true) rfl (by kernel_rfl) (run_move_at _ _ _ _ _ _ _ _ (.bool true) (by kernel_rfl)) rfl ?_
            simp only [Act.put, List.setIfInBounds_toArray, List.set_cons_zero, List.set_cons_succ]
            refine wpList_skipD 78 rfl (by kernel_rfl) ?_
            simp only [Act.put, List.setIfInBounds_toArray, List.set_cons_zero, List.set_cons_succ]
            refine wpList_skipD 79 rfl (by kernel_rfl) ?_
            simp only [Act.put, List.setIfInBounds_toArray, List.set_cons_zero, List.set_cons_succ]
            refine wpList_skipD 80 rfl (by kernel_rfl) ?_
            simp only [Act.put, List.setIfInBounds_toArray, List.set_cons_zero, List.set_cons_succ]
            refine wpList_skipD 81 rfl (by kernel_rfl) ?_
            simp only [Act.put, List.setIfInBounds_toArray, List.set_cons_zero, List.set_cons_succ]
            refine wpList_skipD 82 rfl (by kernel_rfl) ?_
            simp only [Act.put, List.setIfInBounds_toArray, List.set_cons_zero, List.set_cons_succ]
            refine wpList_yieldD 83 (v := .bool true) (v' := .bool true) rfl (by kernel_rfl) (run_pick_at _ _ _ _ _ _ _ _ _ _ true (.bool true) undef (by kernel_rfl) (by kernel_rfl) (by kernel_rfl)) rfl ?_
            simp only [Act.put, List.setIfInBounds_toArray, List.set_cons_zero, List.set_cons_succ]
            refine wpList_yieldD 84 (v := .bool true) (v' := .bool true) rfl (by kernel_rfl) (run_move_at _ _ _ _ _ _ _ _ (.bool true) (by kernel_rfl)) rfl ?_
            simp only [Act.put, List.setIfInBounds_toArray, List.set_cons_zero, List.set_cons_succ]
            refine wpList_skipD 85 rfl (by kernel_rfl) ?_
            simp only [Act.put, List.setIfInBounds_toArray, List.set_cons_zero, List.set_cons_succ]
            refine wpList_skipD 86 rfl (by kernel_rfl) ?_
            simp only [Act.put, List.setIfInBounds_toArray, List.set_cons_zero, List.set_cons_succ]
            refine wpList_skipD 87 rfl (by kernel_rfl) ?_
            simp only [Act.put, List.setIfInBounds_toArray, List.set_cons_zero, List.set_cons_succ]
            refine wpList_yieldD 88 (v := .bool true) (v' := .bool true) rfl (by kernel_rfl) (run_pick_at _ _ _ _ _ _ _ _ _ _ true (.bool true) undef (by kernel_rfl) (by kernel_rfl) (by kernel_rfl)) rfl ?_
            simp only [Act.put, List.setIfInBounds_toArray, List.set_cons_zero, List.set_cons_succ]
            refine wpList_yieldD 89 (v := .bool true) (v' := .bool true) rfl (by kernel_rfl) (run_move_at _ _ _ _ _ _ _ _ (.bool true) (by kernel_rfl)) rfl ?_
            simp only [Act.put, List.setIfInBounds_toArray, List.set_cons_zero, List.set_cons_succ]
            refine wpList_skipD 90 rfl (by kernel_rfl) ?_
            simp only [Act.put, List.setIfInBounds_toArray, List.set_cons_zero, List.set_cons_succ]
            refine wpList_skipD 91 rfl (by kernel_rfl) ?_
            simp only [Act.put, List.setIfInBounds_toArray, List.set_cons_zero, List.set_cons_succ]
            refine wpList_skipD 92 rfl (by kernel_rfl) ?_
            simp only [Act.put, List.setIfInBounds_toArray, List.set_cons_zero, List.set_cons_succ]
            refine wpList_yieldD 93 (v := .bool true) (v' := .bool true) rfl (by kernel_rfl) (run_pick_at _ _ _ _ _ _ _ _ _ _ true (.bool true) undef (by kernel_rfl) (by kernel_rfl) (by kernel_rfl)) rfl ?_
            simp only [Act.put, List.setIfInBounds_toArray, List.set_cons_zero, List.set_cons_succ]
            refine wpList_yieldD 94 (v := .bool true) (v' := .bool true) rfl (by kernel_rfl) (run_move_at _ _ _ _ _ _ _ _ (.bool true) (by kernel_rfl)) rfl ?_
            simp only [Act.put, List.setIfInBounds_toArray, List.set_cons_zero, List.set_cons_succ]
            refine wpList_skipD 95 rfl (by kernel_rfl) ?_
            simp only [Act.put, List.setIfInBounds_toArray, List.set_cons_zero, List.set_cons_succ]
            refine wpList_skipD 96 rfl (by kernel_rfl) ?_
            simp only [Act.put, List.setIfInBounds_toArray, List.set_cons_zero, List.set_cons_succ]
            refine wpList_skipD 97 rfl (by kernel_rfl) ?_
            simp only [Act.put, List.setIfInBounds_toArray, List.set_cons_zero, List.set_cons_succ]
            refine wpList_yieldD 98 (v := .bool true) (v' := .bool true) rfl (by kernel_rfl) (run_pick_at _ _ _ _ _ _ _ _ _ _ true (.bool true) undef (by kernel_rfl) (by kernel_rfl) (by kernel_rfl)) rfl ?_
            simp only [Act.put, List.setIfInBounds_toArray, List.set_cons_zero, List.set_cons_succ]
            refine wpList_yieldD 99 (v := .bool true) (v' := .bool true) rfl (by kernel_rfl) (run_move_at _ _ _ _ _ _ _ _ (.bool true) (by kernel_rfl)) rfl ?_
            simp only [Act.put, List.setIfInBounds_toArray, List.set_cons_zero, List.set_cons_succ]
            refine wpList_skipD 100 rfl (by kernel_rfl) ?_
            simp only [Act.put, List.setIfInBounds_toArray, List.set_cons_zero, List.set_cons_succ]
            refine wpList_skipD 101 rfl (by kernel_rfl) ?_
            simp only [Act.put, List.setIfInBounds_toArray, List.set_cons_zero, List.set_cons_succ]
            refine wpList_skipD 102 rfl (by kernel_rfl) ?_
            simp only [Act.put, List.setIfInBounds_toArray, List.set_cons_zero, List.set_cons_succ]
            refine wpList_yieldD 103 (v := .bool true) (v' := .bool true) rfl (by kernel_rfl) (run_pick_at _ _ _ _ _ _ _ _ _ _ true (.bool true) undef (by kernel_rfl) (by kernel_rfl) (by kernel_rfl)) rfl ?_
            simp only [Act.put, List.setIfInBounds_toArray, List.set_cons_zero, List.set_cons_succ]
            refine wpList_yieldD 104 (v := .bool true) (v' := .bool true) rfl (by kernel_rfl) (run_move_at _ _ _ _ _ _ _ _ (.bool true) (by kernel_rfl)) rfl ?_
            simp only [Act.put, List.setIfInBounds_toArray, List.set_cons_zero, List.set_cons_succ]
            refine wpList_skipD 105 rfl (by kernel_rfl) ?_
            simp only [Act.put, List.setIfInBounds_toArray, List.set_cons_zero, List.set_cons_succ]
            refine wpList_skipD 106 rfl (by kernel_rfl) ?_
            simp only [Act.put, List.setIfInBounds_toArray, List.set_cons_zero, List.set_cons_succ]
            refine wpList_skipD 107 rfl (by kernel_rfl) ?_
            simp only [Act.put, List.setIfInBounds_toArray, List.set_cons_zero, List.set_cons_succ]
            refine wpList_yieldD 108 (v := .bool true) (v' := .bool true) rfl (by kernel_rfl) (run_pick_at _ _ _ _ _ _ _ _ _ _ true (.bool true) undef (by kernel_rfl) (by kernel_rfl) (by kernel_rfl)) rfl ?_
            simp only [Act.put, List.setIfInBounds_toArray, List.set_cons_zero, List.set_cons_succ]
            refine wpList_yieldD 109 (v := .bool true) (v' := .bool true) rfl (by kernel_rfl) (run_move_at _ _ _ _ _ _ _ _ (.bool true) (by kernel_rfl)) rfl ?_
            simp only [Act.put, List.setIfInBounds_toArray, List.set_cons_zero, List.set_cons_succ]
            refine wpList_skipD 110 rfl (by kernel_rfl) ?_
            simp only [Act.put, List.setIfInBounds_toArray, List.set_cons_zero, List.set_cons_succ]
            refine wpList_skipD 111 rfl (by kernel_rfl) ?_
            simp only [Act.put, List.setIfInBounds_toArray, List.set_cons_zero, List.set_cons_succ]
            refine wpList_skipD 112 rfl (by kernel_rfl) ?_
            simp only [Act.put, List.setIfInBounds_toArray, List.set_cons_zero, List.set_cons_succ]
            refine wpList_yieldD 113 (v := .bool true) (v' := .bool true) rfl (by kernel_rfl) (run_pick_at _ _ _ _ _ _ _ _ _ _ true (.bool true) undef (by kernel_rfl) (by kernel_rfl) (by kernel_rfl)) rfl ?_
            simp only [Act.put, List.setIfInBounds_toArray, List.set_cons_zero, List.set_cons_succ]
            refine wpList_yieldD 114 (v := .bool true) (v' := .bool true) rfl (by kernel_rfl) (run_move_at _ _ _ _ _ _ _ _ (.bool true) (by kernel_rfl)) rfl ?_
            simp only [Act.put, List.setIfInBounds_toArray, List.set_cons_zero, List.set_cons_succ]
            refine wpList_skipD 115 rfl (by kernel_rfl) ?_
            simp only [Act.put, List.setIfInBounds_toArray, List.set_cons_zero, List.set_cons_succ]
            refine wpList_skipD 116 rfl (by kernel_rfl) ?_
            simp only [Act.put, List.setIfInBounds_toArray, List.set_cons_zero, List.set_cons_succ]
            refine wpList_skipD 117 rfl (by kernel_rfl) ?_
            simp only [Act.put, List.setIfInBounds_toArray, List.set_cons_zero, List.set_cons_succ]
            refine wpList_yieldD 118 (v := .bool true) (v' := .bool true) rfl (by kernel_rfl) (run_pick_at _ _ _ _ _ _ _ _ _ _ true (.bool true) undef (by kernel_rfl) (by kernel_rfl) (by kernel_rfl)) rfl ?_
            simp only [Act.put, List.setIfInBounds_toArray, List.set_cons_zero, List.set_cons_succ]
            refine wpList_yieldD 119 (v := .bool true) (v' := .bool true) rfl (by kernel_rfl) (run_move_at _ _ _ _ _ _ _ _ (.bool true) (by kernel_rfl)) rfl ?_
            simp only [Act.put, List.setIfInBounds_toArray, List.set_cons_zero, List.set_cons_succ]
            refine wpList_skipD 120 rfl (by kernel_rfl) ?_
            simp only [Act.put, List.setIfInBounds_toArray, List.set_cons_zero, List.set_cons_succ]
            refine wpList_skipD 121 rfl (by kernel_rfl) ?_
            simp only [Act.put, List.setIfInBounds_toArray, List.set_cons_zero, List.set_cons_succ]
            refine wpList_skipD 122 rfl (by kernel_rfl) ?_
            simp only [Act.put, List.setIfInBounds_toArray, List.set_cons_zero, List.set_cons_succ]
            refine wpList_yieldD 123 (v := .bool true) (v' := .bool true) rfl (by kernel_rfl) (run_pick_at _ _ _ _ _ _ _ _ _ _ true (.bool true) undef (by kernel_rfl) (by kernel_rfl) (by kernel_rfl)) rfl ?_
            simp only [Act.put, List.setIfInBounds_toArray, List.set_cons_zero, List.set_cons_succ]
            refine wpList_nil ?_
            refine HK6.out _ _ ?_
            clear HK6 HK5 HK3
            go_wp2_with fail
            go_ret
            exact ⟨.inl rfl, HB2.out⟩
          have d21 : decide (xa < 0) = false := decide_eq_false g1
          refine wpList_yieldD 57 (v := .bool (decide (xa < 0))) (v' := .bool false) rfl (by kernel_rfl) (run_lss_at _ _ _ _ _ _ _ _ _ xa 0 (by kernel_rfl) (by kernel_rfl)) (congrArg Value.bool d21) ?_
          simp only [Act.put, List.setIfInBounds_toArray, List.set_cons_zero, List.set_cons_succ]
          refine wpList_yieldD 58 (v := .bool false) (v' := .bool false) rfl (by kernel_rfl) (run_move_at _ _ _ _ _ _ _ _ (.bool false) (by kernel_rfl)) rfl ?_
          simp only [Act.put, List.setIfInBounds_toArray, List.set_cons_zero, List.set_cons_succ]
          refine wpList_yieldD 59 (v := .pointer (some ⟨wr.heap.size, 0, none⟩)) (v' := .pointer (some ⟨wr.heap.size, 0, none⟩)) rfl (by kernel_rfl) (run_fa_at _ 0 _ _ _ _ _ _ _ wr.heap.size (by kernel_rfl) (by decide)) rfl ?_
          simp only [Act.put, List.setIfInBounds_toArray, List.set_cons_zero, List.set_cons_succ]
          refine wpList_yieldD 60 (v := .int .i64 xa) (v' := .int .i64 xa) rfl (by kernel_rfl) (run_load_at _ _ _ _ _ _ _ _ wr.heap.size 0 xa (by kernel_rfl) r0) rfl ?_
          simp only [Act.put, List.setIfInBounds_toArray, List.set_cons_zero, List.set_cons_succ]
          refine wpList_yieldD 61 (v := .slice A n c) (v' := .slice A n c) rfl (by kernel_rfl) (run_move_at _ _ _ _ _ _ _ _ (.slice A n c) (by kernel_rfl)) rfl ?_
          simp only [Act.put, List.setIfInBounds_toArray, List.set_cons_zero, List.set_cons_succ]
          refine wpList_yieldD 62 (v := .int .i64 n) (v' := .int .i64 n) rfl (by kernel_rfl) (run_len_at _ _ _ _ _ _ _ _ A n c (by kernel_rfl)) rfl ?_
          simp only [Act.put, List.setIfInBounds_toArray, List.set_cons_zero, List.set_cons_succ]
          by_cases g2 : (n : Int) ≤ xa
          · have e2 : decide ((n : Int) ≤ xa) = true := decide_eq_true g2
            refine wpList_yieldD 63 (v := .bool (decide ((n : Int) ≤ xa))) (v' := .bool true) rfl (by kernel_rfl) (run_geq_at _ _ _ _ _ _ _ _ _ xa n (by kernel_rfl) (by kernel_rfl)) (congrArg Value.bool e2) ?_
            simp only [Act.put, List.setIfInBounds_toArray, List.set_cons_zero, List.set_cons_succ]
            refine wpList_yieldD 64 (v := .bool true) (v' := .bool true) rfl (by kernel_rfl) (run_pick_at _ _ _ _ _ _ _ _ _ _ false (.bool true) (.bool true) (by kernel_rfl) (by kernel_rfl) (by kernel_rfl)) rfl ?_
            simp only [Act.put, List.setIfInBounds_toArray, List.set_cons_zero, List.set_cons_succ]
            refine wpList_yieldD 65 (v := .bool true) (v' := .bool true) rfl (by kernel_rfl) (run_move_at _ _ _ _ _ _ _ _ (.bool true) (by kernel_rfl)) rfl ?_
            simp only [Act.put, List.setIfInBounds_toArray, List.set_cons_zero, List.set_cons_succ]
            refine wpList_skipD 66 rfl (by kernel_rfl) ?_
            simp only [Act.put, List.setIfInBounds_toArray, List.set_cons_zero, List.set_cons_succ]
            refine wpList_skipD 67 rfl (by kernel_rfl) ?_
            simp only [Act.put, List.setIfInBounds_toArray, List.set_cons_zero, List.set_cons_succ]
            refine wpList_skipD 68 rfl (by kernel_rfl) ?_
            simp only [Act.put, List.setIfInBounds_toArray, List.set_cons_zero, List.set_cons_succ]
            refine wpList_yieldD 69 (v := .bool true) (v' := .bool true) rfl (by kernel_rfl) (run_pick_at _ _ _ _ _ _ _ _ _ _ true (.bool true) undef (by kernel_rfl) (by kernel_rfl) (by kernel_rfl)) rfl ?_
            simp only [Act.put, List.setIfInBounds_toArray, List.set_cons_zero, List.set_cons_succ]
            refine wpList_yieldD 70 (v := .bool true) (v' := .bool true) rfl (by kernel_rfl) (run_move_at _ _ _ _ _ _ _ _ (.bool true) (by kernel_rfl)) rfl ?_
            simp only [Act.put, List.setIfInBounds_toArray, List.set_cons_zero, List.set_cons_succ]
            refine wpList_skipD 71 rfl (by kernel_rfl) ?_
            simp only [Act.put, List.setIfInBounds_toArray, List.set_cons_zero, List.set_cons_succ]
            refine wpList_skipD 72 rfl (by kernel_rfl) ?_
            simp only [Act.put, List.setIfInBounds_toArray, List.set_cons_zero, List.set_cons_succ]
            refine wpList_skipD 73 rfl (by kernel_rfl) ?_
            simp only [Act.put, List.setIfInBounds_toArray, List.set_cons_zero, List.set_cons_succ]
            refine wpList_skipD 74 rfl (by kernel_rfl) ?_
            simp only [Act.put, List.setIfInBounds_toArray, List.set_cons_zero, List.set_cons_succ]
            refine wpList_skipD 75 rfl (by kernel_rfl) ?_
            simp only [Act.put, List.setIfInBounds_toArray, List.set_cons_zero, List.set_cons_succ]
            refine wpList_yieldD 76 (v := .bool true) (v' := .bool true) rfl (by kernel_rfl) (run_pick_at _ _ _ _ _ _ _ _ _ _ true (.bool true) undef (by kernel_rfl) (by kernel_rfl) (by kernel_rfl)) rfl ?_
            simp only [Act.put, List.setIfInBounds_toArray, List.set_cons_zero, List.set_cons_succ]
            refine wpList_yieldD 77 (v := .bool true) (v' := .bool true) rfl (by kernel_rfl) (run_move_at _ _ _ _ _ _ _ _ (.bool true) (by kernel_rfl)) rfl ?_
            simp only [Act.put, List.setIfInBounds_toArray, List.set_cons_zero, List.set_cons_succ]
            refine wpList_skipD 78 rfl (by kernel_rfl) ?_
            simp only [Act.put, List.setIfInBounds_toArray, List.set_cons_zero, List.set_cons_succ]
            refine wpList_skipD 79 rfl (by kernel_rfl) ?_
            simp only [Act.put, List.setIfInBounds_toArray, List.set_cons_zero, List.set_cons_succ]
            refine wpList_skipD 80 rfl (by kernel_rfl) ?_
            simp only [Act.put, List.setIfInBounds_toArray, List.set_cons_zero, List.set_cons_succ]
            refine wpList_skipD 81 rfl (by kernel_rfl) ?_
            simp only [Act.put, List.setIfInBounds_toArray, List.set_cons_zero, List.set_cons_succ]
            refine wpList_skipD 82 rfl (by kernel_rfl) ?_
            simp only [Act.put, List.setIfInBounds_toArray, List.set_cons_zero, List.set_cons_succ]
            refine wpList_yieldD 83 (v := .bool true) (v' := .bool true) rfl (by kernel_rfl) (run_pick_at _ _ _ _ _ _ _ _ _ _ true (.bool true) undef (by kernel_rfl) (by kernel_rfl) (by kernel_rfl)) rfl ?_
            simp only [Act.put, List.setIfInBounds_toArray, List.set_cons_zero, List.set_cons_succ]
            refine wpList_yieldD 84 (v := .bool true) (v' := .bool true) rfl (by kernel_rfl) (run_move_at _ _ _ _ _ _ _ _ (.bool true) (by kernel_rfl)) rfl ?_
            simp only [Act.put, List.setIfInBounds_toArray, List.set_cons_zero, List.set_cons_succ]
            refine wpList_skipD 85 rfl (by kernel_rfl) ?_
            simp only [Act.put, List.setIfInBounds_toArray, List.set_cons_zero, List.set_cons_succ]
            refine wpList_skipD 86 rfl (by kernel_rfl) ?_
            simp only [Act.put, List.setIfInBounds_toArray, List.set_cons_zero, List.set_cons_succ]
            refine wpList_skipD 87 rfl (by kernel_rfl) ?_
            simp only [Act.put, List.setIfInBounds_toArray, List.set_cons_zero, List.set_cons_succ]
            refine wpList_yieldD 88 (v := .bool true) (v' := .bool true) rfl (by kernel_rfl) (run_pick_at _ _ _ _ _ _ _ _ _ _ true (.bool true) undef (by kernel_rfl) (by kernel_rfl) (by kernel_rfl)) rfl ?_
            simp only [Act.put, List.setIfInBounds_toArray, List.set_cons_zero, List.set_cons_succ]
            refine wpList_yieldD 89 (v := .bool true) (v' := .bool true) rfl (by kernel_rfl) (run_move_at _ _ _ _ _ _ _ _ (.bool true) (by kernel_rfl)) rfl ?_
            simp only [Act.put, List.setIfInBounds_toArray, List.set_cons_zero, List.set_cons_succ]
            refine wpList_skipD 90 rfl (by kernel_rfl) ?_
            simp only [Act.put, List.setIfInBounds_toArray, List.set_cons_zero, List.set_cons_succ]
            refine wpList_skipD 91 rfl (by kernel_rfl) ?_
            simp only [Act.put, List.setIfInBounds_toArray, List.set_cons_zero, List.set_cons_succ]
            refine wpList_skipD 92 rfl (by kernel_rfl) ?_
            simp only [Act.put, List.setIfInBounds_toArray, List.set_cons_zero, List.set_cons_succ]
            refine wpList_yieldD 93 (v := .bool true) (v' := .bool true) rfl (by kernel_rfl) (run_pick_at _ _ _ _ _ _ _ _ _ _ true (.bool true) undef (by kernel_rfl) (by kernel_rfl) (by kernel_rfl)) rfl ?_
            simp only [Act.put, List.setIfInBounds_toArray, List.set_cons_zero, List.set_cons_succ]
            refine wpList_yieldD 94 (v := .bool true) (v' := .bool true) rfl (by kernel_rfl) (run_move_at _ _ _ _ _ _ _ _ (.bool true) (by kernel_rfl)) rfl ?_
            simp only [Act.put, List.setIfInBounds_toArray, List.set_cons_zero, List.set_cons_succ]
            refine wpList_skipD 95 rfl (by kernel_rfl) ?_
            simp only [Act.put, List.setIfInBounds_toArray, List.set_cons_zero, List.set_cons_succ]
            refine wpList_skipD 96 rfl (by kernel_rfl) ?_
            simp only [Act.put, List.setIfInBounds_toArray, List.set_cons_zero, List.set_cons_succ]
            refine wpList_skipD 97 rfl (by kernel_rfl) ?_
            simp only [Act.put, List.setIfInBounds_toArray, List.set_cons_zero, List.set_cons_succ]
            refine wpList_yieldD 98 (v := .bool true) (v' := .bool true) rfl (by kernel_rfl) (run_pick_at _ _ _ _ _ _ _ _ _ _ true (.bool true) undef (by kernel_rfl) (by kernel_rfl) (by kernel_rfl)) rfl ?_
            simp only [Act.put, List.setIfInBounds_toArray, List.set_cons_zero, List.set_cons_succ]
            refine wpList_yieldD 99 (v := .bool true) (v' := .bool true) rfl (by kernel_rfl) (run_move_at _ _ _ _ _ _ _ _ (.bool true) (by kernel_rfl)) rfl ?_
            simp only [Act.put, List.setIfInBounds_toArray, List.set_cons_zero, List.set_cons_succ]
            refine wpList_skipD 100 rfl (by kernel_rfl) ?_
            simp only [Act.put, List.setIfInBounds_toArray, List.set_cons_zero, List.set_cons_succ]
            refine wpList_skipD 101 rfl (by kernel_rfl) ?_
            simp only [Act.put, List.setIfInBounds_toArray, List.set_cons_zero, List.set_cons_succ]
            refine wpList_skipD 102 rfl (by kernel_rfl) ?_
            simp only [Act.put, List.setIfInBounds_toArray, List.set_cons_zero, List.set_cons_succ]
            refine wpList_yieldD 103 (v := .bool true) (v' := .bool true) rfl (by kernel_rfl) (run_pick_at _ _ _ _ _ _ _ _ _ _ true (.bool true) undef (by kernel_rfl) (by kernel_rfl) (by kernel_rfl)) rfl ?_
            simp only [Act.put, List.setIfInBounds_toArray, List.set_cons_zero, List.set_cons_succ]
            refine wpList_yieldD 104 (v := .bool true) (v' := .bool true) rfl (by kernel_rfl) (run_move_at _ _ _ _ _ _ _ _ (.bool true) (by kernel_rfl)) rfl ?_
            simp only [Act.put, List.setIfInBounds_toArray, List.set_cons_zero, List.set_cons_succ]
            refine wpList_skipD 105 rfl (by kernel_rfl) ?_
            simp only [Act.put, List.setIfInBounds_toArray, List.set_cons_zero, List.set_cons_succ]
            refine wpList_skipD 106 rfl (by kernel_rfl) ?_
            simp only [Act.put, List.setIfInBounds_toArray, List.set_cons_zero, List.set_cons_succ]
            refine wpList_skipD 107 rfl (by kernel_rfl) ?_
            simp only [Act.put, List.setIfInBounds_toArray, List.set_cons_zero, List.set_cons_succ]
            refine wpList_yieldD 108 (v := .bool true) (v' := .bool true) rfl (by kernel_rfl) (run_pick_at _ _ _ _ _ _ _ _ _ _ true (.bool true) undef (by kernel_rfl) (by kernel_rfl) (by kernel_rfl)) rfl ?_
            simp only [Act.put, List.setIfInBounds_toArray, List.set_cons_zero, List.set_cons_succ]
            refine wpList_yieldD 109 (v := .bool true) (v' := .bool true) rfl (by kernel_rfl) (run_move_at _ _ _ _ _ _ _ _ (.bool true) (by kernel_rfl)) rfl ?_
            simp only [Act.put, List.setIfInBounds_toArray, List.set_cons_zero, List.set_cons_succ]
            refine wpList_skipD 110 rfl (by kernel_rfl) ?_
            simp only [Act.put, List.setIfInBounds_toArray, List.set_cons_zero, List.set_cons_succ]
            refine wpList_skipD 111 rfl (by kernel_rfl) ?_
            simp only [Act.put, List.setIfInBounds_toArray, List.set_cons_zero, List.set_cons_succ]
            refine wpList_skipD 112 rfl (by kernel_rfl) ?_
            simp only [Act.put, List.setIfInBounds_toArray, List.set_cons_zero, List.set_cons_succ]
            refine wpList_yieldD 113 (v := .bool true) (v' := .bool true) rfl (by kernel_rfl) (run_pick_at _ _ _ _ _ _ _ _ _ _ true (.bool true) undef (by kernel_rfl) (by kernel_rfl) (by kernel_rfl)) rfl ?_
            simp only [Act.put, List.setIfInBounds_toArray, List.set_cons_zero, List.set_cons_succ]
            refine wpList_yieldD 114 (v := .bool true) (v' := .bool true) rfl (by kernel_rfl) (run_move_at _ _ _ _ _ _ _ _ (.bool true) (by kernel_rfl)) rfl ?_
            simp only [Act.put, List.setIfInBounds_toArray, List.set_cons_zero, List.set_cons_succ]
            refine wpList_skipD 115 rfl (by kernel_rfl) ?_
            simp only [Act.put, List.setIfInBounds_toArray, List.set_cons_zero, List.set_cons_succ]
            refine wpList_skipD 116 rfl (by kernel_rfl) ?_
            simp only [Act.put, List.setIfInBounds_toArray, List.set_cons_zero, List.set_cons_succ]
            refine wpList_skipD 117 rfl (by kernel_rfl) ?_
            simp only [Act.put, List.setIfInBounds_toArray, List.set_cons_zero, List.set_cons_succ]
            refine wpList_yieldD 118 (v := .bool true) (v' := .bool true) rfl (by kernel_rfl) (run_pick_at _ _ _ _ _ _ _ _ _ _ true (.bool true) undef (by kernel_rfl) (by kernel_rfl) (by kernel_rfl)) rfl ?_
            simp only [Act.put, List.setIfInBounds_toArray, List.set_cons_zero, List.set_cons_succ]
            refine wpList_yieldD 119 (v := .bool true) (v' := .bool true) rfl (by kernel_rfl) (run_move_at _ _ _ _ _ _ _ _ (.bool true) (by kernel_rfl)) rfl ?_
            simp only [Act.put, List.setIfInBounds_toArray, List.set_cons_zero, List.set_cons_succ]
            refine wpList_skipD 120 rfl (by kernel_rfl) ?_
            simp only [Act.put, List.setIfInBounds_toArray, List.set_cons_zero, List.set_cons_succ]
            refine wpList_skipD 121 rfl (by kernel_rfl) ?_
            simp only [Act.put, List.setIfInBounds_toArray, List.set_cons_zero, List.set_cons_succ]
            refine wpList_skipD 122 rfl (by kernel_rfl) ?_
            simp only [Act.put, List.setIfInBounds_toArray, List.set_cons_zero, List.set_cons_succ]
            refine wpList_yieldD 123 (v := .bool true) (v' := .bool true) rfl (by kernel_rfl) (run_pick_at _ _ _ _ _ _ _ _ _ _ true (.bool true) undef (by kernel_rfl) (by kernel_rfl) (by kernel_rfl)) rfl ?_
            simp only [Act.put, List.setIfInBounds_toArray, List.set_cons_zero, List.set_cons_succ]
            refine wpList_nil ?_
            refine HK6.out _ _ ?_
            clear HK6 HK5 HK3
            go_wp2_with fail
            go_ret
            exact ⟨.inl rfl, HB2.out⟩
          have d22 : decide ((n : Int) ≤ xa) = false := decide_eq_false g2
          refine wpList_yieldD 63 (v := .bool (decide ((n : Int) ≤ xa))) (v' := .bool false) rfl (by kernel_rfl) (run_geq_at _ _ _ _ _ _ _ _ _ xa n (by kernel_rfl) (by kernel_rfl)) (congrArg Value.bool d22) ?_
          simp only [Act.put, List.setIfInBounds_toArray, List.set_cons_zero, List.set_cons_succ]
          refine wpList_yieldD 64 (v := .bool false) (v' := .bool false) rfl (by kernel_rfl) (run_pick_at _ _ _ _ _ _ _ _ _ _ false (.bool true) (.bool false) (by kernel_rfl) (by kernel_rfl) (by kernel_rfl)) rfl ?_
          simp only [Act.put, List.setIfInBounds_toArray, List.set_cons_zero, List.set_cons_succ]
          refine wpList_yieldD 65 (v := .bool false) (v' := .bool false) rfl (by kernel_rfl) (run_move_at _ _ _ _ _ _ _ _ (.bool false) (by kernel_rfl)) rfl ?_
          simp only [Act.put, List.setIfInBounds_toArray, List.set_cons_zero, List.set_cons_succ]
          refine wpList_yieldD 66 (v := .pointer (some ⟨wr.heap.size, 2, none⟩)) (v' := .pointer (some ⟨wr.heap.size, 2, none⟩)) rfl (by kernel_rfl) (run_fa_at _ 2 _ _ _ _ _ _ _ wr.heap.size (by kernel_rfl) (by decide)) rfl ?_
          simp only [Act.put, List.setIfInBounds_toArray, List.set_cons_zero, List.set_cons_succ]
          refine wpList_yieldD 67 (v := .int .i64 xb) (v' := .int .i64 xb) rfl (by kernel_rfl) (run_load_at _ _ _ _ _ _ _ _ wr.heap.size 2 xb (by kernel_rfl) r2) rfl ?_
          simp only [Act.put, List.setIfInBounds_toArray, List.set_cons_zero, List.set_cons_succ]
          by_cases g3 : xb < 0
          · have e3 : decide (xb < 0) = true := decide_eq_true g3
            refine wpList_yieldD 68 (v := .bool (decide (xb < 0))) (v' := .bool true) rfl (by kernel_rfl) (run_lss_at _ _ _ _ _ _ _ _ _ xb 0 (by kernel_rfl) (by kernel_rfl)) (congrArg Value.bool e3) ?_
            simp only [Act.put, List.setIfInBounds_toArray, List.set_cons_zero, List.set_cons_succ]
            refine wpList_yieldD 69 (v := .bool true) (v' := .bool true) rfl (by kernel_rfl) (run_pick_at _ _ _ _ _ _ _ _ _ _ false (.bool true) (.bool true) (by kernel_rfl) (by kernel_rfl) (by kernel_rfl)) rfl ?_
            simp only [Act.put, List.setIfInBounds_toArray, List.set_cons_zero, List.set_cons_succ]
            refine wpList_yieldD 70 (v := .bool true) (v' := .bool true) rfl (by kernel_rfl) (run_move_at _ _ _ _ _ _ _ _ (.bool true) (by kernel_rfl)) rfl ?_
            simp only [Act.put, List.setIfInBounds_toArray, List.set_cons_zero, List.set_cons_succ]
            refine wpList_skipD 71 rfl (by kernel_rfl) ?_
            simp only [Act.put, List.setIfInBounds_toArray, List.set_cons_zero, List.set_cons_succ]
            refine wpList_skipD 72 rfl (by kernel_rfl) ?_
            simp only [Act.put, List.setIfInBounds_toArray, List.set_cons_zero, List.set_cons_succ]
            refine wpList_skipD 73 rfl (by kernel_rfl) ?_
            simp only [Act.put, List.setIfInBounds_toArray, List.set_cons_zero, List.set_cons_succ]
            refine wpList_skipD 74 rfl (by kernel_rfl) ?_
            simp only [Act.put, List.setIfInBounds_toArray, List.set_cons_zero, List.set_cons_succ]
            refine wpList_skipD 75 rfl (by kernel_rfl) ?_
            simp only [Act.put, List.setIfInBounds_toArray, List.set_cons_zero, List.set_cons_succ]
            refine wpList_yieldD 76 (v := .bool true) (v' := .bool true) rfl (by kernel_rfl) (run_pick_at _ _ _ _ _ _ _ _ _ _ true (.bool true) undef (by kernel_rfl) (by kernel_rfl) (by kernel_rfl)) rfl ?_
            simp only [Act.put, List.setIfInBounds_toArray, List.set_cons_zero, List.set_cons_succ]
            refine wpList_yieldD 77 (v := .bool true) (v' := .bool true) rfl (by kernel_rfl) (run_move_at _ _ _ _ _ _ _ _ (.bool true) (by kernel_rfl)) rfl ?_
            simp only [Act.put, List.setIfInBounds_toArray, List.set_cons_zero, List.set_cons_succ]
            refine wpList_skipD 78 rfl (by kernel_rfl) ?_
            simp only [Act.put, List.setIfInBounds_toArray, List.set_cons_zero, List.set_cons_succ]
            refine wpList_skipD 79 rfl (by kernel_rfl) ?_
            simp only [Act.put, List.setIfInBounds_toArray, List.set_cons_zero, List.set_cons_succ]
            refine wpList_skipD 80 rfl (by kernel_rfl) ?_
            simp only [Act.put, List.setIfInBounds_toArray, List.set_cons_zero, List.set_cons_succ]
            refine wpList_skipD 81 rfl (by kernel_rfl) ?_
            simp only [Act.put, List.setIfInBounds_toArray, List.set_cons_zero, List.set_cons_succ]
            refine wpList_skipD 82 rfl (by kernel_rfl) ?_
            simp only [Act.put, List.setIfInBounds_toArray, List.set_cons_zero, List.set_cons_succ]
            refine wpList_yieldD 83 (v := .bool true) (v' := .bool true) rfl (by kernel_rfl) (run_pick_at _ _ _ _ _ _ _ _ _ _ true (.bool true) undef (by kernel_rfl) (by kernel_rfl) (by kernel_rfl)) rfl ?_
            simp only [Act.put, List.setIfInBounds_toArray, List.set_cons_zero, List.set_cons_succ]
            refine wpList_yieldD 84 (v := .bool true) (v' := .bool true) rfl (by kernel_rfl) (run_move_at _ _ _ _ _ _ _ _ (.bool true) (by kernel_rfl)) rfl ?_
            simp only [Act.put, List.setIfInBounds_toArray, List.set_cons_zero, List.set_cons_succ]
            refine wpList_skipD 85 rfl (by kernel_rfl) ?_
            simp only [Act.put, List.setIfInBounds_toArray, List.set_cons_zero, List.set_cons_succ]
            refine wpList_skipD 86 rfl (by kernel_rfl) ?_
            simp only [Act.put, List.setIfInBounds_toArray, List.set_cons_zero, List.set_cons_succ]
            refine wpList_skipD 87 rfl (by kernel_rfl) ?_
            simp only [Act.put, List.setIfInBounds_toArray, List.set_cons_zero, List.set_cons_succ]
            refine wpList_yieldD 88 (v := .bool true) (v' := .bool true) rfl (by kernel_rfl) (run_pick_at _ _ _ _ _ _ _ _ _ _ true (.bool true) undef (by kernel_rfl) (by kernel_rfl) (by kernel_rfl)) rfl ?_
            simp only [Act.put, List.setIfInBounds_toArray, List.set_cons_zero, List.set_cons_succ]
            refine wpList_yieldD 89 (v := .bool true) (v' := .bool true) rfl (by kernel_rfl) (run_move_at _ _ _ _ _ _ _ _ (.bool true) (by kernel_rfl)) rfl ?_
            simp only [Act.put, List.setIfInBounds_toArray, List.set_cons_zero, List.set_cons_succ]
            refine wpList_skipD 90 rfl (by kernel_rfl) ?_
            simp only [Act.put, List.setIfInBounds_toArray, List.set_cons_zero, List.set_cons_succ]
            refine wpList_skipD 91 rfl (by kernel_rfl) ?_
            simp only [Act.put, List.setIfInBounds_toArray, List.set_cons_zero, List.set_cons_succ]
            refine wpList_skipD 92 rfl (by kernel_rfl) ?_
            simp only [Act.put, List.setIfInBounds_toArray, List.set_cons_zero, List.set_cons_succ]
            refine wpList_yieldD 93 (v := .bool true) (v' := .bool true) rfl (by kernel_rfl) (run_pick_at _ _ _ _ _ _ _ _ _ _ true (.bool true) undef (by kernel_rfl) (by kernel_rfl) (by kernel_rfl)) rfl ?_
            simp only [Act.put, List.setIfInBounds_toArray, List.set_cons_zero, List.set_cons_succ]
            refine wpList_yieldD 94 (v := .bool true) (v' := .bool true) rfl (by kernel_rfl) (run_move_at _ _ _ _ _ _ _ _ (.bool true) (by kernel_rfl)) rfl ?_
            simp only [Act.put, List.setIfInBounds_toArray, List.set_cons_zero, List.set_cons_succ]
            refine wpList_skipD 95 rfl (by kernel_rfl) ?_
            simp only [Act.put, List.setIfInBounds_toArray, List.set_cons_zero, List.set_cons_succ]
            refine wpList_skipD 96 rfl (by kernel_rfl) ?_
            simp only [Act.put, List.setIfInBounds_toArray, List.set_cons_zero, List.set_cons_succ]
            refine wpList_skipD 97 rfl (by kernel_rfl) ?_
            simp only [Act.put, List.setIfInBounds_toArray, List.set_cons_zero, List.set_cons_succ]
            refine wpList_yieldD 98 (v := .bool true) (v' := .bool true) rfl (by kernel_rfl) (run_pick_at _ _ _ _ _ _ _ _ _ _ true (.bool true) undef (by kernel_rfl) (by kernel_rfl) (by kernel_rfl)) rfl ?_
            simp only [Act.put, List.setIfInBounds_toArray, List.set_cons_zero, List.set_cons_succ]
            refine wpList_yieldD 99 (v := .bool true) (v' := .bool true) rfl (by kernel_rfl) (run_move_at _ _ _ _ _ _ _ _ (.bool true) (by kernel_rfl)) rfl ?_
            simp only [Act.put, List.setIfInBounds_toArray, List.set_cons_zero, List.set_cons_succ]
            refine wpList_skipD 100 rfl (by kernel_rfl) ?_
            simp only [Act.put, List.setIfInBounds_toArray, List.set_cons_zero, List.set_cons_succ]
            refine wpList_skipD 101 rfl (by kernel_rfl) ?_
            simp only [Act.put, List.setIfInBounds_toArray, List.set_cons_zero, List.set_cons_succ]
            refine wpList_skipD 102 rfl (by kernel_rfl) ?_
            simp only [Act.put, List.setIfInBounds_toArray, List.set_cons_zero, List.set_cons_succ]
            refine wpList_yieldD 103 (v := .bool true) (v' := .bool true) rfl (by kernel_rfl) (run_pick_at _ _ _ _ _ _ _ _ _ _ true (.bool true) undef (by kernel_rfl) (by kernel_rfl) (by kernel_rfl)) rfl ?_
            simp only [Act.put, List.setIfInBounds_toArray, List.set_cons_zero, List.set_cons_succ]
            refine wpList_yieldD 104 (v := .bool true) (v' := .bool true) rfl (by kernel_rfl) (run_move_at _ _ _ _ _ _ _ _ (.bool true) (by kernel_rfl)) rfl ?_
            simp only [Act.put, List.setIfInBounds_toArray, List.set_cons_zero, List.set_cons_succ]
            refine wpList_skipD 105 rfl (by kernel_rfl) ?_
            simp only [Act.put, List.setIfInBounds_toArray, List.set_cons_zero, List.set_cons_succ]
            refine wpList_skipD 106 rfl (by kernel_rfl) ?_
            simp only [Act.put, List.setIfInBounds_toArray, List.set_cons_zero, List.set_cons_succ]
            refine wpList_skipD 107 rfl (by kernel_rfl) ?_
            simp only [Act.put, List.setIfInBounds_toArray, List.set_cons_zero, List.set_cons_succ]
            refine wpList_yieldD 108 (v := .bool true) (v' := .bool true) rfl (by kernel_rfl) (run_pick_at _ _ _ _ _ _ _ _ _ _ true (.bool true) undef (by kernel_rfl) (by kernel_rfl) (by kernel_rfl)) rfl ?_
            simp only [Act.put, List.setIfInBounds_toArray, List.set_cons_zero, List.set_cons_succ]
            refine wpList_yieldD 109 (v := .bool true) (v' := .bool true) rfl (by kernel_rfl) (run_move_at _ _ _ _ _ _ _ _ (.bool true) (by kernel_rfl)) rfl ?_
            simp only [Act.put, List.setIfInBounds_toArray, List.set_cons_zero, List.set_cons_succ]
            refine wpList_skipD 110 rfl (by kernel_rfl) ?_
            simp only [Act.put, List.setIfInBounds_toArray, List.set_cons_zero, List.set_cons_succ]
            refine wpList_skipD 111 rfl (by kernel_rfl) ?_
            simp only [Act.put, List.setIfInBounds_toArray, List.set_cons_zero, List.set_cons_succ]
            refine wpList_skipD 112 rfl (by kernel_rfl) ?_
            simp only [Act.put, List.setIfInBounds_toArray, List.set_cons_zero, List.set_cons_succ]
            refine wpList_yieldD 113 (v := .bool true) (v' := .bool true) rfl (by kernel_rfl) (run_pick_at _ _ _ _ _ _ _ _ _ _ true (.bool true) undef (by kernel_rfl) (by kernel_rfl) (by kernel_rfl)) rfl ?_
            simp only [Act.put, List.setIfInBounds_toArray, List.set_cons_zero, List.set_cons_succ]
            refine wpList_yieldD 114 (v := .bool true) (v' := .bool true) rfl (by kernel_rfl) (run_move_at _ _ _ _ _ _ _ _ (.bool true) (by kernel_rfl)) rfl ?_
            simp only [Act.put, List.setIfInBounds_toArray, List.set_cons_zero, List.set_cons_succ]
            refine wpList_skipD 115 rfl (by kernel_rfl) ?_
            simp only [Act.put, List.setIfInBounds_toArray, List.set_cons_zero, List.set_cons_succ]
            refine wpList_skipD 116 rfl (by kernel_rfl) ?_
            simp only [Act.put, List.setIfInBounds_toArray, List.set_cons_zero, List.set_cons_succ]
            refine wpList_skipD 117 rfl (by kernel_rfl) ?_
            simp only [Act.put, List.setIfInBounds_toArray, List.set_cons_zero, List.set_cons_succ]
            refine wpList_yieldD 118 (v := .bool true) (v' := .bool true) rfl (by kernel_rfl) (run_pick_at _ _ _ _ _ _ _ _ _ _ true (.bool true) undef (by kernel_rfl) (by kernel_rfl) (by kernel_rfl)) rfl ?_
            simp only [Act.put, List.setIfInBounds_toArray, List.set_cons_zero, List.set_cons_succ]
            refine wpList_yieldD 119 (v := .bool true) (v' := .bool true) rfl (by kernel_rfl) (run_move_at _ _ _ _ _ _ _ _ (.bool true) (by kernel_rfl)) rfl ?_
            simp only [Act.put, List.setIfInBounds_toArray, List.set_cons_zero, List.set_cons_succ]
            refine wpList_skipD 120 rfl (by kernel_rfl) ?_
            simp only [Act.put, List.setIfInBounds_toArray, List.set_cons_zero, List.set_cons_succ]
            refine wpList_skipD 121 rfl (by kernel_rfl) ?_
            simp only [Act.put, List.setIfInBounds_toArray, List.set_cons_zero, List.set_cons_succ]
            refine wpList_skipD 122 rfl (by kernel_rfl) ?_
            simp only [Act.put, List.setIfInBounds_toArray, List.set_cons_zero, List.set_cons_succ]
            refine wpList_yieldD 123 (v := .bool true) (v' := .bool true) rfl (by kernel_rfl) (run_pick_at _ _ _ _ _ _ _ _ _ _ true (.bool true) undef (by kernel_rfl) (by kernel_rfl) (by kernel_rfl)) rfl ?_
            simp only [Act.put, List.setIfInBounds_toArray, List.set_cons_zero, List.set_cons_succ]
            refine wpList_nil ?_
            refine HK6.out _ _ ?_
            clear HK6 HK5 HK3
            go_wp2_with fail
            go_ret
            exact ⟨.inl rfl, HB2.out⟩
          have d23 : decide (xb < 0) = false := decide_eq_false g3
          refine wpList_yieldD 68 (v := .bool (decide (xb < 0))) (v' := .bool false) rfl (by kernel_rfl) (run_lss_at _ _ _ _ _ _ _ _ _ xb 0 (by kernel_rfl) (by kernel_rfl)) (congrArg Value.bool d23) ?_
          simp only [Act.put, List.setIfInBounds_toArray, List.set_cons_zero, List.set_cons_succ]
          refine wpList_yieldD 69 (v := .bool false) (v' := .bool false) rfl (by kernel_rfl) (run_pick_at _ _ _ _ _ _ _ _ _ _ false (.bool true) (.bool false) (by kernel_rfl) (by kernel_rfl) (by kernel_rfl)) rfl ?_
          simp only [Act.put, List.setIfInBounds_toArray, List.set_cons_zero, List.set_cons_succ]
          refine wpList_yieldD 70 (v := .bool false) (v' := .bool false) rfl (by kernel_rfl) (run_move_at _ _ _ _ _ _ _ _ (.bool false) (by kernel_rfl)) rfl ?_
          simp only [Act.put, List.setIfInBounds_toArray, List.set_cons_zero, List.set_cons_succ]
          refine wpList_yieldD 71 (v := .pointer (some ⟨wr.heap.size, 2, none⟩)) (v' := .pointer (some ⟨wr.heap.size, 2, none⟩)) rfl (by kernel_rfl) (run_fa_at _ 2 _ _ _ _ _ _ _ wr.heap.size (by kernel_rfl) (by decide)) rfl ?_
          simp only [Act.put, List.setIfInBounds_toArray, List.set_cons_zero, List.set_cons_succ]
          refine wpList_yieldD 72 (v := .int .i64 xb) (v' := .int .i64 xb) rfl (by kernel_rfl) (run_load_at _ _ _ _ _ _ _ _ wr.heap.size 2 xb (by kernel_rfl) r2) rfl ?_
          simp only [Act.put, List.setIfInBounds_toArray, List.set_cons_zero, List.set_cons_succ]
          refine wpList_yieldD 73 (v := .slice A n c) (v' := .slice A n c) rfl (by kernel_rfl) (run_move_at _ _ _ _ _ _ _ _ (.slice A n c) (by kernel_rfl)) rfl ?_
          simp only [Act.put, List.setIfInBounds_toArray, List.set_cons_zero, List.set_cons_succ]
          refine wpList_yieldD 74 (v := .int .i64 n) (v' := .int .i64 n) rfl (by kernel_rfl) (run_len_at _ _ _ _ _ _ _ _ A n c (by kernel_rfl)) rfl ?_
          simp only [Act.put, List.setIfInBounds_toArray, List.set_cons_zero, List.set_cons_succ]
          by_cases g4 : (n : Int) ≤ xb
          · have e4 : decide ((n : Int) ≤ xb) = true := decide_eq_true g4
            refine wpList_yieldD 75 (v := .bool (decide ((n : Int) ≤ xb))) (v' := .bool true) rfl (by kernel_rfl) (run_geq_at _ _ _ _ _ _ _ _ _ xb n (by kernel_rfl) (by kernel_rfl)) (congrArg Value.bool e4) ?_
            simp only [Act.put, List.setIfInBounds_toArray, List.set_cons_zero, List.set_cons_succ]
            refine wpList_yieldD 76 (v := .bool true) (v' := .bool true) rfl (by kernel_rfl) (run_pick_at _ _ _ _ _ _ _ _ _ _ false (.bool true) (.bool true) (by kernel_rfl) (by kernel_rfl) (by kernel_rfl)) rfl ?_
            simp only [Act.put, List.setIfInBounds_toArray, List.set_cons_zero, List.set_cons_succ]
            refine wpList_yieldD 77 (v := .bool true) (v' := .bool true) rfl (by kernel_rfl) (run_move_at _ _ _ _ _ _ _ _ (.bool true) (by kernel_rfl)) rfl ?_
            simp only [Act.put, List.setIfInBounds_toArray, List.set_cons_zero, List.set_cons_succ]
            refine wpList_skipD 78 rfl (by kernel_rfl) ?_
            simp only [Act.put, List.setIfInBounds_toArray, List.set_cons_zero, List.set_cons_succ]
            refine wpList_skipD 79 rfl (by kernel_rfl) ?_
            simp only [Act.put, List.setIfInBounds_toArray, List.set_cons_zero, List.set_cons_succ]
            refine wpList_skipD 80 rfl (by kernel_rfl) ?_
            simp only [Act.put, List.setIfInBounds_toArray, List.set_cons_zero, List.set_cons_succ]
            refine wpList_skipD 81 rfl (by kernel_rfl) ?_
            simp only [Act.put, List.setIfInBounds_toArray, List.set_cons_zero, List.set_cons_succ]
            refine wpList_skipD 82 rfl (by kernel_rfl) ?_
            simp only [Act.put, List.setIfInBounds_toArray, List.set_cons_zero, List.set_cons_succ]
            refine wpList_yieldD 83 (v := .bool true) (v' := .bool true) rfl (by kernel_rfl) (run_pick_at _ _ _ _ _ _ _ _ _ _ true (.bool true) undef (by kernel_rfl) (by kernel_rfl) (by kernel_rfl)) rfl ?_
            simp only [Act.put, List.setIfInBounds_toArray, List.set_cons_zero, List.set_cons_succ]
            refine wpList_yieldD 84 (v := .bool true) (v' := .bool true) rfl (by kernel_rfl) (run_move_at _ _ _ _ _ _ _ _ (.bool true) (by kernel_rfl)) rfl ?_
            simp only [Act.put, List.setIfInBounds_toArray, List.set_cons_zero, List.set_cons_succ]
            refine wpList_skipD 85 rfl (by kernel_rfl) ?_
            simp only [Act.put, List.setIfInBounds_toArray, List.set_cons_zero, List.set_cons_succ]
            refine wpList_skipD 86 rfl (by kernel_rfl) ?_
            simp only [Act.put, List.setIfInBounds_toArray, List.set_cons_zero, List.set_cons_succ]
            refine wpList_skipD 87 rfl (by kernel_rfl) ?_
            simp only [Act.put, List.setIfInBounds_toArray, List.set_cons_zero, List.set_cons_succ]
            refine wpList_yieldD 88 (v := .bool true) (v' := .bool true) rfl (by kernel_rfl) (run_pick_at _ _ _ _ _ _ _ _ _ _ true (.bool true) undef (by kernel_rfl) (by kernel_rfl) (by kernel_rfl)) rfl ?_
            simp only [Act.put, List.setIfInBounds_toArray, List.set_cons_zero, List.set_cons_succ]
            refine wpList_yieldD 89 (v := .bool true) (v' := .bool true) rfl (by kernel_rfl) (run_move_at _ _ _ _ _ _ _ _ (.bool true) (by kernel_rfl)) rfl ?_
            simp only [Act.put, List.setIfInBounds_toArray, List.set_cons_zero, List.set_cons_succ]
            refine wpList_skipD 90 rfl (by kernel_rfl) ?_
            simp only [Act.put, List.setIfInBounds_toArray, List.set_cons_zero, List.set_cons_succ]
            refine wpList_skipD 91 rfl (by kernel_rfl) ?_
            simp only [Act.put, List.setIfInBounds_toArray, List.set_cons_zero, List.set_cons_succ]
            refine wpList_skipD 92 rfl (by kernel_rfl) ?_
            simp only [Act.put, List.setIfInBounds_toArray, List.set_cons_zero, List.set_cons_succ]
            refine wpList_yieldD 93 (v := .bool true) (v' := .bool true) rfl (by kernel_rfl) (run_pick_at _ _ _ _ _ _ _ _ _ _ true (.bool true) undef (by kernel_rfl) (by kernel_rfl) (by kernel_rfl)) rfl ?_
            simp only [Act.put, List.setIfInBounds_toArray, List.set_cons_zero, List.set_cons_succ]
            refine wpList_yieldD 94 (v := .bool true) (v' := .bool true) rfl (by kernel_rfl) (run_move_at _ _ _ _ _ _ _ _ (.bool true) (by kernel_rfl)) rfl ?_
            simp only [Act.put, List.setIfInBounds_toArray, List.set_cons_zero, List.set_cons_succ]
            refine wpList_skipD 95 rfl (by kernel_rfl) ?_
            simp only [Act.put, List.setIfInBounds_toArray, List.set_cons_zero, List.set_cons_succ]
            refine wpList_skipD 96 rfl (by kernel_rfl) ?_
            simp only [Act.put, List.setIfInBounds_toArray, List.set_cons_zero, List.set_cons_succ]
            refine wpList_skipD 97 rfl (by kernel_rfl) ?_
            simp only [Act.put, List.setIfInBounds_toArray, List.set_cons_zero, List.set_cons_succ]
            refine wpList_yieldD 98 (v := .bool true) (v' := .bool true) rfl (by kernel_rfl) (run_pick_at _ _ _ _ _ _ _ _ _ _ true (.bool true) undef (by kernel_rfl) (by kernel_rfl) (by kernel_rfl)) rfl ?_
            simp only [Act.put, List.setIfInBounds_toArray, List.set_cons_zero, List.set_cons_succ]
            refine wpList_yieldD 99 (v := .bool true) (v' := .bool true) rfl (by kernel_rfl) (run_move_at _ _ _ _ _ _ _ _ (.bool true) (by kernel_rfl)) rfl ?_
            simp only [Act.put, List.setIfInBounds_toArray, List.set_cons_zero, List.set_cons_succ]
            refine wpList_skipD 100 rfl (by kernel_rfl) ?_
            simp only [Act.put, List.setIfInBounds_toArray, List.set_cons_zero, List.set_cons_succ]
            refine wpList_skipD 101 rfl (by kernel_rfl) ?_
            simp only [Act.put, List.setIfInBounds_toArray, List.set_cons_zero, List.set_cons_succ]
            refine wpList_skipD 102 rfl (by kernel_rfl) ?_
            simp only [Act.put, List.setIfInBounds_toArray, List.set_cons_zero, List.set_cons_succ]
            refine wpList_yieldD 103 (v := .bool true) (v' := .bool true) rfl (by kernel_rfl) (run_pick_at _ _ _ _ _ _ _ _ _ _ true (.bool true) undef (by kernel_rfl) (by kernel_rfl) (by kernel_rfl)) rfl ?_
            simp only [Act.put, List.setIfInBounds_toArray, List.set_cons_zero, List.set_cons_succ]
            refine wpList_yieldD 104 (v := .bool true) (v' := .bool true) rfl (by kernel_rfl) (run_move_at _ _ _ _ _ _ _ _ (.bool true) (by kernel_rfl)) rfl ?_
            simp only [Act.put, List.setIfInBounds_toArray, List.set_cons_zero, List.set_cons_succ]
            refine wpList_skipD 105 rfl (by kernel_rfl) ?_
            simp only [Act.put, List.setIfInBounds_toArray, List.set_cons_zero, List.set_cons_succ]
            refine wpList_skipD 106 rfl (by kernel_rfl) ?_
            simp only [Act.put, List.setIfInBounds_toArray, List.set_cons_zero, List.set_cons_succ]
            refine wpList_skipD 107 rfl (by kernel_rfl) ?_
            simp only [Act.put, List.setIfInBounds_toArray, List.set_cons_zero, List.set_cons_succ]
            refine wpList_yieldD 108 (v := .bool true) (v' := .bool true) rfl (by kernel_rfl) (run_pick_at _ _ _ _ _ _ _ _ _ _ true (.bool true) undef (by kernel_rfl) (by kernel_rfl) (by kernel_rfl)) rfl ?_
            simp only [Act.put, List.setIfInBounds_toArray, List.set_cons_zero, List.set_cons_succ]
            refine wpList_yieldD 109 (v := .bool true) (v' := .bool true) rfl (by kernel_rfl) (run_move_at _ _ _ _ _ _ _ _ (.bool true) (by kernel_rfl)) rfl ?_
            simp only [Act.put, List.setIfInBounds_toArray, List.set_cons_zero, List.set_cons_succ]
            refine wpList_skipD 110 rfl (by kernel_rfl) ?_
            simp only [Act.put, List.setIfInBounds_toArray, List.set_cons_zero, List.set_cons_succ]
            refine wpList_skipD 111 rfl (by kernel_rfl) ?_
            simp only [Act.put, List.setIfInBounds_toArray, List.set_cons_zero, List.set_cons_succ]
            refine wpList_skipD 112 rfl (by kernel_rfl) ?_
            simp only [Act.put, List.setIfInBounds_toArray, List.set_cons_zero, List.set_cons_succ]
            refine wpList_yieldD 113 (v := .bool true) (v' := .bool true) rfl (by kernel_rfl) (run_pick_at _ _ _ _ _ _ _ _ _ _ true (.bool true) undef (by kernel_rfl) (by kernel_rfl) (by kernel_rfl)) rfl ?_
            simp only [Act.put, List.setIfInBounds_toArray, List.set_cons_zero, List.set_cons_succ]
            refine wpList_yieldD 114 (v := .bool true) (v' := .bool true) rfl (by kernel_rfl) (run_move_at _ _ _ _ _ _ _ _ (.bool true) (by kernel_rfl)) rfl ?_
            simp only [Act.put, List.setIfInBounds_toArray, List.set_cons_zero, List.set_cons_succ]
            refine wpList_skipD 115 rfl (by kernel_rfl) ?_
            simp only [Act.put, List.setIfInBounds_toArray, List.set_cons_zero, List.set_cons_succ]
            refine wpList_skipD 116 rfl (by kernel_rfl) ?_
            simp only [Act.put, List.setIfInBounds_toArray, List.set_cons_zero, List.set_cons_succ]
            refine wpList_skipD 117 rfl (by kernel_rfl) ?_
            simp only [Act.put, List.setIfInBounds_toArray, List.set_cons_zero, List.set_cons_succ]
            refine wpList_yieldD 118 (v := .bool true) (v' := .bool true) rfl (by kernel_rfl) (run_pick_at _ _ _ _ _ _ _ _ _ _ true (.bool true) undef (by kernel_rfl) (by kernel_rfl) (by kernel_rfl)) rfl ?_
            simp only [Act.put, List.setIfInBounds_toArray, List.set_cons_zero, List.set_cons_succ]
            refine wpList_yieldD 119 (v := .bool true) (v' := .bool true) rfl (by kernel_rfl) (run_move_at _ _ _ _ _ _ _ _ (.bool true) (by kernel_rfl)) rfl ?_
            simp only [Act.put, List.setIfInBounds_toArray, List.set_cons_zero, List.set_cons_succ]
            refine wpList_skipD 120 rfl (by kernel_rfl) ?_
            simp only [Act.put, List.setIfInBounds_toArray, List.set_cons_zero, List.set_cons_succ]
            refine wpList_skipD 121 rfl (by kernel_rfl) ?_
            simp only [Act.put, List.setIfInBounds_toArray, List.set_cons_zero, List.set_cons_succ]
            refine wpList_skipD 122 rfl (by kernel_rfl) ?_
            simp only [Act.put, List.setIfInBounds_toArray, List.set_cons_zero, List.set_cons_succ]
            refine wpList_yieldD 123 (v := .bool true) (v' := .bool true) rfl (by kernel_rfl) (run_pick_at _ _ _ _ _ _ _ _ _ _ true (.bool true) undef (by kernel_rfl) (by kernel_rfl) (by kernel_rfl)) rfl ?_
            simp only [Act.put, List.setIfInBounds_toArray, List.set_cons_zero, List.set_cons_succ]
            refine wpList_nil ?_
            refine HK6.out _ _ ?_
            clear HK6 HK5 HK3
            go_wp2_with fail
            go_ret
            exact ⟨.inl rfl, HB2.out⟩
          have d24 : decide ((n : Int) ≤ xb) = false := decide_eq_false g4
          refine wpList_yieldD 75 (v := .bool (decide ((n : Int) ≤ xb))) (v' := .bool false) rfl (by kernel_rfl) (run_geq_at _ _ _ _ _ _ _ _ _ xb n (by kernel_rfl) (by kernel_rfl)) (congrArg Value.bool d24) ?_
          simp only [Act.put, List.setIfInBounds_toArray, List.set_cons_zero, List.set_cons_succ]
          refine wpList_yieldD 76 (v := .bool false) (v' := .bool false) rfl (by kernel_rfl) (run_pick_at _ _ _ _ _ _ _ _ _ _ false (.bool true) (.bool false) (by kernel_rfl) (by kernel_rfl) (by kernel_rfl)) rfl ?_
          simp only [Act.put, List.setIfInBounds_toArray, List.set_cons_zero, List.set_cons_succ]
          refine wpList_yieldD 77 (v := .bool false) (v' := .bool false) rfl (by kernel_rfl) (run_move_at _ _ _ _ _ _ _ _ (.bool false) (by kernel_rfl)) rfl ?_
          simp only [Act.put, List.setIfInBounds_toArray, List.set_cons_zero, List.set_cons_succ]
          refine wpList_yieldD 78 (v := .pointer (some ⟨wr.heap.size, 0, none⟩)) (v' := .pointer (some ⟨wr.heap.size, 0, none⟩)) rfl (by kernel_rfl) (run_fa_at _ 0 _ _ _ _ _ _ _ wr.heap.size (by kernel_rfl) (by decide)) rfl ?_
          simp only [Act.put, List.setIfInBounds_toArray, List.set_cons_zero, List.set_cons_succ]
          refine wpList_yieldD 79 (v := .int .i64 xa) (v' := .int .i64 xa) rfl (by kernel_rfl) (run_load_at _ _ _ _ _ _ _ _ wr.heap.size 0 xa (by kernel_rfl) r0) rfl ?_
          simp only [Act.put, List.setIfInBounds_toArray, List.set_cons_zero, List.set_cons_succ]
          refine wpList_yieldD 80 (v := .pointer (some ⟨wr.heap.size, 2, none⟩)) (v' := .pointer (some ⟨wr.heap.size, 2, none⟩)) rfl (by kernel_rfl) (run_fa_at _ 2 _ _ _ _ _ _ _ wr.heap.size (by kernel_rfl) (by decide)) rfl ?_
          simp only [Act.put, List.setIfInBounds_toArray, List.set_cons_zero, List.set_cons_succ]
          refine wpList_yieldD 81 (v := .int .i64 xb) (v' := .int .i64 xb) rfl (by kernel_rfl) (run_load_at _ _ _ _ _ _ _ _ wr.heap.size 2 xb (by kernel_rfl) r2) rfl ?_
          simp only [Act.put, List.setIfInBounds_toArray, List.set_cons_zero, List.set_cons_succ]
          by_cases g5 : xa = xb
          · have e5 : (xa == xb) = true := by simpa using g5
            refine wpList_yieldD 82 (v := .bool (xa == xb)) (v' := .bool true) rfl (by kernel_rfl) (run_eql_at _ _ _ _ _ _ _ _ _ xa xb (by kernel_rfl) (by kernel_rfl)) (congrArg Value.bool e5) ?_
            simp only [Act.put, List.setIfInBounds_toArray, List.set_cons_zero, List.set_cons_succ]
            refine wpList_yieldD 83 (v := .bool true) (v' := .bool true) rfl (by kernel_rfl) (run_pick_at _ _ _ _ _ _ _ _ _ _ false (.bool true) (.bool true) (by kernel_rfl) (by kernel_rfl) (by kernel_rfl)) rfl ?_
            simp only [Act.put, List.setIfInBounds_toArray, List.set_cons_zero, List.set_cons_succ]
            refine wpList_yieldD 84 (v := .bool true) (v' := .bool true) rfl (by kernel_rfl) (run_move_at _ _ _ _ _ _ _ _ (.bool true) (by kernel_rfl)) rfl ?_
            simp only [Act.put, List.setIfInBounds_toArray, List.set_cons_zero, List.set_cons_succ]
            refine wpList_skipD 85 rfl (by kernel_rfl) ?_
            simp only [Act.put, List.setIfInBounds_toArray, List.set_cons_zero, List.set_cons_succ]
            refine wpList_skipD 86 rfl (by kernel_rfl) ?_
            simp only [Act.put, List.setIfInBounds_toArray, List.set_cons_zero, List.set_cons_succ]
            refine wpList_skipD 87 rfl (by kernel_rfl) ?_
            simp only [Act.put, List.setIfInBounds_toArray, List.set_cons_zero, List.set_cons_succ]
            refine wpList_yieldD 88 (v := .bool true) (v' := .bool true) rfl (by kernel_rfl) (run_pick_at _ _ _ _ _ _ _ _ _ _ true (.bool true) undef (by kernel_rfl) (by kernel_rfl) (by kernel_rfl)) rfl ?_
            simp only [Act.put, List.setIfInBounds_toArray, List.set_cons_zero, List.set_cons_succ]
            refine wpList_yieldD 89 (v := .bool true) (v' := .bool true) rfl (by kernel_rfl) (run_move_at _ _ _ _ _ _ _ _ (.bool true) (by kernel_rfl)) rfl ?_
            simp only [Act.put, List.setIfInBounds_toArray, List.set_cons_zero, List.set_cons_succ]
            refine wpList_skipD 90 rfl (by kernel_rfl) ?_
            simp only [Act.put, List.setIfInBounds_toArray, List.set_cons_zero, List.set_cons_succ]
            refine wpList_skipD 91 rfl (by kernel_rfl) ?_
            simp only [Act.put, List.setIfInBounds_toArray, List.set_cons_zero, List.set_cons_succ]
            refine wpList_skipD 92 rfl (by kernel_rfl) ?_
            simp only [Act.put, List.setIfInBounds_toArray, List.set_cons_zero, List.set_cons_succ]
            refine wpList_yieldD 93 (v := .bool true) (v' := .bool true) rfl (by kernel_rfl) (run_pick_at _ _ _ _ _ _ _ _ _ _ true (.bool true) undef (by kernel_rfl) (by kernel_rfl) (by kernel_rfl)) rfl ?_
            simp only [Act.put, List.setIfInBounds_toArray, List.set_cons_zero, List.set_cons_succ]
            refine wpList_yieldD 94 (v := .bool true) (v' := .bool true) rfl (by kernel_rfl) (run_move_at _ _ _ _ _ _ _ _ (.bool true) (by kernel_rfl)) rfl ?_
            simp only [Act.put, List.setIfInBounds_toArray, List.set_cons_zero, List.set_cons_succ]
            refine wpList_skipD 95 rfl (by kernel_rfl) ?_
            simp only [Act.put, List.setIfInBounds_toArray, List.set_cons_zero, List.set_cons_succ]
            refine wpList_skipD 96 rfl (by kernel_rfl) ?_
            simp only [Act.put, List.setIfInBounds_toArray, List.set_cons_zero, List.set_cons_succ]
            refine wpList_skipD 97 rfl (by kernel_rfl) ?_
            simp only [Act.put, List.setIfInBounds_toArray, List.set_cons_zero, List.set_cons_succ]
            refine wpList_yieldD 98 (v := .bool true) (v' := .bool true) rfl (by kernel_rfl) (run_pick_at _ _ _ _ _ _ _ _ _ _ true (.bool true) undef (by kernel_rfl) (by kernel_rfl) (by kernel_rfl)) rfl ?_
            simp only [Act.put, List.setIfInBounds_toArray, List.set_cons_zero, List.set_cons_succ]
            refine wpList_yieldD 99 (v := .bool true) (v' := .bool true) rfl (by kernel_rfl) (run_move_at _ _ _ _ _ _ _ _ (.bool true) (by kernel_rfl)) rfl ?_
            simp only [Act.put, List.setIfInBounds_toArray, List.set_cons_zero, List.set_cons_succ]
            refine wpList_skipD 100 rfl (by kernel_rfl) ?_
            simp only [Act.put, List.setIfInBounds_toArray, List.set_cons_zero, List.set_cons_succ]
            refine wpList_skipD 101 rfl (by kernel_rfl) ?_
            simp only [Act.put, List.setIfInBounds_toArray, List.set_cons_zero, List.set_cons_succ]
            refine wpList_skipD 102 rfl (by kernel_rfl) ?_
            simp only [Act.put, List.setIfInBounds_toArray, List.set_cons_zero, List.set_cons_succ]
            refine wpList_yieldD 103 (v := .bool true) (v' := .bool true) rfl (by kernel_rfl) (run_pick_at _ _ _ _ _ _ _ _ _ _ true (.bool true) undef (by kernel_rfl) (by kernel_rfl) (by kernel_rfl)) rfl ?_
            simp only [Act.put, List.setIfInBounds_toArray, List.set_cons_zero, List.set_cons_succ]
            refine wpList_yieldD 104 (v := .bool true) (v' := .bool true) rfl (by kernel_rfl) (run_move_at _ _ _ _ _ _ _ _ (.bool true) (by kernel_rfl)) rfl ?_
            simp only [Act.put, List.setIfInBounds_toArray, List.set_cons_zero, List.set_cons_succ]
            refine wpList_skipD 105 rfl (by kernel_rfl) ?_
            simp only [Act.put, List.setIfInBounds_toArray, List.set_cons_zero, List.set_cons_succ]
            refine wpList_skipD 106 rfl (by kernel_rfl) ?_
            simp only [Act.put, List.setIfInBounds_toArray, List.set_cons_zero, List.set_cons_succ]
            refine wpList_skipD 107 rfl (by kernel_rfl) ?_
            simp only [Act.put, List.setIfInBounds_toArray, List.set_cons_zero, List.set_cons_succ]
            refine wpList_yieldD 108 (v := .bool true) (v' := .bool true) rfl (by kernel_rfl) (run_pick_at _ _ _ _ _ _ _ _ _ _ true (.bool true) undef (by kernel_rfl) (by kernel_rfl) (by kernel_rfl)) rfl ?_
            simp only [Act.put, List.setIfInBounds_toArray, List.set_cons_zero, List.set_cons_succ]
            refine wpList_yieldD 109 (v := .bool true) (v' := .bool true) rfl (by kernel_rfl) (run_move_at _ _ _ _ _ _ _ _ (.bool true) (by kernel_rfl)) rfl ?_
            simp only [Act.put, List.setIfInBounds_toArray, List.set_cons_zero, List.set_cons_succ]
            refine wpList_skipD 110 rfl (by kernel_rfl) ?_
            simp only [Act.put, List.setIfInBounds_toArray, List.set_cons_zero, List.set_cons_succ]
            refine wpList_skipD 111 rfl (by kernel_rfl) ?_
            simp only [Act.put, List.setIfInBounds_toArray, List.set_cons_zero, List.set_cons_succ]
            refine wpList_skipD 112 rfl (by kernel_rfl) ?_
            simp only [Act.put, List.setIfInBounds_toArray, List.set_cons_zero, List.set_cons_succ]
            refine wpList_yieldD 113 (v := .bool true) (v' := .bool true) rfl (by kernel_rfl) (run_pick_at _ _ _ _ _ _ _ _ _ _ true (.bool true) undef (by kernel_rfl) (by kernel_rfl) (by kernel_rfl)) rfl ?_
            simp only [Act.put, List.setIfInBounds_toArray, List.set_cons_zero, List.set_cons_succ]
            refine wpList_yieldD 114 (v := .bool true) (v' := .bool true) rfl (by kernel_rfl) (run_move_at _ _ _ _ _ _ _ _ (.bool true) (by kernel_rfl)) rfl ?_
            simp only [Act.put, List.setIfInBounds_toArray, List.set_cons_zero, List.set_cons_succ]
            refine wpList_skipD 115 rfl (by kernel_rfl) ?_
            simp only [Act.put, List.setIfInBounds_toArray, List.set_cons_zero, List.set_cons_succ]
            refine wpList_skipD 116 rfl (by kernel_rfl) ?_
            simp only [Act.put, List.setIfInBounds_toArray, List.set_cons_zero, List.set_cons_succ]
            refine wpList_skipD 117 rfl (by kernel_rfl) ?_
            simp only [Act.put, List.setIfInBounds_toArray, List.set_cons_zero, List.set_cons_succ]
            refine wpList_yieldD 118 (v := .bool true) (v' := .bool true) rfl (by kernel_rfl) (run_pick_at _ _ _ _ _ _ _ _ _ _ true (.bool true) undef (by kernel_rfl) (by kernel_rfl) (by kernel_rfl)) rfl ?_
            simp only [Act.put, List.setIfInBounds_toArray, List.set_cons_zero, List.set_cons_succ]
            refine wpList_yieldD 119 (v := .bool true) (v' := .bool true) rfl (by kernel_rfl) (run_move_at _ _ _ _ _ _ _ _ (.bool true) (by kernel_rfl)) rfl ?_
            simp only [Act.put, List.setIfInBounds_toArray, List.set_cons_zero, List.set_cons_succ]
            refine wpList_skipD 120 rfl (by kernel_rfl) ?_
            simp only [Act.put, List.setIfInBounds_toArray, List.set_cons_zero, List.set_cons_succ]
            refine wpList_skipD 121 rfl (by kernel_rfl) ?_
            simp only [Act.put, List.setIfInBounds_toArray, List.set_cons_zero, List.set_cons_succ]
            refine wpList_skipD 122 rfl (by kernel_rfl) ?_
            simp only [Act.put, List.setIfInBounds_toArray, List.set_cons_zero, List.set_cons_succ]
            refine wpList_yieldD 123 (v := .bool true) (v' := .bool true) rfl (by kernel_rfl) (run_pick_at _ _ _ _ _ _ _ _ _ _ true (.bool true) undef (by kernel_rfl) (by kernel_rfl) (by kernel_rfl)) rfl ?_
            simp only [Act.put, List.setIfInBounds_toArray, List.set_cons_zero, List.set_cons_succ]
            refine wpList_nil ?_
            refine HK6.out _ _ ?_
            clear HK6 HK5 HK3 g5 e5
            go_wp2_with fail
            go_ret
            exact ⟨.inl rfl, HB2.out⟩
          have d25 : (xa == xb) = false := by simpa using g5
          refine wpList_yieldD 82 (v := .bool (xa == xb)) (v' := .bool false) rfl (by kernel_rfl) (run_eql_at _ _ _ _ _ _ _ _ _ xa xb (by kernel_rfl) (by kernel_rfl)) (congrArg Value.bool d25) ?_
          simp only [Act.put, List.setIfInBounds_toArray, List.set_cons_zero, List.set_cons_succ]
          refine wpList_yieldD 83 (v := .bool false) (v' := .bool false) rfl (by kernel_rfl) (run_pick_at _ _ _ _ _ _ _ _ _ _ false (.bool true) (.bool false) (by kernel_rfl) (by kernel_rfl) (by kernel_rfl)) rfl ?_
          simp only [Act.put, List.setIfInBounds_toArray, List.set_cons_zero, List.set_cons_succ]
          refine wpList_yieldD 84 (v := .bool false) (v' := .bool false) rfl (by kernel_rfl) (run_move_at _ _ _ _ _ _ _ _ (.bool false) (by kernel_rfl)) rfl ?_
          simp only [Act.put, List.setIfInBounds_toArray, List.set_cons_zero, List.set_cons_succ]
          refine wpList_yieldD 85 (v := .pointer (some ⟨wr.heap.size, 1, none⟩)) (v' := .pointer (some ⟨wr.heap.size, 1, none⟩)) rfl (by kernel_rfl) (run_fa_at _ 1 _ _ _ _ _ _ _ wr.heap.size (by kernel_rfl) (by decide)) rfl ?_
          simp only [Act.put, List.setIfInBounds_toArray, List.set_cons_zero, List.set_cons_succ]
          refine wpList_yieldD 86 (v := .int .i64 xpa) (v' := .int .i64 xpa) rfl (by kernel_rfl) (run_load_at _ _ _ _ _ _ _ _ wr.heap.size 1 xpa (by kernel_rfl) r1) rfl ?_
          simp only [Act.put, List.setIfInBounds_toArray, List.set_cons_zero, List.set_cons_succ]
          by_cases g6 : xpa < 0
          · have e6 : decide (xpa < 0) = true := decide_eq_true g6
            refine wpList_yieldD 87 (v := .bool (decide (xpa < 0))) (v' := .bool true) rfl (by kernel_rfl) (run_lss_at _ _ _ _ _ _ _ _ _ xpa 0 (by kernel_rfl) (by kernel_rfl)) (congrArg Value.bool e6) ?_
            simp only [Act.put, List.setIfInBounds_toArray, List.set_cons_zero, List.set_cons_succ]
            refine wpList_yieldD 88 (v := .bool true) (v' := .bool true) rfl (by kernel_rfl) (run_pick_at _ _ _ _ _ _ _ _ _ _ false (.bool true) (.bool true) (by kernel_rfl) (by kernel_rfl) (by kernel_rfl)) rfl ?_
            simp only [Act.put, List.setIfInBounds_toArray, List.set_cons_zero, List.set_cons_succ]
            refine wpList_yieldD 89 (v := .bool true) (v' := .bool true) rfl (by kernel_rfl) (run_move_at _ _ _ _ _ _ _ _ (.bool true) (by kernel_rfl)) rfl ?_
            simp only [Act.put, List.setIfInBounds_toArray, List.set_cons_zero, List.set_cons_succ]
            refine wpList_skipD 90 rfl (by kernel_rfl) ?_
            simp only [Act.put, List.setIfInBounds_toArray, List.set_cons_zero, List.set_cons_succ]
            refine wpList_skipD 91 rfl (by kernel_rfl) ?_
            simp only [Act.put, List.setIfInBounds_toArray, List.set_cons_zero, List.set_cons_succ]
            refine wpList_skipD 92 rfl (by kernel_rfl) ?_
            simp only [Act.put, List.setIfInBounds_toArray, List.set_cons_zero, List.set_cons_succ]
            refine wpList_yieldD 93 (v := .bool true) (v' := .bool true) rfl (by kernel_rfl) (run_pick_at _ _ _ _ _ _ _ _ _ _ true (.bool true) undef (by kernel_rfl) (by kernel_rfl) (by kernel_rfl)) rfl ?_
            simp only [Act.put, List.setIfInBounds_toArray, List.set_cons_zero, List.set_cons_succ]
            refine wpList_yieldD 94 (v := .bool true) (v' := .bool true) rfl (by kernel_rfl) (run_move_at _ _ _ _ _ _ _ _ (.bool true) (by kernel_rfl)) rfl ?_
            simp only [Act.put, List.setIfInBounds_toArray, List.set_cons_zero, List.set_cons_succ]
            refine wpList_skipD 95 rfl (by kernel_rfl) ?_
            simp only [Act.put, List.setIfInBounds_toArray, List.set_cons_zero, List.set_cons_succ]
            refine wpList_skipD 96 rfl (by kernel_rfl) ?_
            simp only [Act.put, List.setIfInBounds_toArray, List.set_cons_zero, List.set_cons_succ]
            refine wpList_skipD 97 rfl (by kernel_rfl) ?_
            simp only [Act.put, List.setIfInBounds_toArray, List.set_cons_zero, List.set_cons_succ]
            refine wpList_yieldD 98 (v := .bool true) (v' := .bool true) rfl (by kernel_rfl) (run_pick_at _ _ _ _ _ _ _ _ _ _ true (.bool true) undef (by kernel_rfl) (by kernel_rfl) (by kernel_rfl)) rfl ?_
            simp only [Act.put, List.setIfInBounds_toArray, List.set_cons_zero, List.set_cons_succ]
            refine wpList_yieldD 99 (v := .bool true) (v' := .bool true) rfl (by kernel_rfl) (run_move_at _ _ _ _ _ _ _ _ (.bool true) (by kernel_rfl)) rfl ?_
            simp only [Act.put, List.setIfInBounds_toArray, List.set_cons_zero, List.set_cons_succ]
            refine wpList_skipD 100 rfl (by kernel_rfl) ?_
            simp only [Act.put, List.setIfInBounds_toArray, List.set_cons_zero, List.set_cons_succ]
            refine wpList_skipD 101 rfl (by kernel_rfl) ?_
            simp only [Act.put, List.setIfInBounds_toArray, List.set_cons_zero, List.set_cons_succ]
            refine wpList_skipD 102 rfl (by kernel_rfl) ?_
            simp only [Act.put, List.setIfInBounds_toArray, List.set_cons_zero, List.set_cons_succ]
            refine wpList_yieldD 103 (v := .bool true) (v' := .bool true) rfl (by kernel_rfl) (run_pick_at _ _ _ _ _ _ _ _ _ _ true (.bool true) undef (by kernel_rfl) (by kernel_rfl) (by kernel_rfl)) rfl ?_
            simp only [Act.put, List.setIfInBounds_toArray, List.set_cons_zero, List.set_cons_succ]
            refine wpList_yieldD 104 (v := .bool true) (v' := .bool true) rfl (by kernel_rfl) (run_move_at _ _ _ _ _ _ _ _ (.bool true) (by kernel_rfl)) rfl ?_
            simp only [Act.put, List.setIfInBounds_toArray, List.set_cons_zero, List.set_cons_succ]
            refine wpList_skipD 105 rfl (by kernel_rfl) ?_
            simp only [Act.put, List.setIfInBounds_toArray, List.set_cons_zero, List.set_cons_succ]
            refine wpList_skipD 106 rfl (by kernel_rfl) ?_
            simp only [Act.put, List.setIfInBounds_toArray, List.set_cons_zero, List.set_cons_succ]
            refine wpList_skipD 107 rfl (by kernel_rfl) ?_
            simp only [Act.put, List.setIfInBounds_toArray, List.set_cons_zero, List.set_cons_succ]
            refine wpList_yieldD 108 (v := .bool true) (v' := .bool true) rfl (by kernel_rfl) (run_pick_at _ _ _ _ _ _ _ _ _ _ true (.bool true) undef (by kernel_rfl) (by kernel_rfl) (by kernel_rfl)) rfl ?_
            simp only [Act.put, List.setIfInBounds_toArray, List.set_cons_zero, List.set_cons_succ]
            refine wpList_yieldD 109 (v := .bool true) (v' := .bool true) rfl (by kernel_rfl) (run_move_at _ _ _ _ _ _ _ _ (.bool true) (by kernel_rfl)) rfl ?_
            simp only [Act.put, List.setIfInBounds_toArray, List.set_cons_zero, List.set_cons_succ]
            refine wpList_skipD 110 rfl (by kernel_rfl) ?_
            simp only [Act.put, List.setIfInBounds_toArray, List.set_cons_zero, List.set_cons_succ]
            refine wpList_skipD 111 rfl (by kernel_rfl) ?_
            simp only [Act.put, List.setIfInBounds_toArray, List.set_cons_zero, List.set_cons_succ]
            refine wpList_skipD 112 rfl (by kernel_rfl) ?_
            simp only [Act.put, List.setIfInBounds_toArray, List.set_cons_zero, List.set_cons_succ]
            refine wpList_yieldD 113 (v := .bool true) (v' := .bool true) rfl (by kernel_rfl) (run_pick_at _ _ _ _ _ _ _ _ _ _ true (.bool true) undef (by kernel_rfl) (by kernel_rfl) (by kernel_rfl)) rfl ?_
            simp only [Act.put, List.setIfInBounds_toArray, List.set_cons_zero, List.set_cons_succ]
            refine wpList_yieldD 114 (v := .bool true) (v' := .bool true) rfl (by kernel_rfl) (run_move_at _ _ _ _ _ _ _ _ (.bool true) (by kernel_rfl)) rfl ?_
            simp only [Act.put, List.setIfInBounds_toArray, List.set_cons_zero, List.set_cons_succ]
            refine wpList_skipD 115 rfl (by kernel_rfl) ?_
            simp only [Act.put, List.setIfInBounds_toArray, List.set_cons_zero, List.set_cons_succ]
            refine wpList_skipD 116 rfl (by kernel_rfl) ?_
            simp only [Act.put, List.setIfInBounds_toArray, List.set_cons_zero, List.set_cons_succ]
            refine wpList_skipD 117 rfl (by kernel_rfl) ?_
            simp only [Act.put, List.setIfInBounds_toArray, List.set_cons_zero, List.set_cons_succ]
            refine wpList_yieldD 118 (v := .bool true) (v' := .bool true) rfl (by kernel_rfl) (run_pick_at _ _ _ _ _ _ _ _ _ _ true (.bool true) undef (by kernel_rfl) (by kernel_rfl) (by kernel_rfl)) rfl ?_
            simp only [Act.put, List.setIfInBounds_toArray, List.set_cons_zero, List.set_cons_succ]
            refine wpList_yieldD 119 (v := .bool true) (v' := .bool true) rfl (by kernel_rfl) (run_move_at _ _ _ _ _ _ _ _ (.bool true) (by kernel_rfl)) rfl ?_
            simp only [Act.put, List.setIfInBounds_toArray, List.set_cons_zero, List.set_cons_succ]
            refine wpList_skipD 120 rfl (by kernel_rfl) ?_
            simp only [Act.put, List.setIfInBounds_toArray, List.set_cons_zero, List.set_cons_succ]
            refine wpList_skipD 121 rfl (by kernel_rfl) ?_
            simp only [Act.put, List.setIfInBounds_toArray, List.set_cons_zero, List.set_cons_succ]
            refine wpList_skipD 122 rfl (by kernel_rfl) ?_
            simp only [Act.put, List.setIfInBounds_toArray, List.set_cons_zero, List.set_cons_succ]
            refine wpList_yieldD 123 (v := .bool true) (v' := .bool true) rfl (by kernel_rfl) (run_pick_at _ _ _ _ _ _ _ _ _ _ true (.bool true) undef (by kernel_rfl) (by kernel_rfl) (by kernel_rfl)) rfl ?_
            simp only [Act.put, List.setIfInBounds_toArray, List.set_cons_zero, List.set_cons_succ]
            refine wpList_nil ?_
            refine HK6.out _ _ ?_
            clear HK6 HK5 HK3
            go_wp2_with fail
            go_ret
            exact ⟨.inl rfl, HB2.out⟩
          have d26 : decide (xpa < 0) = false := decide_eq_false g6
          refine wpList_yieldD 87 (v := .bool (decide (xpa < 0))) (v' := .bool false) rfl (by kernel_rfl) (run_lss_at _ _ _ _ _ _ _ _ _ xpa 0 (by kernel_rfl) (by kernel_rfl)) (congrArg Value.bool d26) ?_
          simp only [Act.put, List.setIfInBounds_toArray, List.set_cons_zero, List.set_cons_succ]
          refine wpList_yieldD 88 (v := .bool false) (v' := .bool false) rfl (by kernel_rfl) (run_pick_at _ _ _ _ _ _ _ _ _ _ false (.bool true) (.bool false) (by kernel_rfl) (by kernel_rfl) (by kernel_rfl)) rfl ?_
          simp only [Act.put, List.setIfInBounds_toArray, List.set_cons_zero, List.set_cons_succ]
          refine wpList_yieldD 89 (v := .bool false) (v' := .bool false) rfl (by kernel_rfl) (run_move_at _ _ _ _ _ _ _ _ (.bool false) (by kernel_rfl)) rfl ?_
          simp only [Act.put, List.setIfInBounds_toArray, List.set_cons_zero, List.set_cons_succ]
          refine wpList_yieldD 90 (v := .pointer (some ⟨wr.heap.size, 1, none⟩)) (v' := .pointer (some ⟨wr.heap.size, 1, none⟩)) rfl (by kernel_rfl) (run_fa_at _ 1 _ _ _ _ _ _ _ wr.heap.size (by kernel_rfl) (by decide)) rfl ?_
          simp only [Act.put, List.setIfInBounds_toArray, List.set_cons_zero, List.set_cons_succ]
          refine wpList_yieldD 91 (v := .int .i64 xpa) (v' := .int .i64 xpa) rfl (by kernel_rfl) (run_load_at _ _ _ _ _ _ _ _ wr.heap.size 1 xpa (by kernel_rfl) r1) rfl ?_
          simp only [Act.put, List.setIfInBounds_toArray, List.set_cons_zero, List.set_cons_succ]
          by_cases g7 : 5 < xpa
          · have e7 : decide (5 < xpa) = true := decide_eq_true g7
            refine wpList_yieldD 92 (v := .bool (decide (5 < xpa))) (v' := .bool true) rfl (by kernel_rfl) (run_gtr_at _ _ _ _ _ _ _ _ _ xpa 5 (by kernel_rfl) (by kernel_rfl)) (congrArg Value.bool e7) ?_
            simp only [Act.put, List.setIfInBounds_toArray, List.set_cons_zero, List.set_cons_succ]
            refine wpList_yieldD 93 (v := .bool true) (v' := .bool true) rfl (by kernel_rfl) (run_pick_at _ _ _ _ _ _ _ _ _ _ false (.bool true) (.bool true) (by kernel_rfl) (by kernel_rfl) (by kernel_rfl)) rfl ?_
            simp only [Act.put, List.setIfInBounds_toArray, List.set_cons_zero, List.set_cons_succ]
            refine wpList_yieldD 94 (v := .bool true) (v' := .bool true) rfl (by kernel_rfl) (run_move_at _ _ _ _ _ _ _ _ (.bool true) (by kernel_rfl)) rfl ?_
            simp only [Act.put, List.setIfInBounds_toArray, List.set_cons_zero, List.set_cons_succ]
            refine wpList_skipD 95 rfl (by kernel_rfl) ?_
            simp only [Act.put, List.setIfInBounds_toArray, List.set_cons_zero, List.set_cons_succ]
            refine wpList_skipD 96 rfl (by kernel_rfl) ?_
            simp only [Act.put, List.setIfInBounds_toArray, List.set_cons_zero, List.set_cons_succ]
            refine wpList_skipD 97 rfl (by kernel_rfl) ?_
            simp only [Act.put, List.setIfInBounds_toArray, List.set_cons_zero, List.set_cons_succ]
            refine wpList_yieldD 98 (v := .bool true) (v' := .bool true) rfl (by kernel_rfl) (run_pick_at _ _ _ _ _ _ _ _ _ _ true (.bool true) undef (by kernel_rfl) (by kernel_rfl) (by kernel_rfl)) rfl ?_
            simp only [Act.put, List.setIfInBounds_toArray, List.set_cons_zero, List.set_cons_succ]
            refine wpList_yieldD 99 (v := .bool true) (v' := .bool true) rfl (by kernel_rfl) (run_move_at _ _ _ _ _ _ _ _ (.bool true) (by kernel_rfl)) rfl ?_
            simp only [Act.put, List.setIfInBounds_toArray, List.set_cons_zero, List.set_cons_succ]
            refine wpList_skipD 100 rfl (by kernel_rfl) ?_
            simp only [Act.put, List.setIfInBounds_toArray, List.set_cons_zero, List.set_cons_succ]
            refine wpList_skipD 101 rfl (by kernel_rfl) ?_
            simp only [Act.put, List.setIfInBounds_toArray, List.set_cons_zero, List.set_cons_succ]
            refine wpList_skipD 102 rfl (by kernel_rfl) ?_
            simp only [Act.put, List.setIfInBounds_toArray, List.set_cons_zero, List.set_cons_succ]
            refine wpList_yieldD 103 (v := .bool true) (v' := .bool true) rfl (by kernel_rfl) (run_pick_at _ _ _ _ _ _ _ _ _ _ true (.bool true) undef (by kernel_rfl) (by kernel_rfl) (by kernel_rfl)) rfl ?_
            simp only [Act.put, List.setIfInBounds_toArray, List.set_cons_zero, List.set_cons_succ]
            refine wpList_yieldD 104 (v := .bool true) (v' := .bool true) rfl (by kernel_rfl) (run_move_at _ _ _ _ _ _ _ _ (.bool true) (by kernel_rfl)) rfl ?_
            simp only [Act.put, List.setIfInBounds_toArray, List.set_cons_zero, List.set_cons_succ]
            refine wpList_skipD 105 rfl (by kernel_rfl) ?_
            simp only [Act.put, List.setIfInBounds_toArray, List.set_cons_zero, List.set_cons_succ]
            refine wpList_skipD 106 rfl (by kernel_rfl) ?_
            simp only [Act.put, List.setIfInBounds_toArray, List.set_cons_zero, List.set_cons_succ]
            refine wpList_skipD 107 rfl (by kernel_rfl) ?_
            simp only [Act.put, List.setIfInBounds_toArray, List.set_cons_zero, List.set_cons_succ]
            refine wpList_yieldD 108 (v := .bool true) (v' := .bool true) rfl (by kernel_rfl) (run_pick_at _ _ _ _ _ _ _ _ _ _ true (.bool true) undef (by kernel_rfl) (by kernel_rfl) (by kernel_rfl)) rfl ?_
            simp only [Act.put, List.setIfInBounds_toArray, List.set_cons_zero, List.set_cons_succ]
            refine wpList_yieldD 109 (v := .bool true) (v' := .bool true) rfl (by kernel_rfl) (run_move_at _ _ _ _ _ _ _ _ (.bool true) (by kernel_rfl)) rfl ?_
            simp only [Act.put, List.setIfInBounds_toArray, List.set_cons_zero, List.set_cons_succ]
            refine wpList_skipD 110 rfl (by kernel_rfl) ?_
            simp only [Act.put, List.setIfInBounds_toArray, List.set_cons_zero, List.set_cons_succ]
            refine wpList_skipD 111 rfl (by kernel_rfl) ?_
            simp only [Act.put, List.setIfInBounds_toArray, List.set_cons_zero, List.set_cons_succ]
            refine wpList_skipD 112 rfl (by kernel_rfl) ?_
            simp only [Act.put, List.setIfInBounds_toArray, List.set_cons_zero, List.set_cons_succ]
            refine wpList_yieldD 113 (v := .bool true) (v' := .bool true) rfl (by kernel_rfl) (run_pick_at _ _ _ _ _ _ _ _ _ _ true (.bool true) undef (by kernel_rfl) (by kernel_rfl) (by kernel_rfl)) rfl ?_
            simp only [Act.put, List.setIfInBounds_toArray, List.set_cons_zero, List.set_cons_succ]
            refine wpList_yieldD 114 (v := .bool true) (v' := .bool true) rfl (by kernel_rfl) (run_move_at _ _ _ _ _ _ _ _ (.bool true) (by kernel_rfl)) rfl ?_
            simp only [Act.put, List.setIfInBounds_toArray, List.set_cons_zero, List.set_cons_succ]
            refine wpList_skipD 115 rfl (by kernel_rfl) ?_
            simp only [Act.put, List.setIfInBounds_toArray, List.set_cons_zero, List.set_cons_succ]
            refine wpList_skipD 116 rfl (by kernel_rfl) ?_
            simp only [Act.put, List.setIfInBounds_toArray, List.set_cons_zero, List.set_cons_succ]
            refine wpList_skipD 117 rfl (by kernel_rfl) ?_
            simp only [Act.put, List.setIfInBounds_toArray, List.set_cons_zero, List.set_cons_succ]
            refine wpList_yieldD 118 (v := .bool true) (v' := .bool true) rfl (by kernel_rfl) (run_pick_at _ _ _ _ _ _ _ _ _ _ true (.bool true) undef (by kernel_rfl) (by kernel_rfl) (by kernel_rfl)) rfl ?_
            simp only [Act.put, List.setIfInBounds_toArray, List.set_cons_zero, List.set_cons_succ]
            refine wpList_yieldD 119 (v := .bool true) (v' := .bool true) rfl (by kernel_rfl) (run_move_at _ _ _ _ _ _ _ _ (.bool true) (by kernel_rfl)) rfl ?_
            simp only [Act.put, List.setIfInBounds_toArray, List.set_cons_zero, List.set_cons_succ]
            refine wpList_skipD 120 rfl (by kernel_rfl) ?_
            simp only [Act.put, List.setIfInBounds_toArray, List.set_cons_zero, List.set_cons_succ]
            refine wpList_skipD 121 rfl (by kernel_rfl) ?_
            simp only [Act.put, List.setIfInBounds_toArray, List.set_cons_zero, List.set_cons_succ]
            refine wpList_skipD 122 rfl (by kernel_rfl) ?_
            simp only [Act.put, List.setIfInBounds_toArray, List.set_cons_zero, List.set_cons_succ]
            refine wpList_yieldD 123 (v := .bool true) (v' := .bool true) rfl (by kernel_rfl) (run_pick_at _ _ _ _ _ _ _ _ _ _ true (.bool true) undef (by kernel_rfl) (by kernel_rfl) (by kernel_rfl)) rfl ?_
            simp only [Act.put, List.setIfInBounds_toArray, List.set_cons_zero, List.set_cons_succ]
            refine wpList_nil ?_
            refine HK6.out _ _ ?_
            clear HK6 HK5 HK3
            go_wp2_with fail
            go_ret
            exact ⟨.inl rfl, HB2.out⟩
          have d27 : decide (5 < xpa) = false := decide_eq_false g7
          refine wpList_yieldD 92 (v := .bool (decide (5 < xpa))) (v' := .bool false) rfl (by kernel_rfl) (run_gtr_at _ _ _ _ _ _ _ _ _ xpa 5 (by kernel_rfl) (by kernel_rfl)) (congrArg Value.bool d27) ?_
          simp only [Act.put, List.setIfInBounds_toArray, List.set_cons_zero, List.set_cons_succ]
          refine wpList_yieldD 93 (v := .bool false) (v' := .bool false) rfl (by kernel_rfl) (run_pick_at _ _ _ _ _ _ _ _ _ _ false (.bool true) (.bool false) (by kernel_rfl) (by kernel_rfl) (by kernel_rfl)) rfl ?_
          simp only [Act.put, List.setIfInBounds_toArray, List.set_cons_zero, List.set_cons_succ]
          refine wpList_yieldD 94 (v := .bool false) (v' := .bool false) rfl (by kernel_rfl) (run_move_at _ _ _ _ _ _ _ _ (.bool false) (by kernel_rfl)) rfl ?_
          simp only [Act.put, List.setIfInBounds_toArray, List.set_cons_zero, List.set_cons_succ]
          refine wpList_yieldD 95 (v := .pointer (some ⟨wr.heap.size, 3, none⟩)) (v' := .pointer (some ⟨wr.heap.size, 3, none⟩)) rfl (by kernel_rfl) (run_fa_at _ 3 _ _ _ _ _ _ _ wr.heap.size (by kernel_rfl) (by decide)) rfl ?_
          simp only [Act.put, List.setIfInBounds_toArray, List.set_cons_zero, List.set_cons_succ]
          refine wpList_yieldD 96 (v := .int .i64 xpb) (v' := .int .i64 xpb) rfl (by kernel_rfl) (run_load_at _ _ _ _ _ _ _ _ wr.heap.size 3 xpb (by kernel_rfl) r3) rfl ?_
          simp only [Act.put, List.setIfInBounds_toArray, List.set_cons_zero, List.set_cons_succ]
          by_cases g8 : xpb < 0
          · have e8 : decide (xpb < 0) = true := decide_eq_true g8
            refine wpList_yieldD 97 (v := .bool (decide (xpb < 0))) (v' := .bool true) rfl (by kernel_rfl) (run_lss_at _ _ _ _ _ _ _ _ _ xpb 0 (by kernel_rfl) (by kernel_rfl)) (congrArg Value.bool e8) ?_
            simp only [Act.put, List.setIfInBounds_toArray, List.set_cons_zero, List.set_cons_succ]
            refine wpList_yieldD 98 (v := .bool true) (v' := .bool true) rfl (by kernel_rfl) (run_pick_at _ _ _ _ _ _ _ _ _ _ false (.bool true) (.bool true) (by kernel_rfl) (by kernel_rfl) (by kernel_rfl)) rfl ?_
            simp only [Act.put, List.setIfInBounds_toArray, List.set_cons_zero, List.set_cons_succ]
            refine wpList_yieldD 99 (v := .bool true) (v' := .bool true) rfl (by kernel_rfl) (run_move_at _ _ _ _ _ _ _ _ (.bool true) (by kernel_rfl)) rfl ?_
            simp only [Act.put, List.setIfInBounds_toArray, List.set_cons_zero, List.set_cons_succ]
            refine wpList_skipD 100 rfl (by kernel_rfl) ?_
            simp only [Act.put, List.setIfInBounds_toArray, List.set_cons_zero, List.set_cons_succ]
            refine wpList_skipD 101 rfl (by kernel_rfl) ?_
            simp only [Act.put, List.setIfInBounds_toArray, List.set_cons_zero, List.set_cons_succ]
            refine wpList_skipD 102 rfl (by kernel_rfl) ?_
            simp only [Act.put, List.setIfInBounds_toArray, List.set_cons_zero, List.set_cons_succ]
            refine wpList_yieldD 103 (v := .bool true) (v' := .bool true) rfl (by kernel_rfl) (run_pick_at _ _ _ _ _ _ _ _ _ _ true (.bool true) undef (by kernel_rfl) (by kernel_rfl) (by kernel_rfl)) rfl ?_
            simp only [Act.put, List.setIfInBounds_toArray, List.set_cons_zero, List.set_cons_succ]
            refine wpList_yieldD 104 (v := .bool true) (v' := .bool true) rfl (by kernel_rfl) (run_move_at _ _ _ _ _ _ _ _ (.bool true) (by kernel_rfl)) rfl ?_
            simp only [Act.put, List.setIfInBounds_toArray, List.set_cons_zero, List.set_cons_succ]
            refine wpList_skipD 105 rfl (by kernel_rfl) ?_
            simp only [Act.put, List.setIfInBounds_toArray, List.set_cons_zero, List.set_cons_succ]
            refine wpList_skipD 106 rfl (by kernel_rfl) ?_
            simp only [Act.put, List.setIfInBounds_toArray, List.set_cons_zero, List.set_cons_succ]
            refine wpList_skipD 107 rfl (by kernel_rfl) ?_
            simp only [Act.put, List.setIfInBounds_toArray, List.set_cons_zero, List.set_cons_succ]
            refine wpList_yieldD 108 (v := .bool true) (v' := .bool true) rfl (by kernel_rfl) (run_pick_at _ _ _ _ _ _ _ _ _ _ true (.bool true) undef (by kernel_rfl) (by kernel_rfl) (by kernel_rfl)) rfl ?_
            simp only [Act.put, List.setIfInBounds_toArray, List.set_cons_zero, List.set_cons_succ]
            refine wpList_yieldD 109 (v := .bool true) (v' := .bool true) rfl (by kernel_rfl) (run_move_at _ _ _ _ _ _ _ _ (.bool true) (by kernel_rfl)) rfl ?_
            simp only [Act.put, List.setIfInBounds_toArray, List.set_cons_zero, List.set_cons_succ]
            refine wpList_skipD 110 rfl (by kernel_rfl) ?_
            simp only [Act.put, List.setIfInBounds_toArray, List.set_cons_zero, List.set_cons_succ]
            refine wpList_skipD 111 rfl (by kernel_rfl) ?_
            simp only [Act.put, List.setIfInBounds_toArray, List.set_cons_zero, List.set_cons_succ]
            refine wpList_skipD 112 rfl (by kernel_rfl) ?_
            simp only [Act.put, List.setIfInBounds_toArray, List.set_cons_zero, List.set_cons_succ]
            refine wpList_yieldD 113 (v := .bool true) (v' := .bool true) rfl (by kernel_rfl) (run_pick_at _ _ _ _ _ _ _ _ _ _ true (.bool true) undef (by kernel_rfl) (by kernel_rfl) (by kernel_rfl)) rfl ?_
            simp only [Act.put, List.setIfInBounds_toArray, List.set_cons_zero, List.set_cons_succ]
            refine wpList_yieldD 114 (v := .bool true) (v' := .bool true) rfl (by kernel_rfl) (run_move_at _ _ _ _ _ _ _ _ (.bool true) (by kernel_rfl)) rfl ?_
            simp only [Act.put, List.setIfInBounds_toArray, List.set_cons_zero, List.set_cons_succ]
            refine wpList_skipD 115 rfl (by kernel_rfl) ?_
            simp only [Act.put, List.setIfInBounds_toArray, List.set_cons_zero, List.set_cons_succ]
            refine wpList_skipD 116 rfl (by kernel_rfl) ?_
            simp only [Act.put, List.setIfInBounds_toArray, List.set_cons_zero, List.set_cons_succ]
            refine wpList_skipD 117 rfl (by kernel_rfl) ?_
            simp only [Act.put, List.setIfInBounds_toArray, List.set_cons_zero, List.set_cons_succ]
            refine wpList_yieldD 118 (v := .bool true) (v' := .bool true) rfl (by kernel_rfl) (run_pick_at _ _ _ _ _ _ _ _ _ _ true (.bool true) undef (by kernel_rfl) (by kernel_rfl) (by kernel_rfl)) rfl ?_
            simp only [Act.put, List.setIfInBounds_toArray, List.set_cons_zero, List.set_cons_succ]
            refine wpList_yieldD 119 (v := .bool true) (v' := .bool true) rfl (by kernel_rfl) (run_move_at _ _ _ _ _ _ _ _ (.bool true) (by kernel_rfl)) rfl ?_
            simp only [Act.put, List.setIfInBounds_toArray, List.set_cons_zero, List.set_cons_succ]
            refine wpList_skipD 120 rfl (by kernel_rfl) ?_
            simp only [Act.put, List.setIfInBounds_toArray, List.set_cons_zero, List.set_cons_succ]
            refine wpList_skipD 121 rfl (by kernel_rfl) ?_
            simp only [Act.put, List.setIfInBounds_toArray, List.set_cons_zero, List.set_cons_succ]
            refine wpList_skipD 122 rfl (by kernel_rfl) ?_
            simp only [Act.put, List.setIfInBounds_toArray, List.set_cons_zero, List.set_cons_succ]
            refine wpList_yieldD 123 (v := .bool true) (v' := .bool true) rfl (by kernel_rfl) (run_pick_at _ _ _ _ _ _ _ _ _ _ true (.bool true) undef (by kernel_rfl) (by kernel_rfl) (by kernel_rfl)) rfl ?_
            simp only [Act.put, List.setIfInBounds_toArray, List.set_cons_zero, List.set_cons_succ]
            refine wpList_nil ?_
            refine HK6.out _ _ ?_
            clear HK6 HK5 HK3
            go_wp2_with fail
            go_ret
            exact ⟨.inl rfl, HB2.out⟩
          have d28 : decide (xpb < 0) = false := decide_eq_false g8
          refine wpList_yieldD 97 (v := .bool (decide (xpb < 0))) (v' := .bool false) rfl (by kernel_rfl) (run_lss_at _ _ _ _ _ _ _ _ _ xpb 0 (by kernel_rfl) (by kernel_rfl)) (congrArg Value.bool d28) ?_
          simp only [Act.put, List.setIfInBounds_toArray, List.set_cons_zero, List.set_cons_succ]
          refine wpList_yieldD 98 (v := .bool false) (v' := .bool false) rfl (by kernel_rfl) (run_pick_at _ _ _ _ _ _ _ _ _ _ false (.bool true) (.bool false) (by kernel_rfl) (by kernel_rfl) (by kernel_rfl)) rfl ?_
          simp only [Act.put, List.setIfInBounds_toArray, List.set_cons_zero, List.set_cons_succ]
          refine wpList_yieldD 99 (v := .bool false) (v' := .bool false) rfl (by kernel_rfl) (run_move_at _ _ _ _ _ _ _ _ (.bool false) (by kernel_rfl)) rfl ?_
          simp only [Act.put, List.setIfInBounds_toArray, List.set_cons_zero, List.set_cons_succ]
          refine wpList_yieldD 100 (v := .pointer (some ⟨wr.heap.size, 3, none⟩)) (v' := .pointer (some ⟨wr.heap.size, 3, none⟩)) rfl (by kernel_rfl) (run_fa_at _ 3 _ _ _ _ _ _ _ wr.heap.size (by kernel_rfl) (by decide)) rfl ?_
          simp only [Act.put, List.setIfInBounds_toArray, List.set_cons_zero, List.set_cons_succ]
          refine wpList_yieldD 101 (v := .int .i64 xpb) (v' := .int .i64 xpb) rfl (by kernel_rfl) (run_load_at _ _ _ _ _ _ _ _ wr.heap.size 3 xpb (by kernel_rfl) r3) rfl ?_
          simp only [Act.put, List.setIfInBounds_toArray, List.set_cons_zero, List.set_cons_succ]
          by_cases g9 : 5 < xpb
          · have e9 : decide (5 < xpb) = true := decide_eq_true g9
            refine wpList_yieldD 102 (v := .bool (decide (5 < xpb))) (v' := .bool true) rfl (by kernel_rfl) (run_gtr_at _ _ _ _ _ _ _ _ _ xpb 5 (by kernel_rfl) (by kernel_rfl)) (congrArg Value.bool e9) ?_
            simp only [Act.put, List.setIfInBounds_toArray, List.set_cons_zero, List.set_cons_succ]
            refine wpList_yieldD 103 (v := .bool true) (v' := .bool true) rfl (by kernel_rfl) (run_pick_at _ _ _ _ _ _ _ _ _ _ false (.bool true) (.bool true) (by kernel_rfl) (by kernel_rfl) (by kernel_rfl)) rfl ?_
            simp only [Act.put, List.setIfInBounds_toArray, List.set_cons_zero, List.set_cons_succ]
            refine wpList_yieldD 104 (v := .bool true) (v' := .bool true) rfl (by kernel_rfl) (run_move_at _ _ _ _ _ _ _ _ (.bool true) (by kernel_rfl)) rfl ?_
            simp only [Act.put, List.setIfInBounds_toArray, List.set_cons_zero, List.set_cons_succ]
            refine wpList_skipD 105 rfl (by kernel_rfl) ?_
            simp only [Act.put, List.setIfInBounds_toArray, List.set_cons_zero, List.set_cons_succ]
            refine wpList_skipD 106 rfl (by kernel_rfl) ?_
            simp only [Act.put, List.setIfInBounds_toArray, List.set_cons_zero, List.set_cons_succ]
            refine wpList_skipD 107 rfl (by kernel_rfl) ?_
            simp only [Act.put, List.setIfInBounds_toArray, List.set_cons_zero, List.set_cons_succ]
            refine wpList_yieldD 108 (v := .bool true) (v' := .bool true) rfl (by kernel_rfl) (run_pick_at _ _ _ _ _ _ _ _ _ _ true (.bool true) undef (by kernel_rfl) (by kernel_rfl) (by kernel_rfl)) rfl ?_
            simp only [Act.put, List.setIfInBounds_toArray, List.set_cons_zero, List.set_cons_succ]
            refine wpList_yieldD 109 (v := .bool true) (v' := .bool true) rfl (by kernel_rfl) (run_move_at _ _ _ _ _ _ _ _ (.bool true) (by kernel_rfl)) rfl ?_
            simp only [Act.put, List.setIfInBounds_toArray, List.set_cons_zero, List.set_cons_succ]
            refine wpList_skipD 110 rfl (by kernel_rfl) ?_
            simp only [Act.put, List.setIfInBounds_toArray, List.set_cons_zero, List.set_cons_succ]
            refine wpList_skipD 111 rfl (by kernel_rfl) ?_
            simp only [Act.put, List.setIfInBounds_toArray, List.set_cons_zero, List.set_cons_succ]
            refine wpList_skipD 112 rfl (by kernel_rfl) ?_
            simp only [Act.put, List.setIfInBounds_toArray, List.set_cons_zero, List.set_cons_succ]
            refine wpList_yieldD 113 (v := .bool true) (v' := .bool true) rfl (by kernel_rfl) (run_pick_at _ _ _ _ _ _ _ _ _ _ true (.bool true) undef (by kernel_rfl) (by kernel_rfl) (by kernel_rfl)) rfl ?_
            simp only [Act.put, List.setIfInBounds_toArray, List.set_cons_zero, List.set_cons_succ]
            refine wpList_yieldD 114 (v := .bool true) (v' := .bool true) rfl (by kernel_rfl) (run_move_at _ _ _ _ _ _ _ _ (.bool true) (by kernel_rfl)) rfl ?_
            simp only [Act.put, List.setIfInBounds_toArray, List.set_cons_zero, List.set_cons_succ]
            refine wpList_skipD 115 rfl (by kernel_rfl) ?_
            simp only [Act.put, List.setIfInBounds_toArray, List.set_cons_zero, List.set_cons_succ]
            refine wpList_skipD 116 rfl (by kernel_rfl) ?_
            simp only [Act.put, List.setIfInBounds_toArray, List.set_cons_zero, List.set_cons_succ]
            refine wpList_skipD 117 rfl (by kernel_rfl) ?_
            simp only [Act.put, List.setIfInBounds_toArray, List.set_cons_zero, List.set_cons_succ]
            refine wpList_yieldD 118 (v := .bool true) (v' := .bool true) rfl (by kernel_rfl) (run_pick_at _ _ _ _ _ _ _ _ _ _ true (.bool true) undef (by kernel_rfl) (by kernel_rfl) (by kernel_rfl)) rfl ?_
            simp only [Act.put, List.setIfInBounds_toArray, List.set_cons_zero, List.set_cons_succ]
            refine wpList_yieldD 119 (v := .bool true) (v' := .bool true) rfl (by kernel_rfl) (run_move_at _ _ _ _ _ _ _ _ (.bool true) (by kernel_rfl)) rfl ?_
            simp only [Act.put, List.setIfInBounds_toArray, List.set_cons_zero, List.set_cons_succ]
            refine wpList_skipD 120 rfl (by kernel_rfl) ?_
            simp only [Act.put, List.setIfInBounds_toArray, List.set_cons_zero, List.set_cons_succ]
            refine wpList_skipD 121 rfl (by kernel_rfl) ?_
            simp only [Act.put, List.setIfInBounds_toArray, List.set_cons_zero, List.set_cons_succ]
            refine wpList_skipD 122 rfl (by kernel_rfl) ?_
            simp only [Act.put, List.setIfInBounds_toArray, List.set_cons_zero, List.set_cons_succ]
            refine wpList_yieldD 123 (v := .bool true) (v' := .bool true) rfl (by kernel_rfl) (run_pick_at _ _ _ _ _ _ _ _ _ _ true (.bool true) undef (by kernel_rfl) (by kernel_rfl) (by kernel_rfl)) rfl ?_
            simp only [Act.put, List.setIfInBounds_toArray, List.set_cons_zero, List.set_cons_succ]
            refine wpList_nil ?_
            refine HK6.out _ _ ?_
            clear HK6 HK5 HK3
            go_wp2_with fail
            go_ret
            exact ⟨.inl rfl, HB2.out⟩
          have d29 : decide (5 < xpb) = false := decide_eq_false g9
          refine wpList_yieldD 102 (v := .bool (decide (5 < xpb))) (v' := .bool false) rfl (by kernel_rfl) (run_gtr_at _ _ _ _ _ _ _ _ _ xpb 5 (by kernel_rfl) (by kernel_rfl)) (congrArg Value.bool d29) ?_
          simp only [Act.put, List.setIfInBounds_toArray, List.set_cons_zero, List.set_cons_succ]
          refine wpList_yieldD 103 (v := .bool false) (v' := .bool false) rfl (by kernel_rfl) (run_pick_at _ _ _ _ _ _ _ _ _ _ false (.bool true) (.bool false) (by kernel_rfl) (by kernel_rfl) (by kernel_rfl)) rfl ?_
          simp only [Act.put, List.setIfInBounds_toArray, List.set_cons_zero, List.set_cons_succ]
          refine wpList_yieldD 104 (v := .bool false) (v' := .bool false) rfl (by kernel_rfl) (run_move_at _ _ _ _ _ _ _ _ (.bool false) (by kernel_rfl)) rfl ?_
          simp only [Act.put, List.setIfInBounds_toArray, List.set_cons_zero, List.set_cons_succ]
          refine wpList_yieldD 105 (v := .pointer (some ⟨wr.heap.size, 4, none⟩)) (v' := .pointer (some ⟨wr.heap.size, 4, none⟩)) rfl (by kernel_rfl) (run_fa_at _ 4 _ _ _ _ _ _ _ wr.heap.size (by kernel_rfl) (by decide)) rfl ?_
          simp only [Act.put, List.setIfInBounds_toArray, List.set_cons_zero, List.set_cons_succ]
          refine wpList_yieldD 106 (v := .int .i64 xca) (v' := .int .i64 xca) rfl (by kernel_rfl) (run_load_at _ _ _ _ _ _ _ _ wr.heap.size 4 xca (by kernel_rfl) r4) rfl ?_
          simp only [Act.put, List.setIfInBounds_toArray, List.set_cons_zero, List.set_cons_succ]
          by_cases g10 : xca < 1
          · have e10 : decide (xca < 1) = true := decide_eq_true g10
            refine wpList_yieldD 107 (v := .bool (decide (xca < 1))) (v' := .bool true) rfl (by kernel_rfl) (run_lss_at _ _ _ _ _ _ _ _ _ xca 1 (by kernel_rfl) (by kernel_rfl)) (congrArg Value.bool e10) ?_
            simp only [Act.put, List.setIfInBounds_toArray, List.set_cons_zero, List.set_cons_succ]
            refine wpList_yieldD 108 (v := .bool true) (v' := .bool true) rfl (by kernel_rfl) (run_pick_at _ _ _ _ _ _ _ _ _ _ false (.bool true) (.bool true) (by kernel_rfl) (by kernel_rfl) (by kernel_rfl)) rfl ?_
            simp only [Act.put, List.setIfInBounds_toArray, List.set_cons_zero, List.set_cons_succ]
            refine wpList_yieldD 109 (v := .bool true) (v' := .bool true) rfl (by kernel_rfl) (run_move_at _ _ _ _ _ _ _ _ (.bool true) (by kernel_rfl)) rfl ?_
            simp only [Act.put, List.setIfInBounds_toArray, List.set_cons_zero, List.set_cons_succ]
            refine wpList_skipD 110 rfl (by kernel_rfl) ?_
            simp only [Act.put, List.setIfInBounds_toArray, List.set_cons_zero, List.set_cons_succ]
            refine wpList_skipD 111 rfl (by kernel_rfl) ?_
            simp only [Act.put, List.setIfInBounds_toArray, List.set_cons_zero, List.set_cons_succ]
            refine wpList_skipD 112 rfl (by kernel_rfl) ?_
            simp only [Act.put, List.setIfInBounds_toArray, List.set_cons_zero, List.set_cons_succ]
            refine wpList_yieldD 113 (v := .bool true) (v' := .bool true) rfl (by kernel_rfl) (run_pick_at _ _ _ _ _ _ _ _ _ _ true (.bool true) undef (by kernel_rfl) (by kernel_rfl) (by kernel_rfl)) rfl ?_
            simp only [Act.put, List.setIfInBounds_toArray, List.set_cons_zero, List.set_cons_succ]
            refine wpList_yieldD 114 (v := .bool true) (v' := .bool true) rfl (by kernel_rfl) (run_move_at _ _ _ _ _ _ _ _ (.bool true) (by kernel_rfl)) rfl ?_
            simp only [Act.put, List.setIfInBounds_toArray, List.set_cons_zero, List.set_cons_succ]
            refine wpList_skipD 115 rfl (by kernel_rfl) ?_
            simp only [Act.put, List.setIfInBounds_toArray, List.set_cons_zero, List.set_cons_succ]
            refine wpList_skipD 116 rfl (by kernel_rfl) ?_
            simp only [Act.put, List.setIfInBounds_toArray, List.set_cons_zero, List.set_cons_succ]
            refine wpList_skipD 117 rfl (by kernel_rfl) ?_
            simp only [Act.put, List.setIfInBounds_toArray, List.set_cons_zero, List.set_cons_succ]
            refine wpList_yieldD 118 (v := .bool true) (v' := .bool true) rfl (by kernel_rfl) (run_pick_at _ _ _ _ _ _ _ _ _ _ true (.bool true) undef (by kernel_rfl) (by kernel_rfl) (by kernel_rfl)) rfl ?_
            simp only [Act.put, List.setIfInBounds_toArray, List.set_cons_zero, List.set_cons_succ]
            refine wpList_yieldD 119 (v := .bool true) (v' := .bool true) rfl (by kernel_rfl) (run_move_at _ _ _ _ _ _ _ _ (.bool true) (by kernel_rfl)) rfl ?_
            simp only [Act.put, List.setIfInBounds_toArray, List.set_cons_zero, List.set_cons_succ]
            refine wpList_skipD 120 rfl (by kernel_rfl) ?_
            simp only [Act.put, List.setIfInBounds_toArray, List.set_cons_zero, List.set_cons_succ]
            refine wpList_skipD 121 rfl (by kernel_rfl) ?_
            simp only [Act.put, List.setIfInBounds_toArray, List.set_cons_zero, List.set_cons_succ]
            refine wpList_skipD 122 rfl (by kernel_rfl) ?_
            simp only [Act.put, List.setIfInBounds_toArray, List.set_cons_zero, List.set_cons_succ]
            refine wpList_yieldD 123 (v := .bool true) (v' := .bool true) rfl (by kernel_rfl) (run_pick_at _ _ _ _ _ _ _ _ _ _ true (.bool true) undef (by kernel_rfl) (by kernel_rfl) (by kernel_rfl)) rfl ?_
            simp only [Act.put, List.setIfInBounds_toArray, List.set_cons_zero, List.set_cons_succ]
            refine wpList_nil ?_
            refine HK6.out _ _ ?_
            clear HK6 HK5 HK3
            go_wp2_with fail
            go_ret
            exact ⟨.inl rfl, HB2.out⟩
          have d30 : decide (xca < 1) = false := decide_eq_false g10
          refine wpList_yieldD 107 (v := .bool (decide (xca < 1))) (v' := .bool false) rfl (by kernel_rfl) (run_lss_at _ _ _ _ _ _ _ _ _ xca 1 (by kernel_rfl) (by kernel_rfl)) (congrArg Value.bool d30) ?_
          simp only [Act.put, List.setIfInBounds_toArray, List.set_cons_zero, List.set_cons_succ]
          refine wpList_yieldD 108 (v := .bool false) (v' := .bool false) rfl (by kernel_rfl) (run_pick_at _ _ _ _ _ _ _ _ _ _ false (.bool true) (.bool false) (by kernel_rfl) (by kernel_rfl) (by kernel_rfl)) rfl ?_
          simp only [Act.put, List.setIfInBounds_toArray, List.set_cons_zero, List.set_cons_succ]
          refine wpList_yieldD 109 (v := .bool false) (v' := .bool false) rfl (by kernel_rfl) (run_move_at _ _ _ _ _ _ _ _ (.bool false) (by kernel_rfl)) rfl ?_
          simp only [Act.put, List.setIfInBounds_toArray, List.set_cons_zero, List.set_cons_succ]
          refine wpList_yieldD 110 (v := .pointer (some ⟨wr.heap.size, 4, none⟩)) (v' := .pointer (some ⟨wr.heap.size, 4, none⟩)) rfl (by kernel_rfl) (run_fa_at _ 4 _ _ _ _ _ _ _ wr.heap.size (by kernel_rfl) (by decide)) rfl ?_
          simp only [Act.put, List.setIfInBounds_toArray, List.set_cons_zero, List.set_cons_succ]
          refine wpList_yieldD 111 (v := .int .i64 xca) (v' := .int .i64 xca) rfl (by kernel_rfl) (run_load_at _ _ _ _ _ _ _ _ wr.heap.size 4 xca (by kernel_rfl) r4) rfl ?_
          simp only [Act.put, List.setIfInBounds_toArray, List.set_cons_zero, List.set_cons_succ]
          by_cases g11 : 1048576 < xca
          · have e11 : decide (1048576 < xca) = true := decide_eq_true g11
            refine wpList_yieldD 112 (v := .bool (decide (1048576 < xca))) (v' := .bool true) rfl (by kernel_rfl) (run_gtr_at _ _ _ _ _ _ _ _ _ xca 1048576 (by kernel_rfl) (by kernel_rfl)) (congrArg Value.bool e11) ?_
            simp only [Act.put, List.setIfInBounds_toArray, List.set_cons_zero, List.set_cons_succ]
            refine wpList_yieldD 113 (v := .bool true) (v' := .bool true) rfl (by kernel_rfl) (run_pick_at _ _ _ _ _ _ _ _ _ _ false (.bool true) (.bool true) (by kernel_rfl) (by kernel_rfl) (by kernel_rfl)) rfl ?_
            simp only [Act.put, List.setIfInBounds_toArray, List.set_cons_zero, List.set_cons_succ]
            refine wpList_yieldD 114 (v := .bool true) (v' := .bool true) rfl (by kernel_rfl) (run_move_at _ _ _ _ _ _ _ _ (.bool true) (by kernel_rfl)) rfl ?_
            simp only [Act.put, List.setIfInBounds_toArray, List.set_cons_zero, List.set_cons_succ]
            refine wpList_skipD 115 rfl (by kernel_rfl) ?_
            simp only [Act.put, List.setIfInBounds_toArray, List.set_cons_zero, List.set_cons_succ]
            refine wpList_skipD 116 rfl (by kernel_rfl) ?_
            simp only [Act.put, List.setIfInBounds_toArray, List.set_cons_zero, List.set_cons_succ]
            refine wpList_skipD 117 rfl (by kernel_rfl) ?_
            simp only [Act.put, List.setIfInBounds_toArray, List.set_cons_zero, List.set_cons_succ]
            refine wpList_yieldD 118 (v := .bool true) (v' := .bool true) rfl (by kernel_rfl) (run_pick_at _ _ _ _ _ _ _ _ _ _ true (.bool true) undef (by kernel_rfl) (by kernel_rfl) (by kernel_rfl)) rfl ?_
            simp only [Act.put, List.setIfInBounds_toArray, List.set_cons_zero, List.set_cons_succ]
            refine wpList_yieldD 119 (v := .bool true) (v' := .bool true) rfl (by kernel_rfl) (run_move_at _ _ _ _ _ _ _ _ (.bool true) (by kernel_rfl)) rfl ?_
            simp only [Act.put, List.setIfInBounds_toArray, List.set_cons_zero, List.set_cons_succ]
            refine wpList_skipD 120 rfl (by kernel_rfl) ?_
            simp only [Act.put, List.setIfInBounds_toArray, List.set_cons_zero, List.set_cons_succ]
            refine wpList_skipD 121 rfl (by kernel_rfl) ?_
            simp only [Act.put, List.setIfInBounds_toArray, List.set_cons_zero, List.set_cons_succ]
            refine wpList_skipD 122 rfl (by kernel_rfl) ?_
            simp only [Act.put, List.setIfInBounds_toArray, List.set_cons_zero, List.set_cons_succ]
            refine wpList_yieldD 123 (v := .bool true) (v' := .bool true) rfl (by kernel_rfl) (run_pick_at _ _ _ _ _ _ _ _ _ _ true (.bool true) undef (by kernel_rfl) (by kernel_rfl) (by kernel_rfl)) rfl ?_
            simp only [Act.put, List.setIfInBounds_toArray, List.set_cons_zero, List.set_cons_succ]
            refine wpList_nil ?_
            refine HK6.out _ _ ?_
            clear HK6 HK5 HK3
            go_wp2_with fail
            go_ret
            exact ⟨.inl rfl, HB2.out⟩
          have d31 : decide (1048576 < xca) = false := decide_eq_false g11
          refine wpList_yieldD 112 (v := .bool (decide (1048576 < xca))) (v' := .bool false) rfl (by kernel_rfl) (run_gtr_at _ _ _ _ _ _ _ _ _ xca 1048576 (by kernel_rfl) (by kernel_rfl)) (congrArg Value.bool d31) ?_
          simp only [Act.put, List.setIfInBounds_toArray, List.set_cons_zero, List.set_cons_succ]
          refine wpList_yieldD 113 (v := .bool false) (v' := .bool false) rfl (by kernel_rfl) (run_pick_at _ _ _ _ _ _ _ _ _ _ false (.bool true) (.bool false) (by kernel_rfl) (by kernel_rfl) (by kernel_rfl)) rfl ?_
          simp only [Act.put, List.setIfInBounds_toArray, List.set_cons_zero, List.set_cons_succ]
          refine wpList_yieldD 114 (v := .bool false) (v' := .bool false) rfl (by kernel_rfl) (run_move_at _ _ _ _ _ _ _ _ (.bool false) (by kernel_rfl)) rfl ?_
          simp only [Act.put, List.setIfInBounds_toArray, List.set_cons_zero, List.set_cons_succ]
          refine wpList_yieldD 115 (v := .pointer (some ⟨wr.heap.size, 5, none⟩)) (v' := .pointer (some ⟨wr.heap.size, 5, none⟩)) rfl (by kernel_rfl) (run_fa_at _ 5 _ _ _ _ _ _ _ wr.heap.size (by kernel_rfl) (by decide)) rfl ?_
          simp only [Act.put, List.setIfInBounds_toArray, List.set_cons_zero, List.set_cons_succ]
          refine wpList_yieldD 116 (v := .int .i64 xcb) (v' := .int .i64 xcb) rfl (by kernel_rfl) (run_load_at _ _ _ _ _ _ _ _ wr.heap.size 5 xcb (by kernel_rfl) r5) rfl ?_
          simp only [Act.put, List.setIfInBounds_toArray, List.set_cons_zero, List.set_cons_succ]
          by_cases g12 : xcb < 1
          · have e12 : decide (xcb < 1) = true := decide_eq_true g12
            refine wpList_yieldD 117 (v := .bool (decide (xcb < 1))) (v' := .bool true) rfl (by kernel_rfl) (run_lss_at _ _ _ _ _ _ _ _ _ xcb 1 (by kernel_rfl) (by kernel_rfl)) (congrArg Value.bool e12) ?_
            simp only [Act.put, List.setIfInBounds_toArray, List.set_cons_zero, List.set_cons_succ]
            refine wpList_yieldD 118 (v := .bool true) (v' := .bool true) rfl (by kernel_rfl) (run_pick_at _ _ _ _ _ _ _ _ _ _ false (.bool true) (.bool true) (by kernel_rfl) (by kernel_rfl) (by kernel_rfl)) rfl ?_
            simp only [Act.put, List.setIfInBounds_toArray, List.set_cons_zero, List.set_cons_succ]
            refine wpList_yieldD 119 (v := .bool true) (v' := .bool true) rfl (by kernel_rfl) (run_move_at _ _ _ _ _ _ _ _ (.bool true) (by kernel_rfl)) rfl ?_
            simp only [Act.put, List.setIfInBounds_toArray, List.set_cons_zero, List.set_cons_succ]
            refine wpList_skipD 120 rfl (by kernel_rfl) ?_
            simp only [Act.put, List.setIfInBounds_toArray, List.set_cons_zero, List.set_cons_succ]
            refine wpList_skipD 121 rfl (by kernel_rfl) ?_
            simp only [Act.put, List.setIfInBounds_toArray, List.set_cons_zero, List.set_cons_succ]
            refine wpList_skipD 122 rfl (by kernel_rfl) ?_
            simp only [Act.put, List.setIfInBounds_toArray, List.set_cons_zero, List.set_cons_succ]
            refine wpList_yieldD 123 (v := .bool true) (v' := .bool true) rfl (by kernel_rfl) (run_pick_at _ _ _ _ _ _ _ _ _ _ true (.bool true) undef (by kernel_rfl) (by kernel_rfl) (by kernel_rfl)) rfl ?_
            simp only [Act.put, List.setIfInBounds_toArray, List.set_cons_zero, List.set_cons_succ]
            refine wpList_nil ?_
            refine HK6.out _ _ ?_
            clear HK6 HK5 HK3
            go_wp2_with fail
            go_ret
            exact ⟨.inl rfl, HB2.out⟩
          have d32 : decide (xcb < 1) = false := decide_eq_false g12
          refine wpList_yieldD 117 (v := .bool (decide (xcb < 1))) (v' := .bool false) rfl (by kernel_rfl) (run_lss_at _ _ _ _ _ _ _ _ _ xcb 1 (by kernel_rfl) (by kernel_rfl)) (congrArg Value.bool d32) ?_
          simp only [Act.put, List.setIfInBounds_toArray, List.set_cons_zero, List.set_cons_succ]
          refine wpList_yieldD 118 (v := .bool false) (v' := .bool false) rfl (by kernel_rfl) (run_pick_at _ _ _ _ _ _ _ _ _ _ false (.bool true) (.bool false) (by kernel_rfl) (by kernel_rfl) (by kernel_rfl)) rfl ?_
          simp only [Act.put, List.setIfInBounds_toArray, List.set_cons_zero, List.set_cons_succ]
          refine wpList_yieldD 119 (v := .bool false) (v' := .bool false) rfl (by kernel_rfl) (run_move_at _ _ _ _ _ _ _ _ (.bool false) (by kernel_rfl)) rfl ?_
          simp only [Act.put, List.setIfInBounds_toArray, List.set_cons_zero, List.set_cons_succ]
          refine wpList_yieldD 120 (v := .pointer (some ⟨wr.heap.size, 5, none⟩)) (v' := .pointer (some ⟨wr.heap.size, 5, none⟩)) rfl (by kernel_rfl) (run_fa_at _ 5 _ _ _ _ _ _ _ wr.heap.size (by kernel_rfl) (by decide)) rfl ?_
          simp only [Act.put, List.setIfInBounds_toArray, List.set_cons_zero, List.set_cons_succ]
          refine wpList_yieldD 121 (v := .int .i64 xcb) (v' := .int .i64 xcb) rfl (by kernel_rfl) (run_load_at _ _ _ _ _ _ _ _ wr.heap.size 5 xcb (by kernel_rfl) r5) rfl ?_
          simp only [Act.put, List.setIfInBounds_toArray, List.set_cons_zero, List.set_cons_succ]
          by_cases g13 : 1048576 < xcb
          · have e13 : decide (1048576 < xcb) = true := decide_eq_true g13
            refine wpList_yieldD 122 (v := .bool (decide (1048576 < xcb))) (v' := .bool true) rfl (by kernel_rfl) (run_gtr_at _ _ _ _ _ _ _ _ _ xcb 1048576 (by kernel_rfl) (by kernel_rfl)) (congrArg Value.bool e13) ?_
            simp only [Act.put, List.setIfInBounds_toArray, List.set_cons_zero, List.set_cons_succ]
            refine wpList_yieldD 123 (v := .bool true) (v' := .bool true) rfl (by kernel_rfl) (run_pick_at _ _ _ _ _ _ _ _ _ _ false (.bool true) (.bool true) (by kernel_rfl) (by kernel_rfl) (by kernel_rfl)) rfl ?_
            simp only [Act.put, List.setIfInBounds_toArray, List.set_cons_zero, List.set_cons_succ]
            refine wpList_nil ?_
            refine HK6.out _ _ ?_
            clear HK6 HK5 HK3
            go_wp2_with fail
            go_ret
            exact ⟨.inl rfl, HB2.out⟩
          have d33 : decide (1048576 < xcb) = false := decide_eq_false g13
          refine wpList_yieldD 122 (v := .bool (decide (1048576 < xcb))) (v' := .bool false) rfl (by kernel_rfl) (run_gtr_at _ _ _ _ _ _ _ _ _ xcb 1048576 (by kernel_rfl) (by kernel_rfl)) (congrArg Value.bool d33) ?_
          simp only [Act.put, List.setIfInBounds_toArray, List.set_cons_zero, List.set_cons_succ]
          refine wpList_yieldD 123 (v := .bool false) (v' := .bool false) rfl (by kernel_rfl) (run_pick_at _ _ _ _ _ _ _ _ _ _ false (.bool true) (.bool false) (by kernel_rfl) (by kernel_rfl) (by kernel_rfl)) rfl ?_
          simp only [Act.put, List.setIfInBounds_toArray, List.set_cons_zero, List.set_cons_succ]
          refine wpList_nil ?_
          refine HK6.out _ _ ?_
          clear HK6 K6
          have ok : OkLi n ⟨xa, xpa, xb, xpb, xca, xcb⟩ := ⟨show 0 ≤ xa ∧ xa < (n : Int) by omega, show 0 ≤ xb ∧ xb < (n : Int) by omega, g5, show 0 ≤ xpa ∧ xpa ≤ 5 by omega, show 0 ≤ xpb ∧ xpb ≤ 5 by omega, show 1 ≤ xca ∧ xca ≤ 1048576 by omega, show 1 ≤ xcb ∧ xcb ≤ 1048576 by omega⟩
          obtain ⟨a, rfl⟩ : ∃ a : Nat, xa = a := ⟨xa.toNat, by omega⟩
          obtain ⟨b, rfl⟩ : ∃ b : Nat, xb = b := ⟨xb.toNat, by omega⟩
          obtain ⟨pa, rfl⟩ : ∃ a : Nat, xpa = a := ⟨xpa.toNat, by omega⟩
          obtain ⟨pb, rfl⟩ : ∃ b : Nat, xpb = b := ⟨xpb.toNat, by omega⟩
          have ha8 : a < 8 := by have := HS.out.2.1; omega
          have hb8 : b < 8 := by have := HS.out.2.1; omega
          have hpa6 : pa < 6 := by omega
          have hpb6 : pb < 6 := by omega
          have a1 : (a : Int) < 8 := by omega
          have b1 : (b : Int) < 8 := by omega
          have pa1 : (pa : Int) < 6 := by omega
          have pb1 : (pb : Int) < 6 := by omega
          have a0 : (0 : Int) ≤ a := by omega
          have b0 : (0 : Int) ≤ b := by omega
          have pa0 : (0 : Int) ≤ pa := by omega
          have pb0 : (0 : Int) ≤ pb := by omega
          have qa := bo_cell HX.out.2.2.2.1 (b := a * 6 + pa) (by rw [HX.out.2.1.len]; omega)
          have qb := bo_cell HX.out.2.2.2.1 (b := b * 6 + pb) (by rw [HX.out.2.1.len]; omega)
          obtain ⟨ua, hua⟩ : ∃ ua, S.getD (a * 6 + pa) false = ua := ⟨_, rfl⟩
          obtain ⟨ub, hub⟩ : ∃ ub, S.getD (b * 6 + pb) false = ub := ⟨_, rfl⟩
          rw [hua] at qa
          rw [hub] at qb
          have HAB := Lib.hid (And.intro ok (And.intro hua hub))
          clear ok hua hub g1 g2 g3 g4 g5 g6 g7 g8 g9 g10 g11 g12 g13
          go_wp2_with fail
          refine HK5.out _ _ ?_
          clear HK5 K5
          cases ua with
          | true =>
            go_wp2_with fail
            go_big_region
            go_wp2_with fail
            go_ret
            exact ⟨.inl rfl, HB2.out.drew⟩
          | false =>
            cases ub with
            | true =>
              go_wp2_with fail
              go_big_region
              go_wp2_with fail
              go_ret
              exact ⟨.inl rfl, HB2.out.drew⟩
            | false =>
              have hne : wr.heap.size ≠ U := Nat.ne_of_gt HUL.out
              have hne2 : U ≠ wr.heap.size := Nat.ne_of_lt HUL.out
              have fa := Blk.frozen HX.out.2.2.2.1 (a * 6 + pa)
              have fb := Blk.frozen HX.out.2.2.2.1 (b * 6 + pb)
              go_wp2_with fail
              go_big_region
              go_wp2_with fail
              go_big_region
              have kb := ((Blk.far (a := ⟨U, a * 6 + pa, none⟩) HX.out.2.2.1 hne (.bool true)).drew).drew
              have kB := ((bo_mark HX.out.2.2.2.1 (a * 6 + pa)).drew).drew
              have bV := ((HB2.out.setCell (p := ⟨U, a * 6 + pa, none⟩) HU.out.2.2 (.bool true)).drew).drew
              obtain ⟨V, hV⟩ : ∃ V, (((wr.alloc (.cells #[.int .i64 a, .int .i64 pa, .int .i64 b, .int .i64 pb, .int .i64 xca, .int .i64 xcb] 99)).setCell ⟨U, a * 6 + pa, none⟩ (.bool true)).drew).drew = V := ⟨_, rfl⟩
              rw [hV] at kb kB bV
              have s2 : V.cell? ⟨wr.heap.size, 2, none⟩ = some (.int .i64 b) := kb.cell 2
              have s3 : V.cell? ⟨wr.heap.size, 3, none⟩ = some (.int .i64 pb) := kb.cell 3
              have sb := bo_cell kB (b := b * 6 + pb) (by rw [List.length_set, HX.out.2.1.len]; omega)
              have fb2 := Blk.frozen kB (b * 6 + pb)
              obtain ⟨vb, hvb⟩ : ∃ vb, (S.set (a * 6 + pa) true).getD (b * 6 + pb) false = vb := ⟨_, rfl⟩
              rw [hvb] at sb
              have HEND := Lib.hid (show FitQ n l (q + 1) ((S.set (a * 6 + pa) true).set (b * 6 + pb) true) ∧ Blk ((V.setCell ⟨U, b * 6 + pb, none⟩ (.bool true)).drew) U 97 (boU ((S.set (a * 6 + pa) true).set (b * 6 + pb) true)) ∧ Below w.heap.size w (V.setCell ⟨U, b * 6 + pb, none⟩ (.bool true)).drew from
                ⟨HX.out.2.1.next HS.out.2.1 HX.out.2.2.2.2 HX.out.1 HAB.out.1 HAB.out.2.1 HAB.out.2.2, (bo_mark kB (b * 6 + pb)).drew, (bV.setCell (p := ⟨U, b * 6 + pb, none⟩) HU.out.2.2 (.bool true)).drew⟩)
              clear kb kB bV hvb r0 r1 r2 r3 r4 r5 qa qb fa fb
              go_wp2_with fail
              rw [hV]
              clear hV
              go_big_region
              go_wp2_with fail
              refine HK3.out _ _ ?_
              clear HK3 K3
              go_wp2_with fail
              go_roundw
              case rel =>
                try rw [HJQ.out]
                exact ⟨q + 1, hlq, by rw [Int.natCast_add]; rfl, Lib.hid ⟨_, HEND.out.1, HEND.out.2.1, HEND.out.2.2⟩⟩
              case measure =>
                try rw [HJQ.out]
                show k - ((q : Int) + 1).toNat < k - ((q : Int)).toNat
                omega
        · obtain rfl : k = q := by omega
          obtain ⟨S, hF, _, hbw⟩ := hQ.out
          have hk := H.out.2.2.2.2.2.2
          rw [← hk] at hF
          obtain ⟨hbig, hpos⟩ := hF.done HS.out.2.1 HNM.out
          have HR := Lib.hid (And.intro hbig (And.intro HS.out.1 (And.intro (hk ▸ HS.out.2.2 : l.length ≤ 16) (And.intro hpos hbw))))
          clear hbig hpos hF hbw hk
          go_wp2_with fail
          go_ret
          exact ⟨.inr ⟨rfl, HR.out.1, HR.out.2.1, HS.out.2.2, HR.out.2.2.2.1⟩, HR.out.2.2.2.2⟩
end Go.Proofs.Ytadejdhdkkfliaa
