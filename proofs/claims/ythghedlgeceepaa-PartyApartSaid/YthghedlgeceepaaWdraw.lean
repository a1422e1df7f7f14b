/- Draws: a list of numbers, and the place of the next one. Its condition: at most 2^20 numbers. -/
import Derived.Test.YthghedlgeceepaaLayI
import Derived.Test.YthghedlgeceepaaOwn
namespace Go.Proofs.Ythghedlgeceepaa
open Go.RowKit
set_option maxRecDepth 100000

/-- Numbers as they lie. -/
def numL (l : List Int) : List Value := l.map (.int .i64)
/-- A row of numbers of the program's own. -/
def OwnN (w : World) (base : Nat) (A : Option Addr) (c : Nat) (l : List Int) : Prop := w.ownsRow base 3 1 (.slice A l.length c) l.length (numL l)
/-- Draws in block g, of the program's own: the numbers l, the next one is the k-th. -/
structure DrawAt (w : World) (g : Nat) (l : List Int) (k : Nat) : Prop where
  row : ∃ A c, Blk w g 89 #[.slice A l.length c, .int .i64 k] ∧ OwnN w 0 A c l
  at_ : k < l.length ∨ l = [] ∧ k = 0
  few : l.length ≤ 1048576
theorem own_zero {w : World} {base : Nat} {e : TypeId} {size n : Nat} {v : Value} {xs : List Value} (h : w.ownsRow base e size v n xs) : w.ownsRow 0 e size v n xs := by
  refine ⟨h.1, ?_⟩
  rcases h.2 with h | ⟨g, cap, cur, hv, _, r⟩
  · exact .inl h
  · exact .inr ⟨g, cap, cur, hv, Nat.zero_le _, r⟩
theorem numL_one (l : List Int) : ∀ u ∈ numL l, u.oneCell' = true := by
  intro u hu
  obtain ⟨x, _, rfl⟩ := List.mem_map.1 hu
  rfl
theorem int_info' : (Try.prog.info? 3).map (fun i => (i.zero, i.size, i.bytes)) = some (some (.int .i64 0), 1, 8) := by kernel_rfl
/-- The library's Clone, of numbers that lie anywhere. -/
theorem clone_nums (b off c : Nat) (l : List Int) (w : World) (h : ∀ j, j < l.length → w.cell? ⟨b, off + j, none⟩ = some (.int .i64 (l.getD j 0))) (hn : l.length ≤ 1048576) :
    Calls Try.prog 47 #[.slice (some ⟨b, off, none⟩) l.length c] w fun e w' => ∃ A' c', e = .returned (.slice A' l.length c') ∧ OwnN w' w.heap.size A' c' l ∧ Below w.heap.size w w' := by
  obtain ⟨i0, hi0, hz0, hz1, hz2⟩ := info_parts int_info'
  have hcon := AnyE.slices_Clone (P := Try.prog) layCloneI i0 _ 1 8 hi0 hz0 hz1 hz2 rfl (by decide) Try.sizeOf3 b off l.length c (numL l) w (by simp [numL]) (by unfold maxLen; omega) (by omega)
    (fun j u hu => by
      unfold numL at hu
      rw [List.getElem?_map] at hu
      obtain ⟨x, hx, rfl⟩ := Option.map_eq_some_iff.1 hu
      have hj := (List.getElem?_eq_some_iff.1 hx).1
      rw [h j hj, List.getD_eq_getElem?_getD, hx]; rfl) (numL_one l)
  refine (show Calls Try.prog 47 #[.slice (some ⟨b, off, none⟩) l.length c] w _ from hcon).mono fun e w' hh => ?_
  obtain ⟨v', rfl, ho, _, hbel⟩ := hh
  obtain ⟨a, c', rfl⟩ := own_slice ho
  exact ⟨a, c', rfl, ho, hbel⟩
theorem clone_none (c : Nat) (w : World) :
    Calls Try.prog 47 #[.slice none 0 c] w fun e w' => e = .returned (.slice none 0 0) ∧ w' = w :=
  AnyE.slices_Clone_nil (P := Try.prog) layCloneI 0 c w
set_option maxHeartbeats 4000000 in
/-- The same of no numbers, wherever the slice points. -/
theorem clone_zero (A : Option Addr) (c : Nat) (w : World) :
    Calls Try.prog 47 #[.slice A 0 c] w fun e w' => ∃ A' c', e = .returned (.slice A' 0 c') ∧ OwnN w' w.heap.size A' c' [] ∧ Below w.heap.size w w' := by
  cases A with
  | none => exact (clone_none c w).mono fun _ _ ⟨he, hw⟩ => ⟨none, 0, he, by rw [hw]; exact World.ownsRow_nil _ _ _ _, by rw [hw]; exact Below.refl _ _⟩
  | some a =>
    have q22 := Lib.run_eql_slice_nil (P := Try.prog) w 22 3 (some a) 0 c 0 0 Try.underlying22
    have ho : (w.alloc (.cells #[] 3)).ownsRow w.heap.size 3 1 (.slice (some ⟨w.heap.size, 0, none⟩) 0 0) 0 [] :=
      ⟨rfl, .inr ⟨w.heap.size, 0, #[], rfl, Nat.le_refl _, Blk.new w _ _, Nat.le_refl _, by decide, rfl, rfl⟩⟩
    obtain ⟨i0, hi0, hz0, hz1, hz2⟩ := info_parts int_info'
    obtain ⟨a', c', w', hr, ho', hg, _, _⟩ := append_src (w.alloc (.cells #[] 3)) w.heap.size 22 22 3 i0 _ 1 8 Try.underlying22 hi0 hz0 hz1 hz2 rfl (by decide) _ 0 [] ho (some a) 0 c [] rfl (fun h => by cases h) (fun h => absurd h (Nat.lt_irrefl _)) (fun u hu => by cases hu) (by decide) (by decide) (by simp)
    have hb : Below w.heap.size w w' := ((Below.refl _ _).alloc (Nat.le_refl _) _).trans (bel_own ho hg (Nat.le_refl _) (by simp))
    have HR := Lib.hid hr
    have HF := Lib.hid (And.intro ho' hb)
    clear hr ho' hg hb ho hi0 hz0 hz1 hz2
    go_enter Try.func47, Try.ntmps47
    go_wp2_with (at_builtin; refine Lib.wpList_append_run _ rfl _ _ _ _ rfl _ _ rfl rfl _ _ HR.out ?_)
    go_ret
    exact ⟨a', c', rfl, HF.out⟩
set_option maxHeartbeats 4000000 in
theorem draw_any (A : Option Addr) (c : Nat) (l : List Int) (w : World) (h : l = [] ∨ ∃ b off, A = some ⟨b, off, none⟩ ∧ ∀ j, j < l.length → w.cell? ⟨b, off + j, none⟩ = some (.int .i64 (l.getD j 0))) (hn : l.length ≤ 1048576) :
    Calls Try.prog 22 #[.slice A l.length c] w fun e w' => ∃ g, e = .returned (.pointer (some ⟨g, 0, none⟩)) ∧ w.heap.size ≤ g ∧ DrawAt w' g l 0 ∧ Below w.heap.size w w' := by
  have HC : Hid (Calls Try.prog 47 #[.slice A l.length c] w fun e w' => ∃ A' c', e = .returned (.slice A' l.length c') ∧ OwnN w' w.heap.size A' c' l ∧ Below w.heap.size w w') := by
    apply Lib.hid
    rcases h with rfl | ⟨b, off, rfl, hc⟩
    · exact clone_zero A c w
    · exact clone_nums b off c l w hc hn
  have HN := Lib.hid hn
  clear h hn
  go_enter Try.func22, Try.ntmps22
  go_wp2_with fail
  refine HC.out.mono ?_
  rintro e w1 ⟨A1, c1, rfl, ho1, hb1⟩
  have hfin : DrawAt (w1.alloc (.cells #[.slice A1 l.length c1, .int .i64 0] 89)) w1.heap.size l 0 ∧ Below w.heap.size w (w1.alloc (.cells #[.slice A1 l.length c1, .int .i64 0] 89)) ∧ w.heap.size ≤ w1.heap.size := by
    refine ⟨⟨⟨A1, c1, Blk.new _ _ _, ?_⟩, ?_, HN.out⟩, hb1.alloc hb1.size _, hb1.size⟩
    · exact own_zero (World.ownsRow.alloc ho1 _)
    · cases l with
      | nil => exact .inr ⟨rfl, rfl⟩
      | cons => exact .inl (by simp)
  have HFI := Lib.hid hfin
  clear hfin ho1 hb1
  go_wp2_with fail
  go_ret
  exact ⟨w1.heap.size, rfl, HFI.out.2.2, HFI.out.1, HFI.out.2.1⟩
/-- What is drawn, within a bound. -/
def nextV (l : List Int) (k : Nat) (b : Int) : Int := if b < 1 ∨ l = [] then 0 else IntKind.u64.wrap (l.getD k 0) % b
def nextK (l : List Int) (k : Nat) (b : Int) : Nat := if b < 1 ∨ l = [] then k else (k + 1) % l.length
set_option maxHeartbeats 4000000 in
theorem next_none (b : Int) (w : World) : Calls Try.prog 48 #[.pointer none, .int .i64 b] w fun e w' => e = .returned (.int .i64 0) ∧ w' = w := by
  go_enter Try.func48, Try.ntmps48
  go_wp2_with fail
  go_ret
  exact ⟨rfl, rfl⟩
set_option maxHeartbeats 4000000 in
theorem next_low (g : Nat) (b : Int) (w : World) (hb : b < 1) : Calls Try.prog 48 #[.pointer (some ⟨g, 0, none⟩), .int .i64 b] w fun e w' => e = .returned (.int .i64 0) ∧ w' = w := by
  have d : decide (b < 1) = true := decide_eq_true hb
  go_enter Try.func48, Try.ntmps48
  go_wp2_with fail
  go_ret
  exact ⟨rfl, rfl⟩
set_option maxHeartbeats 4000000 in
theorem wnext_any (g : Nat) (l : List Int) (k : Nat) (b : Int) (w : World) (h : DrawAt w g l k) (hb : ¬ b < 1) (hb2 : b < 9223372036854775808) :
    Calls Try.prog 48 #[.pointer (some ⟨g, 0, none⟩), .int .i64 b] w fun e w' => e = .returned (.int .i64 (nextV l k b)) ∧ DrawAt w' g l (nextK l k b) ∧ Touch (fun j => j = g) w w' := by
  have d : decide (b < 1) = false := decide_eq_false hb
  obtain ⟨⟨A, c, hbk, ho⟩, hat, hfew⟩ := h
  have c0 : w.cell? ⟨g, 0, none⟩ = some (.slice A l.length c) := hbk.cell 0
  have c1 : w.cell? ⟨g, 1, none⟩ = some (.int .i64 k) := hbk.cell 1
  rcases hat with hk | ⟨rfl, rfl⟩
  · obtain ⟨gA, rfl, hlA, hcA⟩ := own_at ho (by omega)
    have q0 : w.cell? ⟨gA, k, none⟩ = some (.int .i64 (l.getD k 0)) := hcA k _ (by
      unfold numL
      rw [List.getElem?_map, List.getElem?_eq_getElem hk, List.getD_eq_getElem?_getD, List.getElem?_eq_getElem hk]; rfl)
    have f1 : w.frozen? ⟨g, 1, none⟩ = false := hbk.frozen 1
    obtain ⟨n, hnn⟩ : ∃ n, l.length = n := ⟨_, rfl⟩
    obtain ⟨x, hx⟩ : ∃ x, l.getD k 0 = x := ⟨_, rfl⟩
    rw [hnn] at c0
    rw [hx] at q0
    have k0 : (0 : Int) ≤ k := by omega
    have k1 : (k : Int) < n := by omega
    have n0 : ¬ (n : Int) = 0 := by omega
    have e0 : decide ((n : Int) = 0) = false := decide_eq_false n0
    have HX := Lib.hid (And.intro hnn (And.intro hx (And.intro hbk (And.intro ho (And.intro hfew hk)))))
    have jw : wrap64 ((k : Int) + 1) = (k : Int) + 1 := IntWalk.wrap64_in _ (by omega)
    clear hnn hx hbk ho hfew hk hcA hlA
    go_enter Try.func48, Try.ntmps48
    go_wp2_with fail
    go_quiet (fail)
    rename_i nq K1 aK1
    have c0' : (w.drewN nq).cell? ⟨g, 0, none⟩ = some (.slice (some ⟨gA, 0, none⟩) n c) := c0
    have c1' : (w.drewN nq).cell? ⟨g, 1, none⟩ = some (.int .i64 k) := c1
    have f1' : (w.drewN nq).frozen? ⟨g, 1, none⟩ = false := f1
    have hw : ∃ q, w.drewN nq = w.drewN q := ⟨_, rfl⟩
    generalize w.drewN nq = w1 at c0' c1' f1' hw ⊢
    have HW := Lib.hid hw
    clear c0 c1 f1 q0 hw
    go_wp2_with fail
    go_big_region
    go_wp2_with fail
    obtain ⟨hnn, hx, hbk, ho, hfew, hk⟩ := HX.out
    obtain ⟨q, rfl⟩ := HW.out
    have hl0 : l ≠ [] := fun e => by subst e; exact absurd hk (Nat.not_lt_zero _)
    have hcast : (((k + 1) % n : Nat) : Int) = ((k : Int) + 1) % (n : Int) := by
      rw [Int.natCast_emod]; rfl
    have hv : wrap64 ((IntKind.u64.wrap x).tmod b) = nextV l k b := by
      unfold nextV
      have hu : 0 ≤ IntKind.u64.wrap x := by rw [IntKind.wrap_u64]; exact Int.emod_nonneg _ (by decide)
      have h1 := Int.emod_nonneg (IntKind.u64.wrap x) (show b ≠ 0 by omega)
      have h2 := Int.emod_lt_of_pos (IntKind.u64.wrap x) (show 0 < b by omega)
      rw [if_neg (fun e => e.elim (by omega) hl0), hx, Int.tmod_eq_emod_of_nonneg hu]
      exact IntWalk.wrap64_in _ (by omega)
    have hkk : nextK l k b = (k + 1) % n := by
      unfold nextK
      rw [if_neg (fun e => e.elim (by omega) hl0), hnn]
    have hset : Blk ((w.drewN q).setCell ⟨g, 1, none⟩ (.int .i64 (((k : Int) + 1) % (n : Int)))) g 89 #[.slice (some ⟨gA, 0, none⟩) l.length c, .int .i64 (((k : Int) + 1) % (n : Int))] := Blk.set_ (show Blk (w.drewN q) g _ _ from hbk) 1 _
    have hon : OwnN ((w.drewN q).setCell ⟨g, 1, none⟩ (.int .i64 (((k : Int) + 1) % (n : Int)))) 0 (some ⟨gA, 0, none⟩) c l :=
      ownsRow_setCell_other (a := ⟨g, 1, none⟩) (show OwnN (w.drewN q) 0 _ c l from ho) (own_ne ho hbk (by decide)) _
    have hfin : DrawAt (((w.drewN q).setCell ⟨g, 1, none⟩ (.int .i64 (((k : Int) + 1) % (n : Int)))).drew) g l (nextK l k b) := by
      rw [hkk]
      refine ⟨⟨_, c, ?_, hon⟩, .inl (by rw [hnn]; exact Nat.mod_lt _ (by omega)), hfew⟩
      rw [hcast]
      exact hset
    rw [hv]
    have HFI := Lib.hid hfin
    clear hfin hset hon hkk hv hcast HX HW hbk ho hx hnn
    go_ret
    exact ⟨rfl, HFI.out, ((((Touch.refl (fun j => j = g) w).drewN q).set_ (a := ⟨g, 1, none⟩) (fun _ => rfl) _).drew)⟩
  · go_enter Try.func48, Try.ntmps48
    go_wp2_with fail
    go_ret
    have ek : nextK [] 0 b = 0 := by simp [nextK]
    rw [ek]
    exact ⟨by simp [nextV], ⟨⟨A, c, hbk, ho⟩, .inr ⟨rfl, rfl⟩, hfew⟩, Touch.refl _ _⟩
set_option maxHeartbeats 4000000 in
theorem jitter_none (n x : Int) (w : World) (hx : min (max n 0) 1048576 = x) : Calls Try.prog 23 #[.pointer none, .int .i64 n] w fun e w' => e = .returned (.int .i64 x) ∧ w' = w := by
  have HN := Lib.hid (next_none)
  have HX := Lib.hid hx
  clear hx
  go_enter Try.func23, Try.ntmps23
  go_wp2_with fail
  refine (HN.out _ _).mono ?_
  rintro e w1 ⟨rfl, rfl⟩
  go_wp2_with fail
  go_ret
  have := HX.out
  subst this
  exact ⟨rfl, rfl⟩
theorem nextV_in (l : List Int) (k : Nat) (b : Int) (hb : 0 < b) : 0 ≤ nextV l k b ∧ nextV l k b < b := by
  unfold nextV
  split
  · omega
  · exact ⟨Int.emod_nonneg _ (by omega), Int.emod_lt_of_pos _ hb⟩
set_option maxHeartbeats 4000000 in
theorem jitter_any (g : Nat) (l : List Int) (k : Nat) (n x : Int) (w : World) (h : DrawAt w g l k) (hx : min (max n 0) 1048576 = x) :
    Calls Try.prog 23 #[.pointer (some ⟨g, 0, none⟩), .int .i64 n] w fun e w' => e = .returned (.int .i64 (x + nextV l k (x / 2 + 1))) ∧ DrawAt w' g l (nextK l k (x / 2 + 1)) ∧ Touch (fun j => j = g) w w' := by
  have h0 : 0 ≤ x ∧ x ≤ 1048576 := by omega
  have HN := Lib.hid (wnext_any g l k (x / 2 + 1) w h (by omega) (by omega))
  have HX := Lib.hid hx
  have HV := Lib.hid (And.intro h0 (nextV_in l k (x / 2 + 1) (by omega)))
  clear hx h h0
  go_enter Try.func23, Try.ntmps23
  go_wp2_with fail
  rw [HX.out]
  refine HN.out.mono ?_
  rintro e w1 ⟨rfl, hd, ht⟩
  have HD := Lib.hid (And.intro hd ht)
  clear hd ht
  have HW := Lib.hid (show wrap64 (x + nextV l k (x / 2 + 1)) = x + nextV l k (x / 2 + 1) from IntWalk.wrap64_in _ (by have := HV.out; omega))
  generalize hv : nextV l k (x / 2 + 1) = v at *
  have HE := Lib.hid hv
  clear hv
  go_wp2_with fail
  try rw [HX.out]
  try rw [HW.out]
  go_ret
  exact ⟨by rw [HE.out]; rfl, HD.out.1, HD.out.2⟩
end Go.Proofs.Ythghedlgeceepaa
