/- Of the applicant: told to leave behind all else, with a chance to say something, what it says last is that it leaves, if it had said anything; then it says nothing (P13.2). No condition. -/
import Derived.Test.YtkdnngcmiggoeaaJnums
namespace Go.Proofs.Ytkdnngcmiggoeaa
open Go.ChangeShapes Go.WideShapes Go.ChangeAt Go.RowKit
set_option maxRecDepth 100000

theorem app_ends {s e : Nat} (hs : s < 5) (he : e < 6) : ∃ c : Ce, cellT appT s e = some c ∧ 0 ≤ c.1 ∧ c.1 < 5 := by
  have h1 : s = 0 ∨ s = 1 ∨ s = 2 ∨ s = 3 ∨ s = 4 := by omega
  have h2 : e = 0 ∨ e = 1 ∨ e = 2 ∨ e = 3 ∨ e = 4 ∨ e = 5 := by omega
  rcases h1 with rfl | rfl | rfl | rfl | rfl <;> rcases h2 with rfl | rfl | rfl | rfl | rfl | rfl <;> exact ⟨_, rfl, by decide, by decide⟩
theorem app_none {s : Nat} {e : Int} (hs : s < 5) (he : ¬ (0 ≤ e ∧ e < 6)) : cellT appT s e = none := by
  have : s = 0 ∨ s = 1 ∨ s = 2 ∨ s = 3 ∨ s = 4 := by omega
  unfold cellT
  rcases this with rfl | rfl | rfl | rfl | rfl <;> exact if_neg fun h => he h.2
theorem app_stays (es : List Int) (s : Int) (h0 : 0 ≤ s) (h1 : s < 5) : 0 ≤ endT appT s es ∧ endT appT s es < 5 := by
  induction es generalizing s with
  | nil => exact ⟨h0, h1⟩
  | cons e es ih =>
    simp only [endT]
    obtain ⟨k, rfl⟩ : ∃ k : Nat, s = k := ⟨s.toNat, by omega⟩
    by_cases he : 0 ≤ e ∧ e < 6
    · obtain ⟨m, rfl⟩ : ∃ m : Nat, e = m := ⟨e.toNat, by omega⟩
      obtain ⟨c, hc, c0, c1⟩ := app_ends (s := k) (e := m) (by omega) (by omega)
      rw [hc]
      exact ih c.1 c0 c1
    · rw [app_none (by omega) he]
      exact ih k h0 h1
/-- The last cells: told to leave, x comes; then what is said is y. -/
theorem app_last (es : List Int) : ∃ x y : Ce, runT appT 0 (es ++ [1]) = runT appT 0 es ++ [x] ∧ runT appT 0 (es ++ [1, 4, 4, 3, 4]) = runT appT 0 es ++ [x, y, (0, 0), (0, 0), (0, 0)] ∧ (x.1 ≠ 0 → y.2 = 3) := by
  rw [runT_append, runT_append]
  obtain ⟨h0, h1⟩ := app_stays es 0 (by decide) (by decide)
  have : endT appT 0 es = 0 ∨ endT appT 0 es = 1 ∨ endT appT 0 es = 2 ∨ endT appT 0 es = 3 ∨ endT appT 0 es = 4 := by omega
  rcases this with h | h | h | h | h <;> rw [h] <;> exact ⟨_, _, rfl, rfl, by decide⟩
theorem getD_last (l : List Ce) (x : Ce) (t : List Ce) (k : Nat) : (l ++ x :: t).getD (l.length + k) ce0 = (x :: t).getD k ce0 := by
  rw [List.getD_eq_getElem?_getD, List.getD_eq_getElem?_getD, List.getElem?_append_right (by omega)]
  simp
set_option maxHeartbeats 8000000 in
theorem walkTableLeaves (A : Option Addr) (len cap : Nat) (zs : List Int) (w : World) (hz : IsRow .i64 w A len cap zs) :
    Calls Try.prog 9 #[.slice A len cap] w fun e w' => e = .returned (.bool true) ∧ Below w.heap.size w w' := by
  obtain ⟨hev, hlen, hnone⟩ := hz.ev
  obtain ⟨es, hes⟩ : ∃ es, zs.take len = es := ⟨_, rfl⟩
  rw [hes] at hev hlen
  have HZ := Lib.hid (And.intro hev (And.intro hlen hnone))
  clear hz hes hev hlen hnone
  go_enter Try.func9, Try.ntmps9
  go_wp2_with fail
  refine (alive13_any w).mono ?_
  rintro e w1 ⟨rfl, b1⟩
  by_cases hgt : len > 60
  · go_wp2_with fail
    go_ret
    exact ⟨rfl, b1⟩
  go_wp2_with fail
  refine (app_any _).mono ?_
  rintro e w2 ⟨A', rfl, hT, b2⟩
  have b02 := b1.trans (b2.mono b1.size)
  obtain ⟨a1, c1, w3, h1, a2, c2, w5, h2, o5, b5⟩ := nums_with w2 w2.heap.size (Nat.le_refl _) A len cap es [1] HZ.out.2.1 HZ.out.2.2 ((HZ.out.1.below b02).more b02.size) 1 rfl (by omega)
  have H1 := Lib.hid h1
  have H2 := Lib.hid h2
  have hT5 := hT.go b5
  have hev5 := o5.ev
  have b05 := b02.trans (b5.mono b02.size)
  have HW := Lib.hid (And.intro hT5 (And.intro hev5 b05))
  have hl5 : (es ++ [1]).length = len + 1 := by rw [List.length_append, HZ.out.2.1]; rfl
  have HR := Lib.hid (show Calls Try.prog 27 #[.slice A' 5 5, .int .i64 0, .slice a2 (len + 1) c2] w5 fun e w' => ∃ A' c', e = .returned (.slice A' (runT appT 0 (es ++ [1])).length c') ∧ OwnC w' w5.heap.size A' c' (runT appT 0 (es ++ [1])) ∧ Below w5.heap.size w5 w' by
    have := run_any w5 A' 5 appT 0 a2 c2 (es ++ [1]) hT5 hev5 (by rw [hl5]; omega)
    rw [hl5] at this
    exact this)
  clear h1 h2 o5 b5 hT hT5 hev5 b05 b02 b2 b1 hl5
  go_wp2_with (at_builtin; first | refine Lib.wpList_append_run _ rfl _ _ _ _ rfl _ _ rfl rfl _ _ H1.out ?_ | refine Lib.wpList_append_run _ rfl _ _ _ _ rfl _ _ rfl rfl _ _ H2.out ?_)
  refine HR.out.mono ?_
  rintro e w6 ⟨A6, c6, rfl, o6, b6⟩
  obtain ⟨C, hC⟩ : ∃ C, runT appT 0 (es ++ [1]) = C := ⟨_, rfl⟩
  rw [hC] at o6 ⊢
  obtain ⟨n, hn⟩ : ∃ n, C.length = n := ⟨_, rfl⟩
  rw [hn]
  have hn1 : n ≤ 61 := by
    have := runT_le appT 0 (es ++ [1])
    rw [hC, hn, List.length_append, HZ.out.2.1] at this
    simp at this
    omega
  have b06 := HW.out.2.2.trans (b6.mono HW.out.2.2.size)
  have HC6 := Lib.hid (And.intro hC (And.intro hn (And.intro o6.cells b06)))
  clear hC hn o6 b06 b6
  go_wp2_with fail
  go_loopw [3, 21] (fun sv iv wr => ∃ (j : Nat) (b : Bool), j ≤ n ∧ iv = .int .i64 j ∧ sv = .bool b ∧ Hid (0 < j → b = true → (C.getD (j - 1) ce0).1 ≠ 0) ∧ Hid (Below w6.heap.size w6 wr)) (fun _ iv _ => n - (intOf iv).toNat)
  case atStart => exact ⟨0, false, Nat.zero_le _, rfl, rfl, Lib.hid (fun h => absurd h (Nat.lt_irrefl _)), Lib.hid (Below.refl _ _)⟩
  case round =>
    obtain ⟨j, b, hj, rfl, rfl, hI, hB⟩ := hrel
    by_cases hlt : j < n
    · have j1 : (j : Int) < n := by omega
      have j0 : (0 : Int) ≤ j := by omega
      have HJ := Lib.hid (show wrap64 ((j : Int) + 1) = (j : Int) + 1 from IntWalk.wrap64_in _ (by omega))
      obtain ⟨g, off, rfl, hbl, p0, p1⟩ := HC6.out.2.2.1 j (by rw [HC6.out.2.1]; exact hlt)
      obtain ⟨x, hx⟩ : ∃ x, C.getD j ce0 = x := ⟨_, rfl⟩
      rw [hx] at p0 p1
      obtain ⟨x0, x1⟩ := x
      have q0 : wr.cell? ⟨g, off + j * 2, none⟩ = some (.int .i64 x0) := (hB.out.cell (p := ⟨g, off + j * 2, none⟩) hbl).trans p0
      have q1 : wr.cell? ⟨g, off + j * 2 + 1, none⟩ = some (.int .i64 x1) := (hB.out.cell (p := ⟨g, off + j * 2 + 1, none⟩) hbl).trans p1
      have r0 : (wr.alloc (.cells #[.int .i64 x0, .int .i64 x1] 56)).cell? ⟨wr.heap.size, 0, none⟩ = some (.int .i64 x0) := (Blk.new wr 56 #[.int .i64 x0, .int .i64 x1]).cell 0
      have r1 : (wr.alloc (.cells #[.int .i64 x0, .int .i64 x1] 56)).cell? ⟨wr.heap.size, 1, none⟩ = some (.int .i64 x1) := (Blk.new wr 56 #[.int .i64 x0, .int .i64 x1]).cell 1
      have HX := Lib.hid (show (C.getD (j + 1 - 1) ce0).1 = x0 by rw [Nat.add_sub_cancel, hx])
      have HB := Lib.hid (hB.out.alloc hB.out.size (.cells #[.int .i64 x0, .int .i64 x1] 56))
      have hfin : ∀ b' : Bool, (b' = true → x0 ≠ 0) → ∃ (j' : Nat) (b'' : Bool), j' ≤ n ∧ Value.int .i64 ((j : Int) + 1) = .int .i64 j' ∧ Value.bool b' = .bool b'' ∧ Hid (0 < j' → b'' = true → (C.getD (j' - 1) ce0).1 ≠ 0) ∧ Hid (Below w6.heap.size w6 (wr.alloc (.cells #[.int .i64 x0, .int .i64 x1] 56))) := fun b' h =>
        ⟨j + 1, b', hlt, by rw [Int.natCast_add]; rfl, rfl, Lib.hid (fun _ hb => by rw [HX.out]; exact h hb), HB⟩
      have HF := Lib.hid hfin
      clear p0 p1 hbl hx hfin hI
      have h1 : x1 = 1 ∨ x1 = 2 ∨ x1 = 3 ∨ (x1 ≠ 1 ∧ x1 ≠ 2 ∧ x1 ≠ 3) := by omega
      by_cases hz : x0 = 0
      · rcases h1 with rfl | rfl | rfl | ⟨n1, n2, n3⟩ <;> cases b
        all_goals
          subst hz
          go_wp2_with fail
          go_roundw
          case rel =>
            try rw [HJ.out]
            exact HF.out _ (by decide)
          case measure =>
            try rw [HJ.out]
            show n - ((j : Int) + 1).toNat < n - ((j : Int)).toNat
            omega
      · rcases h1 with rfl | rfl | rfl | ⟨n1, n2, n3⟩ <;> cases b
        all_goals
          go_wp2_with fail
          go_roundw
          case rel =>
            try rw [HJ.out]
            exact HF.out _ (fun _ => hz)
          case measure =>
            try rw [HJ.out]
            show n - ((j : Int) + 1).toNat < n - ((j : Int)).toNat
            omega
    · obtain rfl : n = j := by omega
      go_wp2_with fail
      refine (app_any _).mono ?_
      rintro e w7 ⟨B', rfl, hT, b7⟩
      have b67 := hB.out.trans (b7.mono hB.out.size)
      have b07 := HC6.out.2.2.2.trans (b67.mono HC6.out.2.2.2.size)
      obtain ⟨a3, c3, w8, h1, a4, c4, w9, h2, o9, b9⟩ := nums_with w7 w7.heap.size (Nat.le_refl _) A len cap es [1, 4, 4, 3, 4] HZ.out.2.1 HZ.out.2.2 ((HZ.out.1.below b07).more b07.size) 5 rfl (by omega)
      have H3 := Lib.hid h1
      have H4 := Lib.hid h2
      have hT9 := hT.go b9
      have hev9 := o9.ev
      have b09 := b07.trans (b9.mono b07.size)
      have HW9 := Lib.hid b09
      have hl9 : (es ++ [1, 4, 4, 3, 4]).length = len + 5 := by rw [List.length_append, HZ.out.2.1]; rfl
      have HR9 := Lib.hid (show Calls Try.prog 27 #[.slice B' 5 5, .int .i64 0, .slice a4 (len + 5) c4] w9 fun e w' => ∃ A' c', e = .returned (.slice A' (runT appT 0 (es ++ [1, 4, 4, 3, 4])).length c') ∧ OwnC w' w9.heap.size A' c' (runT appT 0 (es ++ [1, 4, 4, 3, 4])) ∧ Below w9.heap.size w9 w' by
        have := run_any w9 B' 5 appT 0 a4 c4 (es ++ [1, 4, 4, 3, 4]) hT9 hev9 (by rw [hl9]; omega)
        rw [hl9] at this
        exact this)
      obtain ⟨x, y, e1, e2, hxy⟩ := app_last es
      obtain ⟨P, hP⟩ : ∃ P, runT appT 0 es = P := ⟨_, rfl⟩
      rw [hP] at e1 e2
      obtain ⟨p, hp⟩ : ∃ p, P.length = p := ⟨_, rfl⟩
      have hpl : p ≤ 60 := by
        have := runT_le appT 0 es
        rw [hP, hp, HZ.out.2.1] at this
        omega
      have hny : b = true → y.2 = 3 := fun hb => hxy (by
        have h1 := HC6.out.1
        have h2 := HC6.out.2.1
        rw [e1] at h1
        have h3 := hI.out
        rw [← h1] at h3 h2
        rw [List.length_append, hp] at h2
        have h2' : n = p + 1 := h2.symm
        have h4 := h3 (by omega) hb
        rw [h2', Nat.add_sub_cancel, ← hp, show P.length = P.length + 0 from rfl, getD_last] at h4
        exact h4)
      have HY := Lib.hid hny
      have HP := Lib.hid (And.intro e2 hp)
      clear h1 h2 o9 b9 hT hT9 hev9 b09 b07 b67 b7 hl9 hxy e1 e2 hP hp hny hI H1 H2 HR HW HC6 hB
      go_wp2_with (at_builtin; first | refine Lib.wpList_append_run _ rfl _ _ _ _ rfl _ _ rfl rfl _ _ H3.out ?_ | refine Lib.wpList_append_run _ rfl _ _ _ _ rfl _ _ rfl rfl _ _ H4.out ?_)
      refine HR9.out.mono ?_
      rintro e w10 ⟨A10, c10, rfl, o10, b10⟩
      rw [HP.out.1] at o10 ⊢
      have HB10 := Lib.hid (HW9.out.trans (b10.mono HW9.out.size))
      obtain ⟨g, e0, hbl, hcc⟩ := own_at o10 (by simp)
      subst e0
      rw [show (P ++ [x, y, (0, 0), (0, 0), (0, 0)]).length = p + 5 by rw [List.length_append, HP.out.2]; rfl]
      have hat := fun k (hk : k < 5) => by
        have := cesL_at (P ++ [x, y, (0, 0), (0, 0), (0, 0)]) (p + k) (by rw [List.length_append, HP.out.2]; simp; omega)
        rw [← HP.out.2, getD_last, HP.out.2] at this
        exact And.intro (hcc _ _ this.1) (hcc _ _ this.2)
      have q40 : w10.cell? ⟨g, (p + 4) * 2, none⟩ = some (.int .i64 0) := (hat 4 (by decide)).1
      have q41 : w10.cell? ⟨g, (p + 4) * 2 + 1, none⟩ = some (.int .i64 0) := (hat 4 (by decide)).2
      have q21 : w10.cell? ⟨g, (p + 2) * 2 + 1, none⟩ = some (.int .i64 0) := (hat 2 (by decide)).2
      have q11 : w10.cell? ⟨g, (p + 1) * 2 + 1, none⟩ = some (.int .i64 y.2) := (hat 1 (by decide)).2
      clear hat hcc o10 b10 hbl
      cases b
      · clear q11
        go_wp2_with fail
        go_ret
        exact ⟨rfl, HB10.out⟩
      · rw [HY.out rfl] at q11
        go_wp2_with fail
        go_ret
        exact ⟨rfl, HB10.out⟩
set_option maxRecDepth 100000 in
theorem liftedTableLeaves (os : Os) (started : os.Started) (H : Type) (enc : TypeId × Value → H) :
    ReturnsInHanded {} Try.checked os 9 .any (Rows.tableLeavesSpec.pre6 enc Try.prog Try.f9 Rows.tableLeavesRow.domain false) (Rows.tableLeavesSpec.post enc Try.prog Try.f9 false true false false) := by
  refine returnsInHanded_of_change (C := Try.checked) own started (by kernel_rfl) Try.func9
    (ChangeSpec.witness6 (enc := enc) (C := Try.checked) false ⟨#[], #[.slice none 0 0], []⟩ 8 (by kernel_rfl) (by kernel_rfl) (by kernel_rfl) (by kernel_rfl)) ?_
  intro W base args ds gs before hval0 hW hcnd _
  have hval : ∀ (j : Nat) t v, Try.f9.params[j]? = some t → args[j]? = some v → Value.okWide Try.prog W .any base t v := hval0
  have hW' := hW
  obtain ⟨p, q, hA0, hV, rfl, hfz, hnd⟩ := hW
  have hA : DataW.TrodAll enc Try.prog W 0 (fun _ => true) true Try.f9.params.toList args.toList ds p := hA0
  rw [Try.params9] at hA hval
  obtain ⟨v0, vs0, d0, ds0, p0, q0, hargs, rfl, rfl, h0, r0⟩ := trodAll_cons hA
  obtain ⟨rfl, rfl, rfl⟩ := trodAll_nil r0
  obtain rfl : args = #[v0] := by cases args; simp_all
  obtain ⟨rfl, rfl⟩ := trodVars_none hV
  obtain ⟨a0, len0, cap0, rfl⟩ := okWide_slice Try.underlying22 (hval 0 22 v0 rfl rfl)
  have k0 := h0
  have lt0 : ∀ x ∈ p0, x.block < W.heap.size := by obtain ⟨m, hm⟩ := k0; exact DataW.trod_lt m _ _ _ hm
  obtain ⟨z0, w0⟩ : ∃ zs, IsRow .i64 W a0 len0 cap0 zs := by
    obtain ⟨fuel, hf⟩ := h0
    rcases open_ints Try.underlying22 Try.underlying3 (by kernel_rfl) hf with ⟨hcs, _⟩ | ⟨x, l, c, zs, hcs, _, hl, hm, hz, _, hcell, hwz⟩
    · simp [Value.cells] at hcs
      obtain ⟨rfl, rfl, rfl⟩ := hcs
      exact ⟨[], .inl ⟨rfl, rfl, rfl, rfl⟩⟩
    · simp [Value.cells] at hcs
      obtain ⟨rfl, rfl, rfl⟩ := hcs
      exact ⟨zs, .inr ⟨_, rfl, hl, hm, by simpa using hz, cell_lt hcell (by simpa using hz), hcell, hwz⟩⟩
  clear hA0 hval0
  refine (walkTableLeaves a0 len0 cap0 z0 W w0).mono fun e W' ⟨he, bel⟩ => ?_
  subst he
  exact ⟨_, rfl, _, _, _, [], _, [], hW', trodAll_mk1 (shut_bool Try.underlying4 _), (trodAll_cons_mk (Below.trod laidOut (by kernel_rfl) (of_decide_eq_true (by kernel_rfl)) k0 bel lt0) trodAll_mk0), rfl, bel.frame _, fun h => by cases h⟩

theorem overTableLeaves : Rows.tableLeavesRow.holds Try.pinned (OpenSpec.ofChange Rows.tableLeavesSpec) :=
  OpenClaim.holds_of_wide 9 Try.f9 rfl rfl rfl rfl rfl rfl rfl ⟨rfl, rfl, rfl, rfl, rfl⟩ rfl rfl rfl rfl rfl (by kernel_rfl) Try.func9 (by kernel_rfl)
    (of_decide_eq_true (by kernel_rfl)) (by unfold Func.isWrapper; first | (rw [if_pos (by decide +kernel)]; kernel_rfl) | (rw [if_neg (by decide +kernel)]; exact ⟨rfl, rfl⟩))
    (fun os started H enc _ => liftedTableLeaves os started H enc)

/-- The statement. -/
theorem tableLeaves_holds : Rows.TableLeavesSaid := overTableLeaves

#print axioms tableLeaves_holds
end Go.Proofs.Ytkdnngcmiggoeaa
