/- Contracts of mrpdu's and the document's small questions: Attr, Compare, goodWord, the sizes, Less, next. No condition (next: small values). -/
import Derived.Test.YthghedlgeceepaaMrMem
import Derived.Test.YthghedlgeceepaaBel
namespace Go.Proofs.Ythghedlgeceepaa
open Go.RowKit

def attrB (t v : Int) : Bool := decide (attrP t v)
def wordB (a : Wd) : Bool := decide (wordP a)
theorem attrB_1 (v : Int) : attrB 1 v = vidB v := decide_eq_decide.2 (by unfold attrP; simp)
theorem attrB_2 (v : Int) : attrB 2 v = manyB v := decide_eq_decide.2 (by unfold attrP; simp)
theorem attrB_3 (v : Int) : attrB 3 v = decide (v = 0 ∨ v = 1) := decide_eq_decide.2 (by unfold attrP; simp)
theorem attrB_n {t : Int} (v : Int) (h1 : t ≠ 1) (h2 : t ≠ 2) (h3 : t ≠ 3) : attrB t v = false := decide_eq_false (by unfold attrP; simp [h1, h2, h3])

theorem vs_any (k : Int) (w : World) : Calls Try.prog 59 #[.int .i64 k] w fun e w' => e = .returned (.int .i64 (vs k)) ∧ w = w' := by
  by_cases h1 : k = 1
  · subst h1
    go_enter Try.func59, Try.ntmps59
    go_wp2
    go_ret
    exact ⟨rfl, rfl⟩
  · by_cases h2 : k = 2
    · subst h2
      go_enter Try.func59, Try.ntmps59
      go_wp2
      go_ret
      exact ⟨rfl, rfl⟩
    · by_cases h3 : k = 3
      · subst h3
        go_enter Try.func59, Try.ntmps59
        go_wp2
        go_ret
        exact ⟨rfl, rfl⟩
      · have e : vs k = 0 := by simp [vs, h1, h2, h3]
        have d1 : (k == 1) = false := by simpa using h1
        have d2 : (k == 2) = false := by simpa using h2
        have d3 : (k == 3) = false := by simpa using h3
        rw [e]
        clear h1 h2 h3 e
        go_enter Try.func59, Try.ntmps59
        go_wp2
        go_ret
        exact ⟨rfl, rfl⟩

set_option maxHeartbeats 1000000 in
theorem attr_any (t v : Int) (w : World) :
    Calls Try.prog 24 #[.agg #[.int .i64 t, .int .i64 v]] w fun e w' => e = .returned (.bool (attrB t v)) ∧ Below w.heap.size w w' := by
  by_cases h1 : t = 1
  · subst h1
    rw [attrB_1]
    go_enter Try.func24, Try.ntmps24
    go_wp2_with (go_at_call 49; refine (vid_any _ _).mono ?_; rintro e w' ⟨rfl, rfl⟩)
    go_ret
    exact ⟨rfl, bel_alloc _ _⟩
  · have d1 : (t == 1) = false := by simpa using h1
    by_cases h2 : t = 2
    · subst h2
      rw [attrB_2]
      clear h1
      go_enter Try.func24, Try.ntmps24
      go_wp2_with (go_at_call 50; refine (many_any _ _).mono ?_; rintro e w' ⟨rfl, rfl⟩)
      go_ret
      exact ⟨rfl, bel_alloc _ _⟩
    · have d2 : (t == 2) = false := by simpa using h2
      by_cases h3 : t = 3
      · subst h3
        rw [attrB_3]
        clear h1 h2
        by_cases v0 : v = 0
        · subst v0
          go_enter Try.func24, Try.ntmps24
          go_wp2
          go_ret
          exact ⟨rfl, bel_alloc _ _⟩
        · have e0 : (v == 0) = false := by simpa using v0
          by_cases v1 : v = 1
          · subst v1
            clear v0
            go_enter Try.func24, Try.ntmps24
            go_wp2
            go_ret
            exact ⟨rfl, bel_alloc _ _⟩
          · have e1 : (v == 1) = false := by simpa using v1
            rw [show decide (v = 0 ∨ v = 1) = false from decide_eq_false (by omega)]
            clear v0 v1
            go_enter Try.func24, Try.ntmps24
            go_wp2
            go_ret
            exact ⟨rfl, bel_alloc _ _⟩
      · have d3 : (t == 3) = false := by simpa using h3
        rw [attrB_n v h1 h2 h3]
        clear h1 h2 h3
        go_enter Try.func24, Try.ntmps24
        go_wp2
        go_ret
        exact ⟨rfl, bel_alloc _ _⟩


set_option maxHeartbeats 1000000 in
theorem goodWord_any (a : Wd) (w : World) :
    Calls Try.prog 60 #[a.val] w fun e w' => e = .returned (.bool (wordB a)) ∧ Below w.heap.size w w' := by
  obtain ⟨t, v, e, b⟩ := a
  simp only [Wd.val]
  have hb : wordB ⟨t, v, e, b⟩ = decide (attrB t v = true ∧ 0 ≤ e ∧ e ≤ 5 ∧ 0 ≤ b ∧ b ≤ 1048576) := by
    exact decide_eq_decide.2 (by unfold wordP attrB; simp)
  rw [hb]
  clear hb
  have HA := Lib.hid (attr_any t v (w.alloc (.cells #[.int .i64 t, .int .i64 v, .int .i64 e, .int .i64 b] 52)))
  have hb0 := Blk.new w 52 #[.int .i64 t, .int .i64 v, .int .i64 e, .int .i64 b]
  have hs0 : w.heap.size < (w.alloc (.cells #[.int .i64 t, .int .i64 v, .int .i64 e, .int .i64 b] 52)).heap.size := by simp
  have hbl := bel_alloc w (.cells #[.int .i64 t, .int .i64 v, .int .i64 e, .int .i64 b] 52)
  cases hat : attrB t v
  · have HT := Lib.hid hat
    rw [show decide (false = true ∧ 0 ≤ e ∧ e ≤ 5 ∧ 0 ≤ b ∧ b ≤ 1048576) = false from by simp]
    clear hat
    go_enter Try.func60, Try.ntmps60
    go_wp2_with (go_at_call 24; refine (HA.out).mono ?_; rw [HT.out]; rintro e w' ⟨rfl, hw1⟩)
    go_ret
    exact ⟨rfl, hbl.trans (hw1.mono (by simp))⟩
  · have HT := Lib.hid hat
    have k1 : ∀ w' : World, Below (w.alloc (.cells #[.int .i64 t, .int .i64 v, .int .i64 e, .int .i64 b] 52)).heap.size (w.alloc (.cells #[.int .i64 t, .int .i64 v, .int .i64 e, .int .i64 b] 52)) w' → w'.cell? ⟨w.heap.size, 2, none⟩ = some (.int .i64 e) ∧ w'.cell? ⟨w.heap.size, 3, none⟩ = some (.int .i64 b) :=
      fun w' h => ⟨(Blk.below hb0 h hs0).cell 2, (Blk.below hb0 h hs0).cell 3⟩
    simp only [true_and]
    clear hat hb0 hs0
    have hcase : (decide (0 ≤ e ∧ e ≤ 5 ∧ 0 ≤ b ∧ b ≤ 1048576) = true ∧ 0 ≤ e ∧ e ≤ 5 ∧ 0 ≤ b ∧ b ≤ 1048576) ∨ (decide (0 ≤ e ∧ e ≤ 5 ∧ 0 ≤ b ∧ b ≤ 1048576) = false ∧ (e < 0 ∨ (0 ≤ e ∧ 5 < e) ∨ (0 ≤ e ∧ e ≤ 5 ∧ b < 0) ∨ (0 ≤ e ∧ e ≤ 5 ∧ 0 ≤ b ∧ 1048576 < b))) := by
      by_cases h : 0 ≤ e ∧ e ≤ 5 ∧ 0 ≤ b ∧ b ≤ 1048576
      · exact .inl ⟨decide_eq_true h, h⟩
      · exact .inr ⟨decide_eq_false h, by omega⟩
    rcases hcase with ⟨hd, h1, h2, h3, h4⟩ | ⟨hd, h1 | ⟨h1, h2⟩ | ⟨h1, h2, h3⟩ | ⟨h1, h2, h3, h4⟩⟩
    all_goals
      rw [hd]
      clear hd
      go_enter Try.func60, Try.ntmps60
      go_wp2_with (go_at_call 24; refine (HA.out).mono ?_; rw [HT.out]; rintro e w' ⟨rfl, hw1⟩; obtain ⟨c2, c3⟩ := k1 _ hw1)
      go_ret
      first | exact ⟨rfl, hbl.trans (hw1.mono (by simp))⟩ | exact ⟨ret_bool (decide_eq_false (by omega)), hbl.trans (hw1.mono (by simp))⟩

def cmpI (a b : Int) : Int := if a < b then -1 else if b < a then 1 else 0
theorem isNaN_any (a : Int) (w : World) : Calls Try.prog 94 #[.int .i64 a] w fun e w' => e = .returned (.bool false) ∧ w = w' := by
  have d : (a != a) = false := by simp
  go_enter Try.func94, Try.ntmps94
  go_wp2
  go_ret
  exact ⟨rfl, rfl⟩
set_option maxHeartbeats 1000000 in
theorem cmpc_any (a b : Int) (w : World) : Calls Try.prog 86 #[.int .i64 a, .int .i64 b] w fun e w' => e = .returned (.int .i64 (cmpI a b)) ∧ w = w' := by
  rcases (show a < b ∨ (¬ a < b ∧ b < a) ∨ (¬ a < b ∧ ¬ b < a) from by omega) with h | ⟨h, h'⟩ | ⟨h, h'⟩
  · rw [show cmpI a b = -1 from by simp [cmpI, h]]
    go_enter Try.func86, Try.ntmps86
    go_wp2_with (go_at_call 94; refine (isNaN_any _ _).mono ?_; rintro e w' ⟨rfl, rfl⟩)
    go_ret
    exact ⟨rfl, rfl⟩
  · rw [show cmpI a b = 1 from by simp [cmpI, h, h']]
    go_enter Try.func86, Try.ntmps86
    go_wp2_with (go_at_call 94; refine (isNaN_any _ _).mono ?_; rintro e w' ⟨rfl, rfl⟩)
    go_ret
    exact ⟨rfl, rfl⟩
  · rw [show cmpI a b = 0 from by simp [cmpI, h, h']]
    go_enter Try.func86, Try.ntmps86
    go_wp2_with (go_at_call 94; refine (isNaN_any _ _).mono ?_; rintro e w' ⟨rfl, rfl⟩)
    go_ret
    exact ⟨rfl, rfl⟩
def orI (x y : Int) : Int := if x = 0 then y else x
set_option maxHeartbeats 1000000 in
theorem or_any (g cap : Nat) (x y : Int) (w : World) (c0 : w.cell? ⟨g, 0, none⟩ = some (.int .i64 x)) (c1 : w.cell? ⟨g, 1, none⟩ = some (.int .i64 y)) :
    Calls Try.prog 85 #[.slice (some ⟨g, 0, none⟩) 2 cap] w fun e w' => e = .returned (.int .i64 (orI x y)) ∧ w = w' := by
  go_enter Try.func85, Try.ntmps85
  go_wp2_with fail
  go_loop [8] (fun i => i = .int .i64 0 ∨ (i = .int .i64 1 ∧ x = 0) ∨ (i = .int .i64 2 ∧ x = 0 ∧ y = 0)) (fun i => 2 - (intOf i).toNat)
  case atStart => exact .inl rfl
  case round =>
    rcases hrel with rfl | ⟨rfl, rfl⟩ | ⟨rfl, rfl, rfl⟩
    · by_cases hx : x = 0
      · subst hx
        go_wp2
        go_round
        case rel => simp
        case measure => decide
      · have d : (x != 0) = true := by simpa using hx
        have e : orI x y = x := by simp [orI, hx]
        have HE := Lib.hid e
        clear hx e
        go_wp2
        go_ret
        exact ⟨ret_i64 HE.out.symm, rfl⟩
    · by_cases hy : y = 0
      · subst hy
        go_wp2
        go_round
        case rel => simp
        case measure => decide
      · have d : (y != 0) = true := by simpa using hy
        clear hy
        go_wp2
        go_ret
        exact ⟨rfl, rfl⟩
    · go_wp2
      go_ret
      exact ⟨rfl, rfl⟩
/-- Attributes' order. -/
def cmpA (t v t' v' : Int) : Int := orI (cmpI t t') (cmpI v v')
set_option maxHeartbeats 2000000 in
theorem compare_any (t v t' v' : Int) (w : World) :
    Calls Try.prog 61 #[.agg #[.int .i64 t, .int .i64 v], .agg #[.int .i64 t', .int .i64 v']] w fun e w' => e = .returned (.int .i64 (cmpA t v t' v')) ∧ Below w.heap.size w w' := by
  unfold cmpA
  generalize hx : cmpI t t' = x
  generalize hy : cmpI v v' = y
  have HX := Lib.hid hx
  have HY := Lib.hid hy
  clear hx hy
  have hn : ((w.alloc (.cells #[.int .i64 t, .int .i64 v] 29)).alloc (.cells #[.int .i64 t', .int .i64 v'] 29)).heap.size = w.heap.size + 1 + 1 := by simp
  have hb := Blk.new ((w.alloc (.cells #[.int .i64 t, .int .i64 v] 29)).alloc (.cells #[.int .i64 t', .int .i64 v'] 29)) 3 #[.int .i64 x, .int .i64 y]
  rw [hn] at hb
  have HO := Lib.hid (or_any (w.heap.size + 1 + 1) 2 x y ((((w.alloc (.cells #[.int .i64 t, .int .i64 v] 29)).alloc (.cells #[.int .i64 t', .int .i64 v'] 29)).alloc (.cells #[.int .i64 x, .int .i64 y] 3)).drew) (hb.drew.cell 0) (hb.drew.cell 1))
  clear hb hn
  have HB : Hid (Below w.heap.size w ((((w.alloc (.cells #[.int .i64 t, .int .i64 v] 29)).alloc (.cells #[.int .i64 t', .int .i64 v'] 29)).alloc (.cells #[.int .i64 x, .int .i64 y] 3)).drew)) :=
    Lib.hid (bel_drewN ((bel_alloc2 w _ _).alloc (by simp; omega) _) 1)
  go_enter Try.func61, Try.ntmps61
  go_wp2_with fail
  go_region_law ((first
    | (go_simp; go_at_call 86; (with_reducible refine (cmpc_any t t' _).mono ?_); rw [HX.out]; rintro e w' ⟨rfl, rfl⟩)
    | (go_simp; go_at_call 86; (with_reducible refine (cmpc_any v v' _).mono ?_); rw [HY.out]; rintro e w' ⟨rfl, rfl⟩)
    | (go_simp; go_at_call 85; refine HO.out.mono ?_; rintro e w' ⟨rfl, rfl⟩)))
  all_goals
    go_wp2
    go_ret
    exact ⟨rfl, HB.out⟩

/-- The document's order of attributes. -/
def lessB (t v t' v' : Int) : Bool := decide (t < t' ∨ (t = t' ∧ v < v'))
theorem cmpA_less (t v t' v' : Int) : decide (0 ≤ cmpA t v t' v') = !lessB t v t' v' := by
  unfold cmpA lessB orI cmpI
  by_cases h : t < t'
  · simp [h]
  · by_cases h2 : t = t'
    · subst h2
      simp
      by_cases h3 : v < v'
      · simp [h3]
      · by_cases h4 : v' < v <;> simp [h3, h4]
    · have h3 : t' < t := by omega
      simp [h, h2, h3]

/-- May a word stand behind another one in a row? -/
def nextB (a b : Wd) : Bool := decide (a.v + 1 = b.v ∧ a.b = b.b)
set_option maxHeartbeats 1000000 in
theorem next_any (a b : Wd) (w : World) (ha : -1000000000000000 ≤ a.v ∧ a.v ≤ 1000000000000000) :
    Calls Try.prog 89 #[a.val, b.val] w fun e w' => e = .returned (.bool (nextB a b)) ∧ Below w.heap.size w w' := by
  obtain ⟨t, v, x, n⟩ := a
  obtain ⟨t', v', x', n'⟩ := b
  simp only [Wd.val, nextB] at ha ⊢
  have e0 : IntKind.i64.wrap (v + 1) = v + 1 := IntWalk.i64_in _ (by omega)
  by_cases h1 : v + 1 = v'
  · by_cases h2 : n = n'
    · subst h1 h2
      rw [show decide (v + 1 = v + 1 ∧ n = n) = true from decide_eq_true ⟨rfl, rfl⟩]
      go_enter Try.func89, Try.ntmps89
      go_wp2
      go_ret
      exact ⟨rfl, bel_alloc2 _ _ _⟩
    · subst h1
      rw [show decide (v + 1 = v + 1 ∧ n = n') = false from decide_eq_false (fun h => h2 h.2)]
      have d : (n == n') = false := by simpa using h2
      clear h2
      go_enter Try.func89, Try.ntmps89
      go_wp2
      go_ret
      exact ⟨rfl, bel_alloc2 _ _ _⟩
  · rw [show decide (v + 1 = v' ∧ n = n') = false from decide_eq_false (fun h => h1 h.1)]
    have d : (v + 1 == v') = false := by simpa using h1
    clear h1
    go_enter Try.func89, Try.ntmps89
    go_wp2
    go_ret
    exact ⟨rfl, bel_alloc2 _ _ _⟩
end Go.Proofs.Ythghedlgeceepaa
