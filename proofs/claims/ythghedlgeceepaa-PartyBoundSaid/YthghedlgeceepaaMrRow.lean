/- The writer's lengths: how many words are of a kind, how many make a row. Their condition: at most 2^20 words. -/
import Derived.Test.YthghedlgeceepaaMrAsk
import Derived.Test.YthghedlgeceepaaMrBytes
import Derived.Deep.RegionHeld3
namespace Go.Proofs.Ythghedlgeceepaa
open Go.RowKit

/-- How many words at the front are of the kind. -/
def kindLen (k : Int) (l : List Wd) : Nat := (l.takeWhile fun a => decide (a.t = k)).length
theorem kindLen_le (k : Int) (l : List Wd) : kindLen k l ≤ l.length := (List.takeWhile_sublist _).length_le
/-- The words of the kind stand at the front, and none behind them. -/
theorem kindLen_app {k : Int} {A B : List Wd} (hA : ∀ a ∈ A, a.t = k) (hB : ∀ b ∈ B, b.t ≠ k) : kindLen k (A ++ B) = A.length := by
  unfold kindLen
  rw [List.takeWhile_append_of_pos (by intro a ha; simpa using hA a ha)]
  cases B with
  | nil => simp
  | cons b B => simp [hB b (by simp)]
theorem kindLen_end (k : Int) (l : List Wd) (j : Nat) (hj : j ≤ l.length) (h : ∀ r, r < j → (l.getD r wd0).t = k) (he : j < l.length → (l.getD j wd0).t ≠ k) : kindLen k l = j := by
  induction l generalizing j with
  | nil => simp at hj; subst hj; rfl
  | cons a l ih =>
    cases j with
    | zero =>
      have := he (by simp)
      simp only [List.getD_cons_zero] at this
      simp [kindLen, this]
    | succ j =>
      have h0 := h 0 (by omega)
      simp only [List.getD_cons_zero] at h0
      have := ih j (by simpa using hj) (fun r hr => by simpa using h (r + 1) (by omega)) (fun hlt => by simpa using he (by simpa using hlt))
      simp only [kindLen] at this ⊢
      simp [h0, this]
set_option maxHeartbeats 1000000 in
theorem ofKind_any (A : Option Addr) (c : Nat) (l : List Wd) (k : Int) (B : Nat) (w : World) (hl : l.length ≤ 1048576) (hA : WordsAt w B A l) :
    Calls Try.prog 39 #[.slice A l.length c, .int .i64 k] w fun e w' => e = .returned (.int .i64 (kindLen k l : Nat)) ∧ w = w' := by
  generalize hn : l.length = n at *
  have HN := Lib.hid hn
  clear hn
  go_enter Try.func39, Try.ntmps39
  go_wp2_with fail
  go_loop [5] (fun i => ∃ j : Nat, j ≤ n ∧ i = .int .i64 j ∧ ∀ r, r < j → (l.getD r wd0).t = k) (fun i => n - (intOf i).toNat)
  case atStart => exact ⟨0, Nat.zero_le _, rfl, fun r hr => absurd hr (Nat.not_lt_zero _)⟩
  case round =>
    obtain ⟨j, hj, rfl, hf⟩ := hrel
    by_cases hlt : j < n
    · obtain ⟨b, off, rfl, hb, c0, c1, c2, c3⟩ := hA j (by rw [HN.out]; exact hlt)
      have HF := Lib.hid hf
      clear hf hA
      have HE := Lib.hid (kindLen_end k l j (by rw [HN.out]; exact hj) HF.out)
      generalize hx : (l.getD j wd0) = x at *
      have HX := Lib.hid hx
      clear hx
      by_cases e : x.t = k
      · have HR := Lib.hid e
        have d : (x.t == k) = true := by simpa using e
        clear e
        go_wp2
        go_round
        case rel => exact ⟨j + 1, by omega, by go_num, fun r hr => by
          by_cases e : r = j
          · subst e; rw [HX.out]; exact HR.out
          · exact HF.out r (by omega)⟩
        case measure => simp [intOf]; omega
      · have HR := Lib.hid (HE.out fun _ => e)
        have d : (x.t == k) = false := by simpa using e
        clear e
        go_wp2
        go_ret
        exact ⟨by rw [HR.out]; go_num, rfl⟩
    · obtain rfl : j = n := by omega
      have HR := Lib.hid (kindLen_end k l j (by rw [HN.out]; exact hj) hf (fun h => absurd h (by rw [HN.out]; omega)))
      clear hf hA
      go_wp2
      go_ret
      exact ⟨by rw [HR.out]; go_num, rfl⟩
theorem rowFrom_end (c : Nat) (a : Wd) (l : List Wd) (j : Nat) (hj : j ≤ l.length) (hc : j ≤ c) (h : ∀ r, r < j → nextP ((a :: l).getD r wd0) (l.getD r wd0)) (he : j < l.length → j < c → ¬ nextP ((a :: l).getD j wd0) (l.getD j wd0)) : rowFrom c a l = j := by
  induction c generalizing a l j with
  | zero => obtain rfl : j = 0 := by omega
            rfl
  | succ c ih =>
    cases l with
    | nil => simp at hj; subst hj; rfl
    | cons b l =>
      cases j with
      | zero =>
        have := he (by simp) (by omega)
        simp only [List.getD_cons_zero] at this
        simp [rowFrom, this]
      | succ j =>
        have h0 := h 0 (by omega)
        simp only [List.getD_cons_zero] at h0
        have := ih b l j (by simpa using hj) (by omega) (fun r hr => by have := h (r + 1) (by omega); simp only [List.getD_cons_succ] at this; exact this) (fun hlt hlc => by
          have := he (by simpa using hlt) (by omega); simp only [List.getD_cons_succ] at this; exact this)
        simp [rowFrom, h0, this]
theorem rowLen_end (l : List Wd) (j : Nat) (hj : j + 1 ≤ l.length) (hc : j + 1 ≤ 200) (h : ∀ r, r < j → nextP (l.getD r wd0) (l.getD (r + 1) wd0)) (he : j + 1 < l.length → j + 1 < 200 → ¬ nextP (l.getD j wd0) (l.getD (j + 1) wd0)) : rowLen l = j + 1 := by
  cases l with
  | nil => simp at hj
  | cons a l =>
    simp only [rowLen]
    rw [rowFrom_end 199 a l j (by simpa using hj) (by omega) (fun r hr => by have := h r hr; rw [List.getD_cons_succ] at this; exact this) (fun h1 h2 => by
      have := he (by simpa using h1) (by omega); rw [List.getD_cons_succ] at this; exact this)]
theorem bel_drew {n : Nat} {w w' : World} (h : Below n w w') : Below n w w'.drew := ⟨h.os, h.tape, h.output, h.size, h.block⟩
set_option maxRecDepth 4000 in
set_option maxHeartbeats 1000000 in
theorem row_any (A : Option Addr) (c : Nat) (l : List Wd) (w : World) (hl : l.length ≤ 1048576) (hA : WordsAt w w.heap.size A l) (hv : ∀ j, j < l.length → -1000000000000000 ≤ (l.getD j wd0).v ∧ (l.getD j wd0).v ≤ 1000000000000000) :
    Calls Try.prog 69 #[.slice A l.length c] w fun e w' => e = .returned (.int .i64 (rowLen l : Nat)) ∧ Below w.heap.size w w' := by
  by_cases h0 : l = []
  · subst h0
    go_enter Try.func69, Try.ntmps69
    go_wp2_with fail
    go_loopw [3] (fun i wr => i = .int .i64 0 ∧ wr = w) (fun i _ => 0)
    case atStart => exact ⟨rfl, rfl⟩
    case round =>
      obtain ⟨rfl, rfl⟩ := hrel
      go_wp2_with fail
      go_region
      all_goals go_wp2_with fail
      go_ret
      exact ⟨rfl, bel_drew (Below.refl _ _)⟩
  have hpos : 0 < l.length := List.length_pos_iff.2 h0
  clear h0
  generalize hn : l.length = n at *
  have HN := Lib.hid hn
  clear hn
  have d0 : min (1 : Int) (n : Int) = 1 := by omega
  go_enter Try.func69, Try.ntmps69
  go_wp2_with fail
  go_loopw [3] (fun i wr => ∃ j : Nat, j + 1 ≤ n ∧ j + 1 ≤ 200 ∧ i = .int .i64 ((j + 1 : Nat) : Int) ∧ (∀ r, r < j → nextP (l.getD r wd0) (l.getD (r + 1) wd0)) ∧ Below w.heap.size w wr) (fun i _ => 200 - (intOf i).toNat)
  case atStart => exact ⟨0, by omega, by omega, by first | rfl | go_num, fun r hr => absurd hr (Nat.not_lt_zero _), Below.refl _ _⟩
  case round =>
    obtain ⟨j, hj, hm, rfl, hf, hbw⟩ := hrel
    have HF := Lib.hid hf
    clear hf
    have HE := Lib.hid (rowLen_end l j (by rw [HN.out]; exact hj) hm HF.out)
    generalize hk : j + 1 = k at *
    have hk1 : (k : Int) - 1 = (j : Int) := by omega
    have HK := Lib.hid hk
    clear hk
    by_cases hlt : k < n
    · by_cases h200 : k < 200
      · have hjn : j < n := by have := HK.out; omega
        obtain ⟨b, off, rfl, hb, p0, p1, p2, p3⟩ := hA j (by rw [HN.out]; omega)
        obtain ⟨b', off', e', hb', q0, q1, q2, q3⟩ := hA k (by rw [HN.out]; omega)
        injection e' with e'
        injection e' with e1 e2
        subst e1 e2
        have hin : ∀ (o : Nat) (v : Value), w.cell? ⟨b, o, none⟩ = some v → wr.cell? ⟨b, o, none⟩ = some v := fun o v h => (hbw.cell (p := ⟨b, o, none⟩) (by show b < _; omega)).trans h
        have c0 := hin _ _ p0
        have c1 := hin _ _ p1
        have c2 := hin _ _ p2
        have c3 := hin _ _ p3
        have c4 := hin _ _ q0
        have c5 := hin _ _ q1
        have c6 := hin _ _ q2
        have c7 := hin _ _ q3
        have hvj := hv j (by omega)
        clear hin p0 p1 p2 p3 q0 q1 q2 q3 hA hv
        generalize hx : l.getD j wd0 = x at *
        generalize hy : l.getD k wd0 = y at *
        have HX := Lib.hid hx
        have HY := Lib.hid hy
        clear hx hy
        have HV := Lib.hid hvj
        clear hvj
        have hsz := hbw.size
        have hj4 : IntKind.i64.wrap (j : Int) = (j : Int) := IntWalk.i64_in _ (by omega)
        have hj5 : IntKind.i64.wrap ((k : Int) - 1) = (j : Int) := by rw [hk1]; exact hj4
        have hj13 : (0 : Int) ≤ (k : Int) := by omega
        have hj6 : (j : Int) < (n : Int) := by omega
        have hj8 : (k : Int) < (n : Int) := by omega
        have hj9 : (k : Int) < 200 := by omega
        have hj10 : decide ((k : Int) < (n : Int)) = true := decide_eq_true hj8
        have hj11 : decide ((k : Int) < 200) = true := decide_eq_true hj9
        have hj7 : (0 : Int) ≤ (j : Int) := by omega
        by_cases hp : nextP x y
        · have HB : Hid (nextB x y = true) := Lib.hid (decide_eq_true hp)
          have HP := Lib.hid hp
          clear hp
          go_wp2_with fail
          go_region_held3 (fun w' => w'.cell? ⟨b, off + j * 4, none⟩ = some (.int .i64 x.t) ∧ w'.cell? ⟨b, off + j * 4 + 1, none⟩ = some (.int .i64 x.v) ∧ w'.cell? ⟨b, off + j * 4 + 2, none⟩ = some (.int .i64 x.e) ∧ w'.cell? ⟨b, off + j * 4 + 3, none⟩ = some (.int .i64 x.b) ∧ w'.cell? ⟨b, off + k * 4, none⟩ = some (.int .i64 y.t) ∧ w'.cell? ⟨b, off + k * 4 + 1, none⟩ = some (.int .i64 y.v) ∧ w'.cell? ⟨b, off + k * 4 + 2, none⟩ = some (.int .i64 y.e) ∧ w'.cell? ⟨b, off + k * 4 + 3, none⟩ = some (.int .i64 y.b)) (first | exact ⟨c0, c1, c2, c3, c4, c5, c6, c7⟩ | exact ⟨(hbx.cell (p := ⟨b, _, none⟩) (by show b < wr.heap.size; omega)).trans c0, (hbx.cell (p := ⟨b, _, none⟩) (by show b < wr.heap.size; omega)).trans c1, (hbx.cell (p := ⟨b, _, none⟩) (by show b < wr.heap.size; omega)).trans c2, (hbx.cell (p := ⟨b, _, none⟩) (by show b < wr.heap.size; omega)).trans c3, (hbx.cell (p := ⟨b, _, none⟩) (by show b < wr.heap.size; omega)).trans c4, (hbx.cell (p := ⟨b, _, none⟩) (by show b < wr.heap.size; omega)).trans c5, (hbx.cell (p := ⟨b, _, none⟩) (by show b < wr.heap.size; omega)).trans c6, (hbx.cell (p := ⟨b, _, none⟩) (by show b < wr.heap.size; omega)).trans c7⟩) ((go_at_call 89; refine (next_any x y _ HV.out).mono ?_; rw [HB.out]; rintro e w' ⟨rfl, hbx⟩))
          all_goals
            go_wp2_with fail
            go_roundw
            case rel => exact ⟨k, by omega, by omega, by go_num, fun r hr => (by
              by_cases e : r = j
              · subst e; rw [HK.out, HX.out, HY.out]; exact HP.out
              · exact HF.out r (by have := HK.out; omega)), (bel_drew hbw).trans (hbx.mono hsz)⟩
            case measure => simp [intOf]; omega
        · have HB : Hid (nextB x y = false) := Lib.hid (decide_eq_false hp)
          have HR := Lib.hid (HE.out fun _ _ => hp)
          clear hp
          go_wp2_with fail
          go_region_held3 (fun w' => w'.cell? ⟨b, off + j * 4, none⟩ = some (.int .i64 x.t) ∧ w'.cell? ⟨b, off + j * 4 + 1, none⟩ = some (.int .i64 x.v) ∧ w'.cell? ⟨b, off + j * 4 + 2, none⟩ = some (.int .i64 x.e) ∧ w'.cell? ⟨b, off + j * 4 + 3, none⟩ = some (.int .i64 x.b) ∧ w'.cell? ⟨b, off + k * 4, none⟩ = some (.int .i64 y.t) ∧ w'.cell? ⟨b, off + k * 4 + 1, none⟩ = some (.int .i64 y.v) ∧ w'.cell? ⟨b, off + k * 4 + 2, none⟩ = some (.int .i64 y.e) ∧ w'.cell? ⟨b, off + k * 4 + 3, none⟩ = some (.int .i64 y.b)) (first | exact ⟨c0, c1, c2, c3, c4, c5, c6, c7⟩ | exact ⟨(hbx.cell (p := ⟨b, _, none⟩) (by show b < wr.heap.size; omega)).trans c0, (hbx.cell (p := ⟨b, _, none⟩) (by show b < wr.heap.size; omega)).trans c1, (hbx.cell (p := ⟨b, _, none⟩) (by show b < wr.heap.size; omega)).trans c2, (hbx.cell (p := ⟨b, _, none⟩) (by show b < wr.heap.size; omega)).trans c3, (hbx.cell (p := ⟨b, _, none⟩) (by show b < wr.heap.size; omega)).trans c4, (hbx.cell (p := ⟨b, _, none⟩) (by show b < wr.heap.size; omega)).trans c5, (hbx.cell (p := ⟨b, _, none⟩) (by show b < wr.heap.size; omega)).trans c6, (hbx.cell (p := ⟨b, _, none⟩) (by show b < wr.heap.size; omega)).trans c7⟩) ((go_at_call 89; refine (next_any x y _ HV.out).mono ?_; rw [HB.out]; rintro e w' ⟨rfl, hbx⟩))
          all_goals
            go_wp2_with fail
            go_ret
            exact ⟨by rw [HR.out]; go_num, (bel_drew hbw).trans (hbx.mono hsz)⟩
      · have HR := Lib.hid (HE.out (fun _ h => absurd h h200))
        clear hA hv
        have hj10 : decide ((k : Int) < (n : Int)) = true := decide_eq_true (by omega)
        have hj11 : decide ((k : Int) < 200) = false := decide_eq_false (by omega)
        have hj12 : ¬ ((k : Int) < 200) := by omega
        have hj8 : (k : Int) < (n : Int) := by omega
        go_wp2_with fail
        go_region
        all_goals go_wp2_with fail
        go_ret
        exact ⟨by rw [HR.out]; go_num, bel_drew hbw⟩
    · have HR := Lib.hid (HE.out (fun h => absurd h (by rw [HN.out]; omega)))
      clear hA hv
      have hj10 : decide ((k : Int) < (n : Int)) = false := decide_eq_false (by omega)
      have hj8 : ¬ ((k : Int) < (n : Int)) := by omega
      go_wp2_with fail
      go_region
      all_goals go_wp2_with fail
      go_ret
      exact ⟨by rw [HR.out]; go_num, bel_drew hbw⟩
end Go.Proofs.Ythghedlgeceepaa
