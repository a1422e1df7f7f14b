/- Contracts of octet's Reader: what each call answers, and how the block of the reader reads behind it. No condition but that the reader stands in its place. -/
import Derived.Test.YtoigapanhbmjlaaMem
namespace Go.Proofs.Ytoigapanhbmjlaa
open Go.RowKit

/-- A reader as data: its text, where it stands, whether it has failed. -/
structure RdS where
  s : ByteArray
  at_ : Nat
  bad : Bool
def RdS.ok (r : RdS) : Prop := r.at_ ≤ r.s.size ∧ r.s.size ≤ 9223372036854775807
def RdS.cells (r : RdS) : Array Value := #[.string r.s, .int .i64 r.at_, .bool r.bad]
/-- The reader r stands at block g. -/
def IsR (w : World) (g : Nat) (r : RdS) : Prop := Blk w g 79 r.cells
def RdS.left (r : RdS) : Nat := if r.bad then 0 else r.s.size - r.at_
def RdS.can (r : RdS) (n : Int) : Bool := !r.bad && decide (0 ≤ n) && decide (n ≤ r.s.size - r.at_)
def RdS.fail (r : RdS) : RdS := { r with bad := true }
def RdS.take (r : RdS) (n : Int) : RdS := if r.can n then { r with at_ := r.at_ + n.toNat } else r.fail
def RdS.text (r : RdS) (n : Int) : ByteArray := if r.can n then r.s.extract r.at_ (r.at_ + n.toNat) else ⟨#[]⟩

section
variable {w : World} {g : Nat} {r : RdS}
theorem IsR.c0 (h : IsR w g r) : w.cell? ⟨g, 0, none⟩ = some (.string r.s) := h.cell 0
theorem IsR.c1 (h : IsR w g r) : w.cell? ⟨g, 1, none⟩ = some (.int .i64 r.at_) := h.cell 1
theorem IsR.c2 (h : IsR w g r) : w.cell? ⟨g, 2, none⟩ = some (.bool r.bad) := h.cell 2
end

set_option maxHeartbeats 400000 in
theorem left_any (g : Nat) (r : RdS) (w : World) (h : IsR w g r) (hr : r.ok) :
    Calls Try.prog 49 #[.pointer (some ⟨g, 0, none⟩)] w fun e w' => e = .returned (.int .i64 r.left) ∧ ∃ n, w' = w.drewN n := by
  obtain ⟨s, at_, bad⟩ := r
  obtain ⟨h1, h2⟩ := hr
  simp only at h1 h2
  have c0 := h.c0
  have c1 := h.c1
  have c2 := h.c2
  simp only at c0 c1 c2
  clear h
  cases bad
  · go_enter Try.func49, Try.ntmps49
    go_wp2
    go_quiet (fail)
    go_wp2
    go_ret
    refine ⟨?_, nq, rfl⟩
    simp [RdS.left]
    omega
  · go_enter Try.func49, Try.ntmps49
    go_wp2
    go_ret
    exact ⟨rfl, 0, rfl⟩

set_option maxHeartbeats 400000 in
theorem left_nil (w : World) :
    Calls Try.prog 49 #[.pointer none] w fun e w' => e = .returned (.int .i64 0) ∧ w = w' := by
  go_enter Try.func49, Try.ntmps49
  go_wp2
  go_ret
  exact ⟨rfl, rfl⟩

set_option maxHeartbeats 400000 in
theorem fail_any (g : Nat) (r : RdS) (w : World) (h : IsR w g r) :
    Calls Try.prog 58 #[.pointer (some ⟨g, 0, none⟩)] w fun e w' => e = .returned (.tuple #[]) ∧ IsR w' g r.fail ∧ Touch (· = g) w w' := by
  have c2 := h.c2
  have f2 := h.frozen 2
  have hs : IsR (w.setCell ⟨g, 2, none⟩ (.bool true)) g r.fail := Blk.set_ h 2 _
  have ht : Touch (· = g) w (w.setCell ⟨g, 2, none⟩ (.bool true)) := Touch.set_ (p := (· = g)) (Touch.refl _ _) (fun _ => rfl) _
  clear h
  go_enter Try.func58, Try.ntmps58
  go_wp2
  go_end0
  exact ⟨rfl, hs, ht⟩

set_option maxHeartbeats 400000 in
theorem fail_nil (w : World) :
    Calls Try.prog 58 #[.pointer none] w fun e w' => e = .returned (.tuple #[]) ∧ w = w' := by
  go_enter Try.func58, Try.ntmps58
  go_wp2
  go_end0
  exact ⟨rfl, rfl⟩

set_option maxHeartbeats 400000 in
theorem fault_any (g : Nat) (r : RdS) (w : World) (h : IsR w g r) :
    Calls Try.prog 34 #[.pointer (some ⟨g, 0, none⟩)] w fun e w' => e = .returned (.int .i64 (if r.bad then (r.at_ : Int) else -1)) ∧ w = w' := by
  obtain ⟨s, at_, bad⟩ := r
  have c1 := h.c1
  have c2 := h.c2
  simp only at c1 c2
  clear h
  cases bad
  all_goals
    go_enter Try.func34, Try.ntmps34
    go_wp2
    go_ret
    exact ⟨rfl, rfl⟩

set_option maxHeartbeats 400000 in
theorem fault_nil (w : World) :
    Calls Try.prog 34 #[.pointer none] w fun e w' => e = .returned (.int .i64 (-1)) ∧ w = w' := by
  go_enter Try.func34, Try.ntmps34
  go_wp2
  go_ret
  exact ⟨rfl, rfl⟩

def near (n most : Int) : Int := if n < 1 then (if most < 1 then most else 1) else if most < n then most else n
theorem near_is (n most : Int) : near n most = min (max n 1) most := by
  unfold near
  split <;> split <;> omega
set_option maxHeartbeats 400000 in
theorem near_any (n most : Int) (w : World) :
    Calls Try.prog 43 #[.int .i64 n, .int .i64 most] w fun e w' => e = .returned (.int .i64 (near n most)) ∧ w = w' := by
  by_cases h1 : n < 1
  · by_cases h2 : most < 1
    all_goals
      simp only [near, h1, h2, ite_true, ite_false]
      go_enter Try.func43, Try.ntmps43
      go_wp2
      go_ret
      exact ⟨rfl, rfl⟩
  · by_cases h2 : most < n
    all_goals
      simp only [near, h1, h2, ite_true, ite_false]
      go_enter Try.func43, Try.ntmps43
      go_wp2
      go_ret
      exact ⟨rfl, rfl⟩

set_option maxHeartbeats 400000 in
theorem open_any (s : ByteArray) (w : World) :
    Calls Try.prog 32 #[.string s] w fun e w' => e = .returned (.pointer (some ⟨w.heap.size, 0, none⟩)) ∧ IsR w' w.heap.size ⟨s, 0, false⟩ ∧ Below w.heap.size w w' := by
  go_enter Try.func32, Try.ntmps32
  go_wp2
  go_ret
  exact ⟨rfl, Blk.new _ _ _, (Below.refl _ _).alloc (Nat.le_refl _) _⟩

set_option maxHeartbeats 400000 in
theorem take_nil (n : Int) (w : World) :
    Calls Try.prog 48 #[.pointer none, .int .i64 n] w fun e w' => e = .returned (.string ⟨#[]⟩) ∧ w = w' := by
  go_enter Try.func48, Try.ntmps48
  go_wp2
  go_ret
  exact ⟨rfl, rfl⟩

set_option maxHeartbeats 400000 in
theorem take_any (g : Nat) (r : RdS) (n : Int) (w : World) (h : IsR w g r) (hr : r.ok) (hn : n ≤ 9223372036854775807) :
    Calls Try.prog 48 #[.pointer (some ⟨g, 0, none⟩), .int .i64 n] w fun e w' => e = .returned (.string (r.text n)) ∧ IsR w' g (r.take n) ∧ Touch (· = g) w w' := by
  by_cases hb : r.bad = true
  · have c2 := h.c2
    rw [hb] at c2
    have hc : r.can n = false := by simp [RdS.can, hb]
    have ht : r.take n = r := by obtain ⟨s, a, b⟩ := r; simp only at hb; subst hb; simp [RdS.take, hc, RdS.fail]
    have hx : r.text n = ⟨#[]⟩ := by simp [RdS.text, hc]
    rw [ht, hx]
    clear hc ht hx hb hr
    go_enter Try.func48, Try.ntmps48
    go_wp2
    go_ret
    exact ⟨rfl, h, Touch.refl _ _⟩
  · have hb' : r.bad = false := by simpa using hb
    have hl : r.left = r.s.size - r.at_ := by simp [RdS.left, hb']
    by_cases hc : r.can n = true
    · have c2 := h.c2
      rw [hb'] at c2
      have c0 := h.c0
      have c1 := h.c1
      have f1 := h.frozen 1
      have ht : r.take n = ⟨r.s, r.at_ + n.toNat, r.bad⟩ := by simp [RdS.take, hc]
      have hx : r.text n = r.s.extract r.at_ (r.at_ + n.toNat) := by simp [RdS.text, hc]
      simp [RdS.can, hb'] at hc
      obtain ⟨hc1, hc2⟩ := hc
      obtain ⟨hr1, hr2⟩ := hr
      obtain ⟨k, rfl⟩ := Int.eq_ofNat_of_zero_le hc1
      rw [ht, hx]
      have hl2 : (k : Int) ≤ (r.left : Int) := by rw [hl]; omega
      have hk : r.at_ + k ≤ r.s.size := by omega
      have hw : ∀ w2 : World, IsR w2 g r → IsR (w2.setCell ⟨g, 1, none⟩ (.int .i64 (r.at_ + k))) g ⟨r.s, r.at_ + k, r.bad⟩ := fun w2 h2 => by
        have := Blk.set_ h2 1 (.int .i64 (r.at_ + k))
        simpa [IsR, RdS.cells] using this
      clear ht hx hb
      go_enter Try.func48, Try.ntmps48
      go_wp2_with (go_at_call 49; refine (left_any g r _ h ⟨hr1, hr2⟩).mono ?_; rintro e w' ⟨rfl, nn, rfl⟩)
      go_quiet (fail)
      go_wp2
      go_ret
      refine ⟨?_, ?_, ?_⟩
      · rfl
      · exact (hw _ (h.drewN nn)).drewN _
      · exact (Touch.set_ (p := (· = g)) ((Touch.refl _ _).drewN nn) (fun _ => rfl) _).drewN _
    · have hcf : r.can n = false := by simpa using hc
      have c2 := h.c2
      rw [hb'] at c2
      have ht : r.take n = r.fail := by simp [RdS.take, hcf]
      have hx : r.text n = ⟨#[]⟩ := by simp [RdS.text, hcf]
      rw [ht, hx]
      simp [RdS.can, hb'] at hc
      clear ht hx hcf hb
      by_cases hn0 : n < 0
      · go_enter Try.func48, Try.ntmps48
        go_wp2_with (go_at_call 58; refine (fail_any g r _ h).mono ?_; rintro e w' ⟨rfl, hi, hto⟩)
        go_ret
        exact ⟨rfl, hi, hto⟩
      · have hc' := hc (by omega)
        have hr1 := hr.1
        have hgt : ((r.s.size - r.at_ : Nat) : Int) < n := by omega
        have hn0' : 0 ≤ n := by omega
        clear hc hc' hn0
        go_enter Try.func48, Try.ntmps48
        go_wp2_with (first
          | (go_at_call 49; refine (left_any g r _ h hr).mono ?_; rintro e w' ⟨rfl, nn, rfl⟩)
          | (go_at_call 58; refine (fail_any g r _ (h.drewN nn)).mono ?_; rintro e w' ⟨rfl, hi, hto⟩))
        go_ret
        exact ⟨rfl, hi, ((Touch.refl _ _).drewN nn).trans hto⟩

set_option maxHeartbeats 400000 in
theorem raw_any (g : Nat) (r : RdS) (n : Int) (w : World) (h : IsR w g r) (hr : r.ok) (hn : n ≤ 9223372036854775807) :
    Calls Try.prog 60 #[.pointer (some ⟨g, 0, none⟩), .int .i64 n] w fun e w' => e = .returned (.string (r.text n)) ∧ IsR w' g (r.take n) ∧ Touch (· = g) w w' := by
  go_enter Try.func60, Try.ntmps60
  go_wp2_with (go_at_call 48; refine (take_any g r n _ h hr hn).mono ?_; rintro e w' ⟨rfl, hi, hto⟩)
  go_ret
  exact ⟨rfl, hi, hto⟩

set_option maxHeartbeats 400000 in
theorem raw_nil (n : Int) (w : World) :
    Calls Try.prog 60 #[.pointer none, .int .i64 n] w fun e w' => e = .returned (.string ⟨#[]⟩) ∧ w = w' := by
  go_enter Try.func60, Try.ntmps60
  go_wp2_with (go_at_call 48; refine (take_nil n _).mono ?_; rintro e w' ⟨rfl, rfl⟩)
  go_ret
  exact ⟨rfl, rfl⟩

set_option maxHeartbeats 400000 in
theorem end_nil (w : World) :
    Calls Try.prog 35 #[.pointer none] w fun e w' => e = .returned (.int .i64 2) ∧ w = w' := by
  go_enter Try.func35, Try.ntmps35
  go_wp2
  go_ret
  exact ⟨rfl, rfl⟩

def RdS.end_ (r : RdS) : Int := if r.bad || decide (r.at_ < r.s.size) then 4 else 0
set_option maxHeartbeats 400000 in
theorem end_any (g : Nat) (r : RdS) (w : World) (h : IsR w g r) (hr : r.ok) :
    Calls Try.prog 35 #[.pointer (some ⟨g, 0, none⟩)] w fun e w' => e = .returned (.int .i64 r.end_) ∧ ∃ n, w' = w.drewN n := by
  have c2 := h.c2
  by_cases hb : r.bad = true
  · have he : r.end_ = 4 := by simp [RdS.end_, hb]
    rw [he]
    rw [hb] at c2
    clear hb he
    go_enter Try.func35, Try.ntmps35
    go_wp2
    go_ret
    exact ⟨rfl, 0, rfl⟩
  · have hb' : r.bad = false := by simpa using hb
    have hl : r.left = r.s.size - r.at_ := by simp [RdS.left, hb']
    have hr1 := hr.1
    rw [hb'] at c2
    by_cases ha : r.at_ < r.s.size
    · have he : r.end_ = 4 := by simp [RdS.end_, ha]
      rw [he]
      have hp : (0 : Int) < ((r.s.size - r.at_ : Nat) : Int) := by omega
      clear hb he
      go_enter Try.func35, Try.ntmps35
      go_wp2_with (go_at_call 49; refine (left_any g r _ h hr).mono ?_; rintro e w' ⟨rfl, nn, rfl⟩)
      go_ret
      exact ⟨rfl, nn, rfl⟩
    · have he : r.end_ = 0 := by simp [RdS.end_, ha, hb']
      rw [he]
      have hp : r.s.size - r.at_ = 0 := by omega
      rw [hp] at hl
      clear hb he hp
      go_enter Try.func35, Try.ntmps35
      go_wp2_with (go_at_call 49; refine (left_any g r _ h hr).mono ?_; rintro e w' ⟨rfl, nn, rfl⟩)
      go_ret
      exact ⟨rfl, nn, rfl⟩
end Go.Proofs.Ytoigapanhbmjlaa


