/- What was heard: is it of use? prio's useful, the document's Use. No condition but an int's range. -/
import Derived.Test.YtadejdhdkkfliaaVways
import Derived.Test.YtadejdhdkkfliaaBpName
namespace Go.Proofs.Ytadejdhdkkfliaa
open Go.RowKit
set_option maxRecDepth 100000

def useB (id : Int) (h : Hd) : Bool := !h.none && decide (0 ≤ h.age) && decide (h.age ≤ 9) && nameB h.root && decide (h.bridge ≠ id)
set_option maxHeartbeats 2000000 in
theorem useful_any (id : Int) (h : Hd) (hr : h.root ≤ 9223372036854775807) (w : World) :
    Calls Try.prog 77 #[.int .i64 id, h.v] w fun e w' => e = .returned (.bool (useB id h)) ∧ Below w.heap.size w w' := by
  obtain ⟨r, k, b, p, a, c, n⟩ := h
  have HB := Lib.hid (fun w => bridge_any r hr w)
  clear hr
  simp only [Hd.v, Hd.arr]
  cases n
  · by_cases h1 : a < 0
    · rw [show useB id ⟨r, k, b, p, a, c, false⟩ = false by simp [useB]; omega]
      go_enter Try.func77, Try.ntmps77
      go_wp2_with fail
      go_ret
      exact ⟨rfl, bel_alloc _ _⟩
    · by_cases h2 : 9 < a
      · rw [show useB id ⟨r, k, b, p, a, c, false⟩ = false by simp [useB]; omega]
        go_enter Try.func77, Try.ntmps77
        go_wp2_with fail
        go_ret
        exact ⟨rfl, bel_alloc _ _⟩
      · have d1 : 0 ≤ a := by omega
        have d2 : a ≤ 9 := by omega
        have d3 : a < 10 := by omega
        clear h1 h2
        cases hn : nameB r
        · have HN := Lib.hid hn
          rw [show useB id ⟨r, k, b, p, a, c, false⟩ = false by simp [useB, hn]]
          clear hn
          go_enter Try.func77, Try.ntmps77
          go_wp2_with (go_at_call 34; refine (HB.out _).mono ?_; rw [HN.out]; rintro e w' ⟨rfl, rfl⟩)
          go_ret
          exact ⟨rfl, bel_alloc _ _⟩
        · have HN := Lib.hid hn
          by_cases h3 : b = id
          · subst h3
            have d4 : (b != b) = false := by simp
            rw [show useB b ⟨r, k, b, p, a, c, false⟩ = false by simp [useB]]
            clear hn
            go_enter Try.func77, Try.ntmps77
            go_wp2_with (go_at_call 34; refine (HB.out _).mono ?_; rw [HN.out]; rintro e w' ⟨rfl, rfl⟩)
            go_ret
            exact ⟨rfl, bel_alloc _ _⟩
          · have d4 : (b != id) = true := by simpa using h3
            rw [show useB id ⟨r, k, b, p, a, c, false⟩ = true by simp [useB, hn, h3]; omega]
            clear hn h3
            go_enter Try.func77, Try.ntmps77
            go_wp2_with (go_at_call 34; refine (HB.out _).mono ?_; rw [HN.out]; rintro e w' ⟨rfl, rfl⟩)
            go_ret
            exact ⟨rfl, bel_alloc _ _⟩
  · rw [show useB id ⟨r, k, b, p, a, c, true⟩ = false by simp [useB]]
    go_enter Try.func77, Try.ntmps77
    go_wp2_with fail
    go_ret
    exact ⟨rfl, bel_alloc _ _⟩
set_option maxHeartbeats 2000000 in
theorem use_any (id : Int) (h : Hd) (hr : h.root ≤ 9223372036854775807) (w : World) :
    Calls Try.prog 74 #[h.v, .int .i64 id] w fun e w' => e = .returned (.bool (useB id h)) ∧ Below w.heap.size w w' := by
  obtain ⟨r, k, b, p, a, c, n⟩ := h
  have HB := Lib.hid (fun w => rbridge_any r hr w)
  clear hr
  simp only [Hd.v, Hd.arr]
  cases n
  · by_cases h1 : a < 0
    · rw [show useB id ⟨r, k, b, p, a, c, false⟩ = false by simp [useB]; omega]
      go_enter Try.func74, Try.ntmps74
      go_wp2_with fail
      go_ret
      exact ⟨rfl, bel_alloc _ _⟩
    · by_cases h2 : 9 < a
      · rw [show useB id ⟨r, k, b, p, a, c, false⟩ = false by simp [useB]; omega]
        go_enter Try.func74, Try.ntmps74
        go_wp2_with fail
        go_ret
        exact ⟨rfl, bel_alloc _ _⟩
      · have d1 : 0 ≤ a := by omega
        have d2 : a ≤ 9 := by omega
        have d3 : a < 10 := by omega
        clear h1 h2
        cases hn : nameB r
        · have HN := Lib.hid hn
          rw [show useB id ⟨r, k, b, p, a, c, false⟩ = false by simp [useB, hn]]
          clear hn
          go_enter Try.func74, Try.ntmps74
          go_wp2_with (go_at_call 11; refine (HB.out _).mono ?_; rw [HN.out]; rintro e w' ⟨rfl, rfl⟩)
          go_ret
          exact ⟨rfl, bel_alloc _ _⟩
        · have HN := Lib.hid hn
          by_cases h3 : b = id
          · subst h3
            have d4 : (b != b) = false := by simp
            rw [show useB b ⟨r, k, b, p, a, c, false⟩ = false by simp [useB]]
            clear hn
            go_enter Try.func74, Try.ntmps74
            go_wp2_with (go_at_call 11; refine (HB.out _).mono ?_; rw [HN.out]; rintro e w' ⟨rfl, rfl⟩)
            go_ret
            exact ⟨rfl, bel_alloc _ _⟩
          · have d4 : (b != id) = true := by simpa using h3
            rw [show useB id ⟨r, k, b, p, a, c, false⟩ = true by simp [useB, hn, h3]; omega]
            clear hn h3
            go_enter Try.func74, Try.ntmps74
            go_wp2_with (go_at_call 11; refine (HB.out _).mono ?_; rw [HN.out]; rintro e w' ⟨rfl, rfl⟩)
            go_ret
            exact ⟨rfl, bel_alloc _ _⟩
  · rw [show useB id ⟨r, k, b, p, a, c, true⟩ = false by simp [useB]]
    go_enter Try.func74, Try.ntmps74
    go_wp2_with fail
    go_ret
    exact ⟨rfl, bel_alloc _ _⟩
end Go.Proofs.Ytadejdhdkkfliaa
