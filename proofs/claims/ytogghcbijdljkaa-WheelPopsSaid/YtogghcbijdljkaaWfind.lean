/- A wheel as it lies in memory, and where a key's timer is, or would be. Its condition: fewer than 2^20 timers. -/
import Derived.Test.YtogghcbijdljkaaWsort
import Derived.Test.YtogghcbijdljkaaSearch
import Derived.Test.YtogghcbijdljkaaBel
import Derived.BigQuiet
namespace Go.Proofs.Ytogghcbijdljkaa
open Go.RowKit
set_option maxRecDepth 100000

/-- By their keys, one a key. -/
def KeysUp (l : List Tm) : Prop := l.Pairwise fun a b => a.key < b.key
/-- A wheel in block g, of the program's own, that holds the timers l. -/
structure WheelAt (w : World) (g : Nat) (l : List Tm) : Prop where
  row : ∃ A c, Blk w g 74 #[.slice A l.length c] ∧ OwnT w 0 A c l
  up : KeysUp l
  few : l.length ≤ 1048000
/-- Where a key is, or would be. -/
def AtKey (l : List Tm) (key : Int) (k : Nat) : Prop := k ≤ l.length ∧ (∀ i, i < k → (l.getD i tm0).key < key) ∧ ∀ i, k ≤ i → i < l.length → key ≤ (l.getD i tm0).key
theorem up_le {l : List Tm} (h : KeysUp l) (i j : Nat) (hij : i < j) (hj : j < l.length) : (l.getD i tm0).key < (l.getD j tm0).key := by
  have := List.pairwise_iff_getElem.1 h i j (by omega) hj hij
  simpa [List.getD_eq_getElem?_getD, List.getElem?_eq_getElem hj, List.getElem?_eq_getElem (show i < l.length by omega)] using this
theorem at_of {l : List Tm} (h : KeysUp l) {key : Int} {k : Nat} (hk : k ≤ l.length) (h1 : k = 0 ∨ decide (key ≤ (l.getD (k - 1) tm0).key) = false) (h2 : k = l.length ∨ decide (key ≤ (l.getD k tm0).key) = true) : AtKey l key k := by
  refine ⟨hk, fun i hi => ?_, fun i hi hl => ?_⟩
  · rcases h1 with h1 | h1
    · omega
    · have h1' := of_decide_eq_false h1
      by_cases e : i = k - 1
      · subst e; omega
      · have := up_le h i (k - 1) (by omega) (by omega); omega
  · rcases h2 with h2 | h2
    · omega
    · have h2' := of_decide_eq_true h2
      by_cases e : i = k
      · subst e; exact h2'
      · have := up_le h k i (by omega) hl; omega
set_option maxHeartbeats 1000000 in
theorem ask_key (b1 b2 g : Nat) (A : Option Addr) (n c : Nat) (l : List Tm) (key : Int) (i : Nat) (W : World) (hn : l.length = n) (hi : i < n) (h1 : W.cell? ⟨b1, 0, none⟩ = some (.pointer (some ⟨g, 0, none⟩))) (h2 : W.cell? ⟨b2, 0, none⟩ = some (.int .i64 key))
    (hg : W.cell? ⟨g, 0, none⟩ = some (.slice A n c)) (hA : TmAt W W.heap.size A l) :
    Calls Try.prog 56 (#[.int .i64 i] ++ #[.pointer (some ⟨b1, 0, none⟩), .pointer (some ⟨b2, 0, none⟩)]) W fun e w' => e = .returned (.bool (decide (key ≤ (l.getD i tm0).key))) ∧ ∃ q, w' = W.drewN q := by
  obtain ⟨b, off, rfl, _, _, p1⟩ := hA i (by omega)
  obtain ⟨x, hx⟩ : ∃ x, (l.getD i tm0).key = x := ⟨_, rfl⟩
  rw [hx] at p1 ⊢
  have hi1 : (i : Int) < n := by omega
  have hi0 : (0 : Int) ≤ i := by omega
  clear hA hx hn
  go_enter Try.func56, Try.ntmps56
  go_wp2_with fail
  go_quiet (fail)
  go_wp2_with fail
  go_ret
  exact ⟨rfl, nq, rfl⟩
theorem eg_key : ∀ args w, (callFunc 56 args).run Try.prog w = .ok (.enter 56 args) w := enters_of Try.func56 (by kernel_rfl) rfl
set_option maxHeartbeats 2000000 in
theorem find_any (g : Nat) (l : List Tm) (key : Int) (w : World) (h : WheelAt w g l) :
    Calls Try.prog 39 #[.pointer (some ⟨g, 0, none⟩), .int .i64 key] w fun e w' => ∃ k : Nat, AtKey l key k ∧ e = .returned (.tuple #[.int .i64 (k : Int), .bool (decide (k < l.length ∧ (l.getD k tm0).key = key))]) ∧ Below w.heap.size w w' := by
  obtain ⟨⟨A, c, hb, ho⟩, hup, hfew⟩ := h
  have hA := ho.at_
  have e1 : ((w.alloc (.cells #[.pointer (some ⟨g, 0, none⟩)] 24))).heap.size = w.heap.size + 1 := by simp
  have z1 := (Blk.new w 24 #[.pointer (some ⟨g, 0, none⟩)]).alloc (.cells #[.int .i64 key] 3)
  have z2 := Blk.new (w.alloc (.cells #[.pointer (some ⟨g, 0, none⟩)] 24)) 3 #[.int .i64 key]
  rw [e1] at z2
  have zg := (hb.alloc (.cells #[.pointer (some ⟨g, 0, none⟩)] 24)).alloc (.cells #[.int .i64 key] 3)
  have bel := bel_alloc2 w (.cells #[.pointer (some ⟨g, 0, none⟩)] 24) (.cells #[.int .i64 key] 3)
  have hA2 := (hA.below bel).more bel.size
  obtain ⟨n, hn⟩ : ∃ n, l.length = n := ⟨_, rfl⟩
  rw [hn] at hb zg
  obtain ⟨W, hW⟩ : ∃ W, (w.alloc (.cells #[.pointer (some ⟨g, 0, none⟩)] 24)).alloc (.cells #[.int .i64 key] 3) = W := ⟨_, rfl⟩
  rw [hW] at z1 z2 zg bel hA2
  have hS := search_any 56 #[.pointer (some ⟨w.heap.size, 0, none⟩), .pointer (some ⟨w.heap.size + 1, 0, none⟩)] n (fun i => decide (key ≤ (l.getD i tm0).key)) W eg_key (by omega)
    (fun m i hi => ask_key w.heap.size (w.heap.size + 1) g A n c l key i _ hn hi (z1.cell 0) (z2.cell 0) (zg.cell 0) hA2)
  rw [← hW] at hS
  have HS := Lib.hid (show Calls _ _ _ _ _ = True from eq_true hS)
  have y1 := z1.cell 0
  have y2 := z2.cell 0
  have y3 := zg.cell 0
  have HY := Lib.hid (And.intro bel (And.intro hA2 hn))
  have kg : w.cell? ⟨g, 0, none⟩ = some (.slice A n c) := hb.cell 0
  rw [← hW] at y3
  have HW := Lib.hid hW
  clear hS z1 z2 zg bel hA2 hA hb ho hW e1 hn
  go_enter Try.func39, Try.ntmps39
  go_wp2_with fail
  refine (of_eq_true HS.out).mono ?_
  rintro e w' ⟨k, q, rfl, rfl, hk, hlo, hhi⟩
  rw [HW.out]
  have HAT := Lib.hid (at_of hup (by rw [HY.out.2.2]; exact hk) hlo (by rw [HY.out.2.2]; exact hhi))
  rw [HW.out] at y3
  have HB := Lib.hid (bel_drewN HY.out.1 q)
  clear hlo hhi
  by_cases hkn : k < n
  · obtain ⟨b, off, rfl, _, _, p1⟩ := HY.out.2.1 k (by rw [HY.out.2.2]; exact hkn)
    obtain ⟨x, hx⟩ : ∃ x, (l.getD k tm0).key = x := ⟨_, rfl⟩
    rw [hx] at p1
    have d1 : (k : Int) < n := by omega
    have d0 : (0 : Int) ≤ k := by omega
    have d2 : decide ((k : Int) < n) = true := decide_eq_true d1
    have r1 : (W.drewN q).cell? ⟨b, off + k * 2 + 1, none⟩ = some (.int .i64 x) := p1
    have r2 : (W.drewN q).cell? ⟨w.heap.size, 0, none⟩ = some (.pointer (some ⟨g, 0, none⟩)) := y1
    have r3 : (W.drewN q).cell? ⟨w.heap.size + 1, 0, none⟩ = some (.int .i64 key) := y2
    have r4 : (W.drewN q).cell? ⟨g, 0, none⟩ = some (.slice (some ⟨b, off, none⟩) n c) := y3
    have HE : Hid (decide (k < l.length ∧ (l.getD k tm0).key = key) = (x == key)) := Lib.hid (by
      rw [HY.out.2.2, hx]
      by_cases e : x = key
      · subst e; simp [hkn]
      · simp [hkn, e])
    have HK := Lib.hid hkn
    clear p1 hx hkn y1 y2 y3 kg hk
    obtain ⟨W2, hW2⟩ : ∃ W2, W.drewN q = W2 := ⟨_, rfl⟩
    rw [hW2] at r1 r2 r3 r4 HB ⊢
    clear hW2
    go_wp2_with fail
    go_quiet (fail)
    go_wp2_with fail
    go_ret2
    exact ⟨k, HAT.out, by rw [HE.out]; rfl, bel_drewN HB.out nq⟩
  · obtain rfl : k = n := by omega
    have d2 : decide ((k : Int) < k) = false := decide_eq_false (by omega)
    have r2 : (W.drewN q).cell? ⟨w.heap.size, 0, none⟩ = some (.pointer (some ⟨g, 0, none⟩)) := y1
    have r3 : (W.drewN q).cell? ⟨w.heap.size + 1, 0, none⟩ = some (.int .i64 key) := y2
    have r4 : (W.drewN q).cell? ⟨g, 0, none⟩ = some (.slice A k c) := y3
    have HE : Hid (decide (k < l.length ∧ (l.getD k tm0).key = key) = false) := Lib.hid (decide_eq_false (by rw [HY.out.2.2]; omega))
    clear hkn y1 y2 y3 kg hk
    obtain ⟨W2, hW2⟩ : ∃ W2, W.drewN q = W2 := ⟨_, rfl⟩
    rw [hW2] at r2 r3 r4 HB ⊢
    clear hW2
    go_wp2_with fail
    go_quiet (fail)
    go_wp2_with fail
    go_ret2
    exact ⟨k, HAT.out, by rw [HE.out]; rfl, bel_drewN HB.out nq⟩
end Go.Proofs.Ytogghcbijdljkaa
