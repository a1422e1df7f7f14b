/- Draws that stay where they lie; the times between two askings for all. Its condition: at most 2^20 numbers. -/
import Derived.Test.YthghedlgeceepaaWdraw
namespace Go.Proofs.Ythghedlgeceepaa
open Go.RowKit
set_option maxRecDepth 100000

/-- Draws in block g, the numbers in a row that is known. -/
structure DrawOf (w : World) (g : Nat) (A : Option Addr) (c : Nat) (l : List Int) (k : Nat) : Prop where
  blk : Blk w g 89 #[.slice A l.length c, .int .i64 k]
  own : OwnN w 0 A c l
  at_ : k < l.length ∨ l = [] ∧ k = 0
  few : l.length ≤ 1048576
theorem DrawAt.of {w : World} {g : Nat} {l : List Int} {k : Nat} (h : DrawAt w g l k) : ∃ A c, DrawOf w g A c l k := by
  obtain ⟨⟨A, c, h1, h2⟩, h3, h4⟩ := h
  exact ⟨A, c, h1, h2, h3, h4⟩
theorem DrawOf.keep {w w' : World} {g : Nat} {A : Option Addr} {c : Nat} {l : List Int} {k : Nat} (h : DrawOf w g A c l k) {p : Nat → Prop} (ht : Touch p w w') (hg : ¬ p g) (hr : ∀ b, (Value.slice A 0 0).ownBlock = some b → ¬ p b) : DrawOf w' g A c l k :=
  ⟨h.blk.touch ht hg, own_heap h.own fun b hb => ht.block b (World.ownsRow.lt h.own b hb).2 (hr b (by rw [← hb]; cases A <;> rfl)), h.at_, h.few⟩
set_option maxHeartbeats 4000000 in
theorem next_of (g : Nat) (A : Option Addr) (c : Nat) (l : List Int) (k : Nat) (b : Int) (w : World) (h : DrawOf w g A c l k) (hb : ¬ b < 1) (hb2 : b < 9223372036854775808) :
    Calls Try.prog 48 #[.pointer (some ⟨g, 0, none⟩), .int .i64 b] w fun e w' => e = .returned (.int .i64 (nextV l k b)) ∧ DrawOf w' g A c l (nextK l k b) ∧ Touch (fun j => j = g) w w' := by
  have d : decide (b < 1) = false := decide_eq_false hb
  obtain ⟨hbk, ho, hat, hfew⟩ := h
  have c0 : w.cell? ⟨g, 0, none⟩ = some (.slice A l.length c) := hbk.cell 0
  have c1 : w.cell? ⟨g, 1, none⟩ = some (.int .i64 k) := hbk.cell 1
  rcases hat with hk | ⟨rfl, rfl⟩
  · obtain ⟨gA, rfl, hlA, hcA⟩ := own_at ho (by omega)
    have q0 : w.cell? ⟨gA, k, none⟩ = some (.int .i64 (l.getD k 0)) := hcA k _ (by
      unfold numL
      rw [List.getElem?_map, List.getElem?_eq_getElem hk, List.getD_eq_getElem?_getD, List.getElem?_eq_getElem hk]; rfl)
    have f1 : w.frozen? ⟨g, 1, none⟩ = false := hbk.frozen 1
    obtain ⟨n, hnn⟩ : ∃ n, l.length = n := ⟨_, rfl⟩
    obtain ⟨x, hx⟩ : ∃ x, l.getD k 0 = x := ⟨_, rfl⟩
    rw [hnn] at c0
    rw [hx] at q0
    have k0 : (0 : Int) ≤ k := by omega
    have k1 : (k : Int) < n := by omega
    have n0 : ¬ (n : Int) = 0 := by omega
    have e0 : decide ((n : Int) = 0) = false := decide_eq_false n0
    have HX := Lib.hid (And.intro hnn (And.intro hx (And.intro hbk (And.intro ho (And.intro hfew hk)))))
    have jw : wrap64 ((k : Int) + 1) = (k : Int) + 1 := IntWalk.wrap64_in _ (by omega)
    clear hnn hx hbk ho hfew hk hcA hlA
    go_enter Try.func48, Try.ntmps48
    go_wp2_with fail
    go_quiet (fail)
    rename_i nq K1 aK1
    have c0' : (w.drewN nq).cell? ⟨g, 0, none⟩ = some (.slice (some ⟨gA, 0, none⟩) n c) := c0
    have c1' : (w.drewN nq).cell? ⟨g, 1, none⟩ = some (.int .i64 k) := c1
    have f1' : (w.drewN nq).frozen? ⟨g, 1, none⟩ = false := f1
    have hw : ∃ q, w.drewN nq = w.drewN q := ⟨_, rfl⟩
    generalize w.drewN nq = w1 at c0' c1' f1' hw ⊢
    have HW := Lib.hid hw
    clear c0 c1 f1 q0 hw
    go_wp2_with fail
    go_big_region
    go_wp2_with fail
    obtain ⟨hnn, hx, hbk, ho, hfew, hk⟩ := HX.out
    obtain ⟨q, rfl⟩ := HW.out
    have hl0 : l ≠ [] := fun e => by subst e; exact absurd hk (Nat.not_lt_zero _)
    have hcast : (((k + 1) % n : Nat) : Int) = ((k : Int) + 1) % (n : Int) := by
      rw [Int.natCast_emod]; rfl
    have hv : wrap64 ((IntKind.u64.wrap x).tmod b) = nextV l k b := by
      unfold nextV
      have hu : 0 ≤ IntKind.u64.wrap x := by rw [IntKind.wrap_u64]; exact Int.emod_nonneg _ (by decide)
      have h1 := Int.emod_nonneg (IntKind.u64.wrap x) (show b ≠ 0 by omega)
      have h2 := Int.emod_lt_of_pos (IntKind.u64.wrap x) (show 0 < b by omega)
      rw [if_neg (fun e => e.elim (by omega) hl0), hx, Int.tmod_eq_emod_of_nonneg hu]
      exact IntWalk.wrap64_in _ (by omega)
    have hkk : nextK l k b = (k + 1) % n := by
      unfold nextK
      rw [if_neg (fun e => e.elim (by omega) hl0), hnn]
    have hset : Blk ((w.drewN q).setCell ⟨g, 1, none⟩ (.int .i64 (((k : Int) + 1) % (n : Int)))) g 89 #[.slice (some ⟨gA, 0, none⟩) l.length c, .int .i64 (((k : Int) + 1) % (n : Int))] := Blk.set_ (show Blk (w.drewN q) g _ _ from hbk) 1 _
    have hon : OwnN ((w.drewN q).setCell ⟨g, 1, none⟩ (.int .i64 (((k : Int) + 1) % (n : Int)))) 0 (some ⟨gA, 0, none⟩) c l :=
      ownsRow_setCell_other (a := ⟨g, 1, none⟩) (show OwnN (w.drewN q) 0 _ c l from ho) (own_ne ho hbk (by decide)) _
    have hfin : DrawOf (((w.drewN q).setCell ⟨g, 1, none⟩ (.int .i64 (((k : Int) + 1) % (n : Int)))).drew) g (some ⟨gA, 0, none⟩) c l (nextK l k b) := by
      rw [hkk]
      refine ⟨?_, hon, .inl (by rw [hnn]; exact Nat.mod_lt _ (by omega)), hfew⟩
      rw [hcast]
      exact hset
    rw [hv]
    have HFI := Lib.hid hfin
    clear hfin hset hon hkk hv hcast HX HW hbk ho hx hnn
    go_ret
    exact ⟨rfl, HFI.out, ((((Touch.refl (fun j => j = g) w).drewN q).set_ (a := ⟨g, 1, none⟩) (fun _ => rfl) _).drew)⟩
  · go_enter Try.func48, Try.ntmps48
    go_wp2_with fail
    go_ret
    have ek : nextK [] 0 b = 0 := by simp [nextK]
    rw [ek]
    exact ⟨by simp [nextV], ⟨hbk, ho, .inr ⟨rfl, rfl⟩, hfew⟩, Touch.refl _ _⟩
set_option maxHeartbeats 4000000 in
theorem jitter_of (g : Nat) (A : Option Addr) (c : Nat) (l : List Int) (k : Nat) (n x : Int) (w : World) (h : DrawOf w g A c l k) (hx : min (max n 0) 1048576 = x) :
    Calls Try.prog 23 #[.pointer (some ⟨g, 0, none⟩), .int .i64 n] w fun e w' => e = .returned (.int .i64 (x + nextV l k (x / 2 + 1))) ∧ DrawOf w' g A c l (nextK l k (x / 2 + 1)) ∧ Touch (fun j => j = g) w w' := by
  have h0 : 0 ≤ x ∧ x ≤ 1048576 := by omega
  have HN := Lib.hid (next_of g A c l k (x / 2 + 1) w h (by omega) (by omega))
  have HX := Lib.hid hx
  have HV := Lib.hid (And.intro h0 (nextV_in l k (x / 2 + 1) (by omega)))
  clear hx h h0
  go_enter Try.func23, Try.ntmps23
  go_wp2_with fail
  rw [HX.out]
  refine HN.out.mono ?_
  rintro e w1 ⟨rfl, hd, ht⟩
  have HD := Lib.hid (And.intro hd ht)
  clear hd ht
  have HW := Lib.hid (show wrap64 (x + nextV l k (x / 2 + 1)) = x + nextV l k (x / 2 + 1) from IntWalk.wrap64_in _ (by have := HV.out; omega))
  generalize hv : nextV l k (x / 2 + 1) = v at *
  have HE := Lib.hid hv
  clear hv
  go_wp2_with fail
  try rw [HX.out]
  try rw [HW.out]
  go_ret
  exact ⟨by rw [HE.out]; rfl, HD.out.1, HD.out.2⟩
/-- The place when n times are drawn; the n-th time. -/
def placeD (l : List Int) : Nat → Nat
  | 0 => 0
  | n + 1 => nextK l (placeD l n) 31
def jitD (l : List Int) (n : Nat) : Int := 60 + nextV l (placeD l n) 31
theorem jitD_in (l : List Int) (n : Nat) : 60 ≤ jitD l n ∧ jitD l n < 91 := by
  have := nextV_in l (placeD l n) 31 (by decide)
  unfold jitD
  omega
theorem jit_of (g : Nat) (A : Option Addr) (c : Nat) (l : List Int) (n : Nat) (w : World) (h : DrawOf w g A c l (placeD l n)) :
    Calls Try.prog 23 #[.pointer (some ⟨g, 0, none⟩), .int .i64 60] w fun e w' => e = .returned (.int .i64 (jitD l n)) ∧ DrawOf w' g A c l (placeD l (n + 1)) ∧ Touch (fun j => j = g) w w' :=
  jitter_of g A c l (placeD l n) 60 60 w h (by decide)
end Go.Proofs.Ythghedlgeceepaa
