/- Two parts side by side, the one of all networks, the other of one. No condition. -/
import Derived.Test.YthghedlgeceepaaPmAlive
import Derived.Test.YthghedlgeceepaaPmSteps
import Derived.Test.YthghedlgeceepaaPyApart
namespace Go.Proofs.Ythghedlgeceepaa
open Go.RowKit
set_option maxRecDepth 100000

structure Pair (w0 wr : World) (ga gb : Nat) (pa pb : Py) (jl : List Int) (Fa Fb : Nat → Prop) : Prop where
  a : PyF wr w0.heap.size ga pa jl Fa
  b : PyF wr w0.heap.size gb pb jl Fb
  dj : ∀ k, Fa k → ¬ Fb k
  bel : Below w0.heap.size w0 wr
section
variable {w0 wr w' : World} {ga gb : Nat} {pa pb p' : Py} {jl : List Int} {Fa Fb F' : Nat → Prop}
theorem Pair.swap (h : Pair w0 wr ga gb pa pb jl Fa Fb) : Pair w0 wr gb ga pb pa jl Fb Fa := ⟨h.b, h.a, fun k hb ha => h.dj k ha hb, h.bel⟩
theorem Pair.below (h : Pair w0 wr ga gb pa pb jl Fa Fb) (hb : Below wr.heap.size wr w') : Pair w0 w' ga gb pa pb jl Fa Fb :=
  ⟨h.a.keep (below_touch hb fun _ => False) fun _ _ => id, h.b.keep (below_touch hb fun _ => False) fun _ _ => id, h.dj, h.bel.trans (hb.mono h.bel.size)⟩
theorem Pair.act (h : Pair w0 wr ga gb pa pb jl Fa Fb) (ha : PyF w' w0.heap.size ga p' jl F') (hF : ∀ k, F' k → Fa k ∨ wr.heap.size ≤ k) (ht : Touch Fa wr w') : Pair w0 w' ga gb p' pb jl F' Fb :=
  ⟨ha, h.b.keep ht fun k hk hc => h.dj k hc hk, fun k hk hb => (hF k hk).elim (fun hk => h.dj k hk hb) (fun hk => by have := (h.b.lt k hb).2; omega), h.bel.trans (ht.below h.bel.size fun k hk => (h.a.lt k hk).1)⟩
theorem Pair.grow (h : Pair w0 wr ga gb pa pb jl Fa Fb) (ha : PyF w' w0.heap.size ga p' jl (grow Fa wr w')) (ht : Touch Fa wr w') : Pair w0 w' ga gb p' pb jl (grow Fa wr w') Fb :=
  h.act ha (fun _ hk => hk.imp id fun hk => hk.1) ht
theorem Pair.same (h : Pair w0 wr ga gb pa pb jl Fa Fb) (ha : PyF w' w0.heap.size ga p' jl Fa) (ht : Touch Fa wr w') : Pair w0 w' ga gb p' pb jl Fa Fb :=
  h.act ha (fun _ => .inl) ht
end
/-- How both stand between two steps. -/
def ApartAt (W wr : World) (ga gb : Nat) (jl : List Int) (v T : Int) : Prop := ∃ p q Fa Fb, Pair W wr ga gb p q jl Fa Fb ∧ PyOk T p ∧ Apart v p q
theorem ApartAt.below {W wr w' : World} {ga gb : Nat} {jl : List Int} {v T : Int} (h : ApartAt W wr ga gb jl v T) (hb : Below wr.heap.size wr w') : ApartAt W w' ga gb jl v T := by
  obtain ⟨p, q, Fa, Fb, h1, h2, h3⟩ := h
  exact ⟨p, q, Fa, Fb, h1.below hb, h2, h3⟩
theorem Apart.tidyq {v : Int} {p q : Py} (h : Apart v p q) : TidyOk q := fun s hs => by
  rw [h.l] at hs
  exact h.tidy s (List.mem_filter.1 hs).1
theorem wantW_eq {T : Int} {p : Py} (h : PyOk T p) (htd : TidyOk p) (hT : 0 ≤ T) (t v b : Int) (n : Bool) : wantW p t v b n = if attrB t v = true ∧ b ≤ 1048576 then wantP p t v b n else p := by
  unfold wantW
  split
  · rename_i c
    exact want_is h hT htd (of_decide_eq_true c.1) b n
  · rfl
theorem Apart.wantW {v T : Int} {p q : Py} (h : Apart v p q) (hp : PyOk T p) (hT : 0 ≤ T) {x : Int} (hx : 1 ≤ x ∧ x ≤ 15) (b : Int) (n : Bool) :
    PyOk T (wantW p 1 x b n) ∧ (x ≠ v → Apart v (wantW p 1 x b n) q) ∧ (x = v → Apart v (wantW p 1 x b n) (wantW q 1 x b n)) := by
  rw [wantW_eq hp h.tidy hT, wantW_eq (h.ok hp) h.tidyq hT]
  by_cases c : attrB 1 x = true ∧ b ≤ 1048576
  · rw [if_pos c, if_pos c]
    exact ⟨hp.want hT (of_decide_eq_true c.1) c.2, h.want hp hx b n⟩
  · rw [if_neg c, if_neg c]
    exact ⟨hp, fun _ => h, fun _ => h⟩
theorem Apart.hearQ {v T : Int} {p q : Py} (h : Apart v p q) (hp : PyOk T p) (hT : 0 ≤ T) {x : Int} (hx : 1 ≤ x ∧ x ≤ 15) (e b : Int) :
    PyOk T (hearQ p ⟨[], [⟨1, x, e, b⟩]⟩ T) ∧ (x ≠ v → Apart v (hearQ p ⟨[], [⟨1, x, e, b⟩]⟩ T) q) ∧ (x = v → Apart v (hearQ p ⟨[], [⟨1, x, e, b⟩]⟩ T) (hearQ q ⟨[], [⟨1, x, e, b⟩]⟩ T)) := by
  unfold Go.Proofs.Ythghedlgeceepaa.hearQ
  by_cases c : Msg.goodB ⟨[], [⟨1, x, e, b⟩]⟩ = true
  · rw [if_pos c, if_pos c]
    exact ⟨hp.hear hT (of_decide_eq_true c), h.hear hp hx e b T⟩
  · rw [if_neg c, if_neg c]
    exact ⟨hp, fun _ => h, fun _ => h⟩
theorem word_at {V : World} {b : Nat} {x e c : Int} (hl : b < V.heap.size) (h : V.cell? ⟨b, 0, none⟩ = some (.int .i64 1) ∧ V.cell? ⟨b, 1, none⟩ = some (.int .i64 x) ∧ V.cell? ⟨b, 2, none⟩ = some (.int .i64 e) ∧ V.cell? ⟨b, 3, none⟩ = some (.int .i64 c)) : WordsAt V V.heap.size (some ⟨b, 0, none⟩) [⟨1, x, e, c⟩] := fun k hk => by
  obtain rfl : k = 0 := by simp only [List.length_cons, List.length_nil] at hk; omega
  exact ⟨b, 0, rfl, hl, h⟩
theorem ints_none (V : World) (B : Nat) (A : Option Addr) : IntsAt V B A [] := fun _ hk => absurd hk (Nat.not_lt_zero _)
theorem low_touch' {wr V : World} {F : Nat → Prop} {B : Nat} (t : Touch F wr V) (h : ∀ k, F k → ¬ k < B) (hB : B ≤ wr.heap.size) : Below B wr V := t.below hB fun k hk => by have := h k hk; omega
end Go.Proofs.Ythghedlgeceepaa
