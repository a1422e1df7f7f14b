/- The statement FdbDoes, plain: a table of the program beside the document's. Its condition: the program's contracts. -/
import Derived.Test.YtocahiifeckogaaFbApart
namespace Go.Proofs.Ytocahiifeckogaa
open Go.RowKit
set_option maxRecDepth 100000

section
variable {Pt : World → Nat → (Nat → Prop) → Nat → Dt → Prop}
/-- What the first rounds keep. -/
def DoR (Pt : World → Nat → (Nat → Prop) → Nat → Dt → Prop) (w : World) (g gm : Nat) (wr : World) : Prop :=
  ∃ (Ft Fm : Nat → Prop) (s d : Dt) (A : Option Addr) (c : Nat), Pt wr w.heap.size Ft g s ∧ DtAt wr w.heap.size Fm gm d A c ∧ (∀ q, Ft q → ¬ Fm q) ∧ Rel s d ∧ Few s ∧ Below w.heap.size w wr
theorem duo_new (H : FdbIs Pt) {w w3 : World} {B gt : Nat} (p3 : Pt w3 B (grow noF w w3) gt ⟨[], 0⟩) :
    Pt (w3.alloc (.cells #[.slice none 0 0, .int .i64 0] 30)) B (grow noF w w3) gt ⟨[], 0⟩ ∧ DtAt (w3.alloc (.cells #[.slice none 0 0, .int .i64 0] 30)) B (· = w3.heap.size) w3.heap.size ⟨[], 0⟩ none 0 ∧ ∀ q, grow noF w w3 q → ¬ (q = w3.heap.size) := by
  have bx := bel_alloc w3 (.cells #[.slice none 0 0, .int .i64 0] 30)
  have l3 := (H.lo p3).2
  have hB : B ≤ w3.heap.size := by
    have h1 := (H.lo p3).1
    have h2 := l3 _ h1
    omega
  refine ⟨H.keep p3 (below_touch bx noF) (fun _ h => h.elim), dt_new w3 B hB, fun q hq e => ?_⟩
  have := (l3 q hq).2
  omega
/-- Behind a call on both: the failures. -/
theorem hb_after (H : FdbIs Pt) {w w5 : World} {B g gm : Nat} {Ft Fm : Nat → Prop} {s d : Dt} {f : Int} (hsd : s.f = d.f) (hf : d.f = f) (hb : Both Pt w w5 B Ft Fm g gm s d) :
    gm < w5.heap.size ∧ (Calls Try.prog 10 #[.pointer (some ⟨g, 0, none⟩)] w5 fun e w' => e = .returned (.int .i64 f) ∧ Below w5.heap.size w5 w') ∧ w5.cell? ⟨gm, 1, none⟩ = some (.int .i64 f) := by
  obtain ⟨Ft', Fm', A', c', p5, d5, dis5, t5, i5, j5⟩ := hb
  have h := H.fails p5
  rw [hsd, hf] at h
  have hc := d5.blk.cell 1
  exact ⟨d5.blk.lt, h, by rw [← hf]; exact hc⟩
theorem srt_lt {l : List Pl} (h : Srt l) {i j : Nat} (hij : i < j) (hj : j < l.length) : ltK (l.getD i pl0) (l.getD j pl0) := by
  have hi : i < l.length := by omega
  have := List.pairwise_iff_getElem.1 h i j hi hj hij
  simpa [List.getD, List.getElem?_eq_getElem hi, List.getElem?_eq_getElem hj] using this
/-- Where the document has what the program has. -/
theorem rel_at {s d : Dt} (h : Rel s d) {i : Nat} (hi : i < s.l.length) : ∃ k : Nat, k < d.l.length ∧ ixI (s.l.getD i pl0).v (s.l.getD i pl0).m d.l = (k : Int) ∧ d.l.getD k pl0 = s.l.getD i pl0 := by
  have hs : ixP (s.l.getD i pl0).v (s.l.getD i pl0).m s.l = some i := ixP_at hi ⟨rfl, rfl⟩ (fun k hk c => by
    have := srt_lt h.srt hk hi
    have c1 := c.1
    have c2 := c.2
    unfold ltK at this
    omega)
  rcases h.ix (s.l.getD i pl0).v (s.l.getD i pl0).m with ⟨h1, _⟩ | ⟨i', k, h1, h2, e⟩
  · rw [hs] at h1
    cases h1
  · rw [hs] at h1
    injection h1 with h1
    subst h1
    exact ⟨k, (ixP_some h2).1, by unfold ixI; rw [h2], e.symm⟩
end
end Go.Proofs.Ytocahiifeckogaa
