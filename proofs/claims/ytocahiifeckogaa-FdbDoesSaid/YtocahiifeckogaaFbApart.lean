/- The statement FdbApart, plain: two tables of the program side by side with the document's. Its condition: the program's contracts. -/
import Derived.Test.YtocahiifeckogaaFBound
namespace Go.Proofs.Ytocahiifeckogaa
open Go.RowKit
set_option maxRecDepth 100000

section
variable {Pt : World → Nat → (Nat → Prop) → Nat → Dt → Prop}
/-- Three tables side by side. -/
structure Trio (Pt : World → Nat → (Nat → Prop) → Nat → Dt → Prop) (w : World) (B : Nat) (gt gu gm : Nat) (Ft Fu Fm : Nat → Prop) (s u d : Dt) (A : Option Addr) (c : Nat) : Prop where
  pt : Pt w B Ft gt s
  pu : Pt w B Fu gu u
  dm : DtAt w B Fm gm d A c
  tu : ∀ q, Ft q → ¬ Fu q
  tm : ∀ q, Ft q → ¬ Fm q
  um : ∀ q, Fu q → ¬ Fm q
theorem Trio.below (H : FdbIs Pt) {w w' : World} {B gt gu gm : Nat} {Ft Fu Fm : Nat → Prop} {s u d : Dt} {A : Option Addr} {c : Nat} (h : Trio Pt w B gt gu gm Ft Fu Fm s u d A c) (hb : Below w.heap.size w w') : Trio Pt w' B gt gu gm Ft Fu Fm s u d A c :=
  ⟨H.keep h.pt (below_touch hb noF) (fun _ hq => hq.elim), H.keep h.pu (below_touch hb noF) (fun _ hq => hq.elim), h.dm.below hb, h.tu, h.tm, h.um⟩
/-- Behind a call on the first and the document's. -/
theorem Trio.first (H : FdbIs Pt) {w w' : World} {B gt gu gm : Nat} {Ft Fu Fm : Nat → Prop} {s u d s' d' : Dt} {A : Option Addr} {c : Nat} (h : Trio Pt w B gt gu gm Ft Fu Fm s u d A c) (hb : Both Pt w w' B Ft Fm gt gm s' d') :
    ∃ (Ft' Fm' : Nat → Prop) (A' : Option Addr) (c' : Nat), Trio Pt w' B gt gu gm Ft' Fu Fm' s' u d' A' c' ∧ Touch (fun k => Ft k ∨ Fm k) w w' := by
  obtain ⟨Ft', Fm', A', c', p, d2, dis, t, ht, hm⟩ := hb
  refine ⟨Ft', Fm', A', c', ⟨p, H.keep h.pu t ?_, d2, ?_, dis, ?_⟩, t⟩
  · rintro k (hk | hk) hu
    · exact h.tu k hk hu
    · exact h.um k hu hk
  · intro k hk hu
    rcases ht k hk with h1 | h1
    · exact h.tu k h1 hu
    · have := ((H.lo h.pu).2 k hu).2
      omega
  · intro k hu hk
    rcases hm k hk with h1 | h1
    · exact h.um k hu h1
    · have := ((H.lo h.pu).2 k hu).2
      omega
/-- Behind a call on the second, and on a table of the document's that nobody keeps. -/
theorem Trio.second (H : FdbIs Pt) {w w' : World} {B gt gu gm g0 : Nat} {Ft Fu Fm : Nat → Prop} {s u d u' d' : Dt} {A : Option Addr} {c : Nat} (h : Trio Pt w B gt gu gm Ft Fu Fm s u d A c) {V : World} (hV : Below w.heap.size w V) (h0 : g0 = w.heap.size) (hb : Both Pt V w' B Fu (· = g0) gu g0 u' d') :
    ∃ (Fu' : Nat → Prop), Trio Pt w' B gt gu gm Ft Fu' Fm s u' d A c ∧ Touch (fun k => Fu k ∨ w.heap.size ≤ k) w w' := by
  obtain ⟨Fu', F0, A', c', p, d2, dis, t, hu, hm⟩ := hb
  have hts := (H.lo h.pt).2
  have hms := h.dm.lo
  have hvs := hV.size
  have dt : ∀ k, (Fu k ∨ k = g0) → ¬ Ft k := by
    rintro k (hk | hk) c
    · exact h.tu k c hk
    · have := (hts k c).2
      omega
  have dm : ∀ k, (Fu k ∨ k = g0) → ¬ Fm k := by
    rintro k (hk | hk) c
    · exact h.um k hk c
    · have := (hms k c).2
      omega
  have hh := h.below H hV
  refine ⟨Fu', ⟨H.keep hh.pt t dt, p, hh.dm.keep t dm, ?_, h.tm, ?_⟩, (below_touch hV _).trans (t.mono ?_)⟩
  · intro k hk hc
    rcases hu k hc with h1 | h1
    · exact h.tu k hk h1
    · have := (hts k hk).2
      omega
  · intro k hc hk
    rcases hu k hc with h1 | h1
    · exact h.um k h1 hk
    · have := (hms k hk).2
      omega
  · rintro k _ (hk | hk)
    · exact .inl hk
    · exact .inr (by omega)
/-- What the statement's rounds keep. -/
def ApR (Pt : World → Nat → (Nat → Prop) → Nat → Dt → Prop) (w : World) (vid : Int) (gt gu gm : Nat) (wr : World) : Prop :=
  ∃ (Ft Fu Fm : Nat → Prop) (s u d : Dt) (A : Option Addr) (c : Nat), Trio Pt wr w.heap.size gt gu gm Ft Fu Fm s u d A c ∧ Rel s d ∧ Part vid s u ∧ Few s ∧ Few u ∧ s.l.length < 24 ∧ Below w.heap.size w wr
theorem rel_nil : Rel ⟨[], 0⟩ ⟨[], 0⟩ := ⟨srt_nil, List.Perm.refl _, rfl⟩
theorem part_nil (vid : Int) : Part vid ⟨[], 0⟩ ⟨[], 0⟩ := ⟨srt_nil, rfl⟩
/-- Two new tables, and a new one of the document's. -/
theorem trio_new (H : FdbIs Pt) {w w3 w4 : World} {B gt gu : Nat} (p3 : Pt w3 B (grow noF w w3) gt ⟨[], 0⟩) (b4 : Below w3.heap.size w3 w4) (p4 : Pt w4 B (grow noF w3 w4) gu ⟨[], 0⟩) :
    ∃ Fu, Trio Pt (w4.alloc (.cells #[.slice none 0 0, .int .i64 0] 30)) B gt gu w4.heap.size (grow noF w w3) Fu (· = w4.heap.size) ⟨[], 0⟩ ⟨[], 0⟩ ⟨[], 0⟩ none 0 := by
  have bx := bel_alloc w4 (.cells #[.slice none 0 0, .int .i64 0] 30)
  have l3 := (H.lo p3).2
  have l4 := (H.lo p4).2
  have hs := b4.size
  have hB : B ≤ w4.heap.size := by
    have h1 := (H.lo p4).1
    have h2 := l4 _ h1
    omega
  refine ⟨grow noF w3 w4, H.keep (H.keep p3 (below_touch b4 noF) (fun _ h => h.elim)) (below_touch bx noF) (fun _ h => h.elim), H.keep p4 (below_touch bx noF) (fun _ h => h.elim), dt_new w4 B hB, ?_, ?_, ?_⟩
  · intro q h1 h2
    have := (l3 q h1).2
    rcases h2 with h2 | h2
    · exact h2.elim
    · omega
  · intro q h1 h2
    have := (l3 q h1).2
    have : q = w4.heap.size := h2
    omega
  · intro q h1 h2
    have := (l4 q h1).2
    have : q = w4.heap.size := h2
    omega
end
end Go.Proofs.Ytocahiifeckogaa
