/- A message about attributes that came in as an argument: its types and its words, as they lie. No condition. -/
import Derived.Test.YthghedlgeceepaaFrame
import Derived.Test.YthghedlgeceepaaMrMem
import Derived.Lib.SmallJoins
import Derived.Deep.Slices
namespace Go.Proofs.Ythghedlgeceepaa
open Go.Joins Go.ChangeShapes Go.WideShapes Go.RowKit Go.Deep
set_option maxRecDepth 100000

/-- The four cells of a word. -/
def WdAt (w : World) (a : Addr) (x : Wd) : Prop :=
  w.cell? a = some (.int .i64 x.t) ∧ w.cell? (a.add 1) = some (.int .i64 x.v) ∧ w.cell? (a.add 2) = some (.int .i64 x.e) ∧ w.cell? (a.add 3) = some (.int .i64 x.b)
theorem words_list {w : World} {a : Addr} (len : Nat) (h : ∀ i, i < len → ∃ x : Wd, WdAt w (a.add (i * 4)) x) : ∃ ws : List Wd, ws.length = len ∧ WordsAt w w.heap.size (some a) ws := by
  have hs : ∃ ws : List Wd, ws.length = len ∧ ∀ i, i < len → WdAt w (a.add (i * 4)) (ws.getD i wd0) := by
    induction len with
    | zero => exact ⟨[], rfl, fun i hi => absurd hi (Nat.not_lt_zero _)⟩
    | succ n ih =>
      obtain ⟨ws, hl, hw⟩ := ih (fun i hi => h i (by omega))
      obtain ⟨x, hx⟩ := h n (by omega)
      refine ⟨ws ++ [x], by simp [hl], fun i hi => ?_⟩
      by_cases hin : i < n
      · rw [show (ws ++ [x]).getD i wd0 = ws.getD i wd0 by simp [List.getD, List.getElem?_append_left (show i < ws.length by omega)]]
        exact hw i hin
      · obtain rfl : i = n := by omega
        rw [show (ws ++ [x]).getD i wd0 = x by rw [← hl]; simp [List.getD]]
        exact hx
  obtain ⟨ws, hl, hw⟩ := hs
  refine ⟨ws, hl, fun k hk => ?_⟩
  obtain ⟨h0, h1, h2, h3⟩ := hw k (by omega)
  obtain ⟨b, off, spot⟩ := a
  have hspot : spot = none := by
    have h00 := (hw 0 (by omega)).1
    simpa [Addr.add] using World.cell?_spot h00
  subst hspot
  have hlt : b < w.heap.size := by
    by_cases hb : b < w.heap.size
    · exact hb
    · unfold World.cell? at h0
      rw [show ((⟨b, off, none⟩ : Addr).add (k * 4)).block = b by rw [Addr.add_lit], Array.getElem?_eq_none (by omega)] at h0
      cases h0
  rw [Addr.add_lit] at h0 h1 h2 h3
  rw [Addr.add_lit] at h1 h2 h3
  exact ⟨b, off, rfl, hlt, h0, h1, h2, h3⟩

section
variable {H : Type} {enc : TypeId × Value → H} {P : Program} {w : World} {base : Nat} {spare : Nat → Bool} {held : Bool}
theorem trod_i64 {t : TypeId} {n : Nat} {c : Value} {y : DataW H × List MemPlace} (ht : P.underlying t = some (.int .i64)) (h : DataW.trod enc P w base spare held n t [c] = some y) : ∃ z : Int, c = .int .i64 z := by
  obtain ⟨z, e, _⟩ := DataW.trod_int ht h
  exact ⟨z, by simpa using e⟩
theorem open_words {t e : TypeId} {fa f1 f2 g0 g1 : Field} {fuel : Nat} {cs : List Value} {x : DataW H × List MemPlace} (ht : P.underlying t = some (.slice e)) (he : P.underlying e = some (.struct #[fa, f1, f2])) (ha : P.underlying fa.type = some (.struct #[g0, g1]))
    (o : fa.offset = 0 ∧ f1.offset = 2 ∧ f2.offset = 3 ∧ g0.offset = 0 ∧ g1.offset = 1) (k : P.cellsOf e = 4 ∧ P.cellsOf fa.type = 2 ∧ P.cellsOf f1.type = 1 ∧ P.cellsOf f2.type = 1 ∧ P.cellsOf g0.type = 1 ∧ P.cellsOf g1.type = 1)
    (u : P.underlying f1.type = some (.int .i64) ∧ P.underlying f2.type = some (.int .i64) ∧ P.underlying g0.type = some (.int .i64) ∧ P.underlying g1.type = some (.int .i64))
    (h : DataW.trod enc P w base spare held fuel t cs = some x) :
    ∃ (A : Option Addr) (c : Nat) (ws : List Wd), cs = [.slice A ws.length c] ∧ WordsAt w w.heap.size A ws ∧ ws.length ≤ c := by
  obtain ⟨o0, o1, o2, p0, p1⟩ := o
  obtain ⟨k0, k1, k2, k3, k4, k5⟩ := k
  obtain ⟨u1, u2, u3, u4⟩ := u
  rcases open_slice ht h with ⟨h0, _⟩ | ⟨a, len, cap, m, n, D, Pl, hcs, hb, hl, hm, hmm, hx, hi⟩
  · exact ⟨none, 0, [], h0, WordsAt.nil _ _ _, Nat.le_refl _⟩
  · rw [k0] at hi
    have hall : ∀ i, i < len → ∃ x : Wd, WdAt w (a.add (i * 4)) x := by
      intro i hil
      obtain ⟨cs', hc, ht'⟩ := hi i (by rw [hmm]; split <;> omega)
      obtain ⟨_, hcl, hat⟩ := World.cells?_some hc
      match cs', hcl with
      | [c0, c1, c2, c3], _ =>
        obtain ⟨ys, n', _, _, _, hlen, hg⟩ := DataW.trod_struct he ht'
        match ys, hlen with
        | [y0, y1, y2], _ =>
          have q0 : DataW.trod enc P w base spare held n' fa.type [c0, c1] = some y0 := by simpa [o0, k1] using hg 0 fa rfl
          have q1 : DataW.trod enc P w base spare held n' f1.type [c2] = some y1 := by simpa [o1, k2] using hg 1 f1 rfl
          have q2 : DataW.trod enc P w base spare held n' f2.type [c3] = some y2 := by simpa [o2, k3] using hg 2 f2 rfl
          obtain ⟨zs, n'', _, _, _, hlen', hg'⟩ := DataW.trod_struct ha q0
          match zs, hlen' with
          | [z0, z1], _ =>
            have r0 : DataW.trod enc P w base spare held n'' g0.type [c0] = some z0 := by simpa [p0, k4] using hg' 0 g0 rfl
            have r1 : DataW.trod enc P w base spare held n'' g1.type [c1] = some z1 := by simpa [p1, k5] using hg' 1 g1 rfl
            obtain ⟨t0, rfl⟩ := trod_i64 u3 r0
            obtain ⟨t1, rfl⟩ := trod_i64 u4 r1
            obtain ⟨t2, rfl⟩ := trod_i64 u1 q1
            obtain ⟨t3, rfl⟩ := trod_i64 u2 q2
            exact ⟨⟨t0, t1, t2, t3⟩, hat 0 (by decide), hat 1 (by decide), hat 2 (by decide), hat 3 (by decide)⟩
    obtain ⟨ws, hwl, hw⟩ := words_list len hall
    exact ⟨some a, cap, ws, by rw [hwl]; exact hcs, hw, by omega⟩
theorem open_list {t e : TypeId} {fuel : Nat} {cs : List Value} {x : DataW H × List MemPlace} (ht : P.underlying t = some (.slice e)) (he : P.underlying e = some (.int .i64)) (hc : P.cellsOf e = 1)
    (h : DataW.trod enc P w base spare held fuel t cs = some x) : ∃ (A : Option Addr) (c : Nat) (l : List Int), cs = [.slice A l.length c] ∧ IntsAt w w.heap.size A l ∧ l.length ≤ c := by
  rcases open_ints ht he hc h with ⟨hcs, _⟩ | ⟨y, l, c, zs, hcs, _, hl, hm, hz, _, hcell, hwz⟩
  · exact ⟨none, 0, [], hcs, IntsAt.nil _ _ _, Nat.le_refl _⟩
  · have hzl : l ≤ zs.length := by rw [hz]; split <;> omega
    have e1 : (zs.take l).length = l := by rw [List.length_take]; omega
    refine ⟨some y, c, zs.take l, by rw [e1]; exact hcs, fun k hk => ?_, by rw [e1]; exact hl⟩
    rw [e1] at hk
    have h0 := hcell k (by omega)
    obtain ⟨b, off, spot⟩ := y
    have hspot : spot = none := by
      have h00 := hcell 0 (by omega)
      simpa [Addr.add] using World.cell?_spot h00
    subst hspot
    rw [Addr.add_lit] at h0
    have hlt : b < w.heap.size := by
      by_cases hb : b < w.heap.size
      · exact hb
      · have hb' : w.heap.size ≤ b := by omega
        simp [World.cell?, Array.getElem?_eq_none hb'] at h0
    refine ⟨b, off, rfl, hlt, ?_⟩
    rw [h0]
    simp [List.getD, hk]
end
theorem open_pdu {H : Type} {enc : TypeId × Value → H} {w : World} {base : Nat} {spare : Nat → Bool} {held : Bool} {r : Reach} {b0 : Nat} {v : Value} {d : DataW H} {p : List MemPlace}
    (hv : Value.okWide Try.prog w r b0 32 v) (h : DataW.Trod enc Try.prog w base spare held 32 v d p) :
    ∃ (A A' : Option Addr) (c c' : Nat) (m : Msg), v = .agg #[.slice A m.all.length c, .slice A' m.ws.length c'] ∧ IntsAt w w.heap.size A m.all ∧ WordsAt w w.heap.size A' m.ws ∧ m.ws.length ≤ c' := by
  obtain ⟨v0, v1, y0, y1, n, rfl, _, _, t0, t1⟩ := open_agg2 Try.underlying32 (by kernel_rfl) (by kernel_rfl) hv h
  obtain ⟨A, c, l, e0, hA, _⟩ := open_list Try.underlying22 Try.underlying3 (by kernel_rfl) t0
  obtain ⟨A', c', ws, e1, hA', hc'⟩ := open_words Try.underlying30 Try.underlying52 Try.underlying29 ⟨rfl, rfl, rfl, rfl, rfl⟩ ⟨by kernel_rfl, by kernel_rfl, by kernel_rfl, by kernel_rfl, by kernel_rfl, by kernel_rfl⟩ ⟨Try.underlying3, Try.underlying3, Try.underlying3, Try.underlying3⟩ t1
  simp only [List.cons.injEq, and_true] at e0 e1
  subst e0 e1
  exact ⟨A, A', c, c', ⟨l, ws⟩, rfl, hA, hA', hc'⟩
end Go.Proofs.Ythghedlgeceepaa
