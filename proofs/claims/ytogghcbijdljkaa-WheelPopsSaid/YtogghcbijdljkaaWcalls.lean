/- Calls of the wheel that came in as an argument, as plain data; two things that lie apart. No condition. -/
import Derived.Test.YtogghcbijdljkaaOpen
import Derived.Test.YtogghcbijdljkaaWalive
namespace Go.Proofs.Ytogghcbijdljkaa
open Go.ChangeShapes Go.WideShapes Go.ChangeAt Go.RowKit Go.Deep
set_option maxRecDepth 100000

structure Cl where
  kind : Int
  key : Int
  n : Int
instance : Inhabited Cl := ⟨⟨0, 0, 0⟩⟩
def cl0 : Cl := ⟨0, 0, 0⟩
def Cl.arr (c : Cl) : Array Value := #[.int .i64 c.kind, .int .i64 c.key, .int .i64 c.n]
def Cl.ok (c : Cl) : Prop := -9223372036854775808 ≤ c.n ∧ c.n ≤ 9223372036854775807
def ClAt (w : World) (B : Nat) (A : Option Addr) (l : List Cl) : Prop := ∀ k, k < l.length → ∃ b off, A = some ⟨b, off, none⟩ ∧ b < B ∧ w.cell? ⟨b, off + k * 3, none⟩ = some (.int .i64 (l.getD k cl0).kind) ∧ w.cell? ⟨b, off + k * 3 + 1, none⟩ = some (.int .i64 (l.getD k cl0).key) ∧ w.cell? ⟨b, off + k * 3 + 2, none⟩ = some (.int .i64 (l.getD k cl0).n)
section
variable {H : Type} {enc : TypeId × Value → H} {P : Program} {w : World} {base : Nat} {spare : Nat → Bool} {held : Bool}
theorem trod_three {t : TypeId} {f0 f1 f2 : Field} {n : Nat} {c0 c1 c2 : Value} {y : DataW H × List MemPlace} (hs : P.underlying t = some (.struct #[f0, f1, f2]))
    (o : f0.offset = 0 ∧ f1.offset = 1 ∧ f2.offset = 2) (k : P.cellsOf f0.type = 1 ∧ P.cellsOf f1.type = 1 ∧ P.cellsOf f2.type = 1)
    (h : DataW.trod enc P w base spare held n t [c0, c1, c2] = some y) :
    ∃ (y0 y1 y2 : DataW H × List MemPlace) (n : Nat), DataW.trod enc P w base spare held n f0.type [c0] = some y0 ∧ DataW.trod enc P w base spare held n f1.type [c1] = some y1 ∧ DataW.trod enc P w base spare held n f2.type [c2] = some y2 := by
  obtain ⟨o0, o1, o2⟩ := o
  obtain ⟨k0, k1, k2⟩ := k
  obtain ⟨xs, n, _, hx, _, hlen, hg⟩ := DataW.trod_struct hs h
  match xs, hlen with
  | [y0, y1, y2], _ =>
    exact ⟨y0, y1, y2, n, by simpa [o0, k0] using hg 0 f0 rfl, by simpa [o1, k1] using hg 1 f1 rfl, by simpa [o2, k2] using hg 2 f2 rfl⟩
end
theorem open_calls {H : Type} {enc : TypeId × Value → H} {w : World} {fuel : Nat} {cs : List Value} {x : DataW H × List MemPlace} (h : DataW.trod enc Try.prog w 0 (fun _ => true) true fuel 22 cs = some x) :
    ∃ a cap, ∃ l : List Cl, cs = [.slice a l.length cap] ∧ ClAt w w.heap.size a l ∧ (∀ x ∈ l, x.ok) ∧ (a = none → cap = 0) := by
  obtain ⟨a, len, cap, rfl, hl, h0, _, hi⟩ := open_rows (k := 3) Try.underlying22 (by kernel_rfl) (by decide) h
  have hI : Try.prog.cellsOf 3 = 1 := by kernel_rfl
  obtain ⟨l, hll, hp⟩ := list_of (p := fun i (x : Cl) => (∃ b off, a = some ⟨b, off, none⟩ ∧ b < w.heap.size ∧ w.cell? ⟨b, off + i * 3, none⟩ = some (.int .i64 x.kind) ∧ w.cell? ⟨b, off + i * 3 + 1, none⟩ = some (.int .i64 x.key) ∧ w.cell? ⟨b, off + i * 3 + 2, none⟩ = some (.int .i64 x.n)) ∧ x.ok) (fun i hil => by
    obtain ⟨b, off, n, y, cs', rfl, hb, hlen, hc, ht⟩ := hi i hil
    match cs', hlen with
    | [c0, c1, c2], _ =>
      obtain ⟨y0, y1, y2, m, t0, t1, t2⟩ := trod_three Try.underlying31 ⟨rfl, rfl, rfl⟩ ⟨hI, hI, hI⟩ ht
      obtain ⟨a0, e0, _, _⟩ := DataW.trod_int Try.underlying3 t0
      obtain ⟨a1, e1, _, _⟩ := DataW.trod_int Try.underlying3 t1
      obtain ⟨a2, e2, _, w2⟩ := DataW.trod_int Try.underlying3 t2
      simp only [List.cons.injEq, and_true] at e0 e1 e2
      subst e0 e1 e2
      exact ⟨⟨a0, a1, a2⟩, ⟨b, off, rfl, hb, hc 0 (by decide), hc 1 (by decide), hc 2 (by decide)⟩, wf_in w2⟩)
  refine ⟨a, cap, l, by rw [hll], fun i hil => ?_, fun x hx => ?_, h0⟩
  · exact (hp i (by omega)).1
  · obtain ⟨i, hi', rfl⟩ := List.getElem_of_mem hx
    have := (hp i (by omega)).2
    rwa [List.getD_eq_getElem?_getD, List.getElem?_eq_getElem hi'] at this
/-- The timers when the first j calls are made. -/
def runTo (s : List Cl) : Nat → List Tm
  | 0 => []
  | j + 1 => if (s.getD j cl0).n < 0 then runTo s j else putT (runTo s j) (s.getD j cl0).key (s.getD j cl0).n
theorem put_len (l : List Tm) (key due : Int) : (putT l key due).length ≤ l.length + 1 := by
  induction l with
  | nil => simp [putT]
  | cons a l ih =>
    unfold putT
    split
    · simp only [List.length_cons]; omega
    · split <;> simp
theorem run_length (s : List Cl) (j : Nat) : (runTo s j).length ≤ j := by
  induction j with
  | zero => exact Nat.le_refl _
  | succ j ih =>
    unfold runTo
    split
    · omega
    · exact Nat.le_trans (put_len _ _ _) (by omega)
/-- A wheel whose blocks are among F, all of them made behind w0. -/
structure WheelF (w0 w : World) (g : Nat) (l : List Tm) (F : Nat → Prop) : Prop where
  at_ : WheelAt w g l
  foot : ∀ k, WFoot w g k → F k
  in_ : ∀ k, F k → w0.heap.size ≤ k ∧ k < w.heap.size
theorem WheelAt.lt {w : World} {g : Nat} {l : List Tm} (h : WheelAt w g l) : g < w.heap.size := by
  obtain ⟨A, c, hb, _⟩ := h.row
  exact hb.lt
theorem foot_lt {w : World} {g k : Nat} {l : List Tm} (h : WheelAt w g l) (hk : WFoot w g k) : k < w.heap.size := by
  rcases hk with rfl | ⟨A, n, c, hb, hk⟩
  · exact h.lt
  · obtain ⟨A', c', hb', ho⟩ := h.row
    unfold Blk at hb hb'
    rw [hb] at hb'
    injection hb' with hb'
    injection hb' with hb' _
    injection hb' with hb'
    injection hb' with hb' _
    injection hb' with h1 h2 h3
    subst h1 h2 h3
    exact (World.ownsRow.lt ho k hk).2
theorem WheelF.keep {w0 w w' : World} {g : Nat} {l : List Tm} {F p : Nat → Prop} (h : WheelF w0 w g l F) (ht : Touch p w w') (hp : ∀ k, F k → ¬ p k) : WheelF w0 w' g l F := by
  obtain ⟨A, c, hb, ho⟩ := h.at_.row
  have hg : ¬ p g := hp g (h.foot g (.inl rfl))
  have hb' : Blk w' g 74 #[.slice A l.length c] := hb.touch ht hg
  have hrow : ∀ k, (Value.slice A l.length c).ownBlock = some k → ¬ p k := fun k hk => hp k (h.foot k (.inr ⟨A, l.length, c, hb, hk⟩))
  refine ⟨⟨⟨A, c, hb', own_heap ho fun k hk => ht.block k (World.ownsRow.lt ho k hk).2 (hrow k hk)⟩, h.at_.up, h.at_.few⟩, fun k hk => ?_, fun k hk => ⟨(h.in_ k hk).1, Nat.lt_of_lt_of_le (h.in_ k hk).2 ht.size⟩⟩
  rcases hk with rfl | ⟨A', n', c', hb2, hk⟩
  · exact h.foot k (.inl rfl)
  · have e := hb'
    unfold Blk at hb2 e
    rw [hb2] at e
    injection e with e
    injection e with e _
    injection e with e
    injection e with e _
    injection e with h1 h2 h3
    subst h1 h2 h3
    exact h.foot k (.inr ⟨A', l.length, c', hb, hk⟩)
theorem WheelF.below {w0 w w' : World} {g : Nat} {l : List Tm} {F : Nat → Prop} (h : WheelF w0 w g l F) (hb : Below w.heap.size w w') : WheelF w0 w' g l F :=
  h.keep (Below.touch hb) fun k hk => by have := (h.in_ k hk).2; omega
theorem WheelF.step {w0 w w' : World} {g : Nat} {l l' : List Tm} {F : Nat → Prop} (h : WheelF w0 w g l F) (hs : w0.heap.size ≤ w.heap.size) (h1 : WheelAt w' g l') (ht : Touch (WFoot w g) w w') (hf : ∀ k, WFoot w' g k → WFoot w g k ∨ w.heap.size ≤ k) :
    ∃ F', WheelF w0 w' g l' F' ∧ Touch F w w' ∧ ∀ k, F' k → F k ∨ w.heap.size ≤ k := by
  refine ⟨fun k => (F k ∨ w.heap.size ≤ k) ∧ k < w'.heap.size, ⟨h1, fun k hk => ⟨(hf k hk).imp (h.foot k) id, foot_lt h1 hk⟩, fun k hk => ⟨hk.1.elim (fun e => (h.in_ k e).1) (fun e => Nat.le_trans hs e), hk.2⟩⟩, ht.mono fun k _ hk => h.foot k hk, fun k hk => hk.1⟩
theorem new_f (w0 : World) (w : World) (hs : w0.heap.size ≤ w.heap.size) : Calls Try.prog 14 #[] w fun e w' => ∃ g F, e = .returned (.pointer (some ⟨g, 0, none⟩)) ∧ WheelF w0 w' g [] F ∧ Below w.heap.size w w' ∧ ∀ k, F k → w.heap.size ≤ k :=
  (new_any w).mono fun _ w' ⟨he, h, hb, hf⟩ => ⟨w.heap.size, fun k => k = w.heap.size, he, ⟨h, fun k hk => hf k hk, fun k hk => by subst hk; exact ⟨hs, h.lt⟩⟩, hb, fun k hk => by rw [hk]; exact Nat.le_refl _⟩
theorem set_f (w0 : World) (g : Nat) (l : List Tm) (F : Nat → Prop) (key due : Int) (w : World) (h : WheelF w0 w g l F) (hs : w0.heap.size ≤ w.heap.size) (hd : 0 ≤ due) (hfew : l.length < 1048000) :
    Calls Try.prog 15 #[.pointer (some ⟨g, 0, none⟩), .int .i64 key, .int .i64 due] w fun e w' => e = .returned (.int .i64 0) ∧ ∃ F', WheelF w0 w' g (putT l key due) F' ∧ Touch F w w' ∧ ∀ k, F' k → F k ∨ w.heap.size ≤ k :=
  (set_any g l key due w h.at_ hd hfew).mono fun _ _ ⟨he, h1, ht, hf⟩ => ⟨he, h.step hs h1 ht hf⟩
theorem pop_f (w0 : World) (g : Nat) (l : List Tm) (F : Nat → Prop) (now : Int) (w : World) (h : WheelF w0 w g l F) (hs : w0.heap.size ≤ w.heap.size) :
    Calls Try.prog 17 #[.pointer (some ⟨g, 0, none⟩), .int .i64 now] w fun e w' => ∃ gM : Nat, e = .returned (.slice (some ⟨gM, 0, none⟩) (sortT (lateT now l)).length (sortT (lateT now l)).length) ∧ KeysAt w' gM (sortT (lateT now l)) (sortT (lateT now l)).length ∧ w.heap.size ≤ gM ∧ ∃ F', WheelF w0 w' g (keepT now l) F' ∧ Touch F w w' ∧ ∀ k, F' k → F k ∨ w.heap.size ≤ k :=
  (pop_any g l now w h.at_).mono fun _ _ ⟨gM, he, hk, hg, h1, ht, hf⟩ => ⟨gM, he, hk, hg, h.step hs h1 ht hf⟩
end Go.Proofs.Ytogghcbijdljkaa
