/- Steps that came in as an argument, as plain data; great. No condition. -/
import Derived.Test.YtoiapdcleagepaaOpen
import Derived.Test.YtoiapdcleagepaaBel
namespace Go.Proofs.Ytoiapdcleagepaa
open Go.ChangeShapes Go.WideShapes Go.ChangeAt Go.RowKit Go.Deep
set_option maxRecDepth 100000

def In64 (n : Int) : Prop := -9223372036854775808 ≤ n ∧ n ≤ 9223372036854775807
structure St where
  kind : Int
  event : Int
  born : Int
  n : Int
def st0 : St := ⟨0, 0, 0, 0⟩
instance : Inhabited St := ⟨st0⟩
def St.arr (s : St) : Array Value := #[.int .i64 s.kind, .int .i64 s.event, .int .i64 s.born, .int .i64 s.n]
structure St.ok (s : St) : Prop where
  kind : In64 s.kind
  event : In64 s.event
  born : In64 s.born
  n : In64 s.n
/-- The four cells of a step. -/
structure StCells (w : World) (b i : Nat) (s : St) : Prop where
  c0 : w.cell? ⟨b, i, none⟩ = some (.int .i64 s.kind)
  c1 : w.cell? ⟨b, i + 1, none⟩ = some (.int .i64 s.event)
  c2 : w.cell? ⟨b, i + 2, none⟩ = some (.int .i64 s.born)
  c3 : w.cell? ⟨b, i + 3, none⟩ = some (.int .i64 s.n)
theorem StCells.below {w w' : World} {B b i : Nat} {s : St} (h : StCells w b i s) (hb : Below B w w') (hl : b < B) : StCells w' b i s := by
  have e := fun k => hb.cell (p := ⟨b, k, none⟩) hl
  exact ⟨(e i).trans h.c0, (e (i + 1)).trans h.c1, (e (i + 2)).trans h.c2, (e (i + 3)).trans h.c3⟩
def StAt (w : World) (B : Nat) (A : Option Addr) (l : List St) : Prop := ∀ k, k < l.length → ∃ b off, A = some ⟨b, off, none⟩ ∧ b < B ∧ StCells w b (off + k * 4) (l.getD k st0)
theorem StAt.below {w w' : World} {B : Nat} {A : Option Addr} {l : List St} (h : StAt w B A l) (hb : Below B w w') : StAt w' B A l := fun k hk => by
  obtain ⟨b, off, e, hl, c⟩ := h k hk
  exact ⟨b, off, e, hl, c.below hb hl⟩
theorem StAt.more {w : World} {B B' : Nat} {A : Option Addr} {l : List St} (h : StAt w B A l) (hB : B ≤ B') : StAt w B' A l := fun k hk => by
  obtain ⟨b, off, e, hl, c⟩ := h k hk
  exact ⟨b, off, e, by omega, c⟩
theorem int_cells : Try.prog.cellsOf 3 = 1 := by kernel_rfl
theorem trod_four {H : Type} {enc : TypeId × Value → H} {P : Program} {w : World} {base : Nat} {spare : Nat → Bool} {held : Bool} {t : TypeId} {f0 f1 f2 f3 : Field} {n : Nat} {c0 c1 c2 c3 : Value} {y : DataW H × List MemPlace} (hs : P.underlying t = some (.struct #[f0, f1, f2, f3]))
    (o : f0.offset = 0 ∧ f1.offset = 1 ∧ f2.offset = 2 ∧ f3.offset = 3) (k : P.cellsOf f0.type = 1 ∧ P.cellsOf f1.type = 1 ∧ P.cellsOf f2.type = 1 ∧ P.cellsOf f3.type = 1)
    (h : DataW.trod enc P w base spare held n t [c0, c1, c2, c3] = some y) :
    ∃ (y0 y1 y2 y3 : DataW H × List MemPlace) (n : Nat), DataW.trod enc P w base spare held n f0.type [c0] = some y0 ∧ DataW.trod enc P w base spare held n f1.type [c1] = some y1 ∧ DataW.trod enc P w base spare held n f2.type [c2] = some y2 ∧ DataW.trod enc P w base spare held n f3.type [c3] = some y3 := by
  obtain ⟨o0, o1, o2, o3⟩ := o
  obtain ⟨k0, k1, k2, k3⟩ := k
  obtain ⟨xs, n, _, hx, _, hlen, hg⟩ := DataW.trod_struct hs h
  match xs, hlen with
  | [y0, y1, y2, y3], _ =>
    exact ⟨y0, y1, y2, y3, n, by simpa [o0, k0] using hg 0 f0 rfl, by simpa [o1, k1] using hg 1 f1 rfl, by simpa [o2, k2] using hg 2 f2 rfl, by simpa [o3, k3] using hg 3 f3 rfl⟩
theorem open_steps {H : Type} {enc : TypeId × Value → H} {w : World} {fuel : Nat} {cs : List Value} {x : DataW H × List MemPlace} (h : DataW.trod enc Try.prog w 0 (fun _ => true) true fuel 22 cs = some x) :
    ∃ a cap, ∃ l : List St, cs = [.slice a l.length cap] ∧ StAt w w.heap.size a l ∧ (∀ x ∈ l, x.ok) ∧ l.length ≤ maxLen := by
  obtain ⟨a, len, cap, rfl, hl, _, hm, hi⟩ := open_rows (k := 4) Try.underlying22 (by kernel_rfl) (by decide) h
  obtain ⟨l, hll, hp⟩ := list_of (p := fun i (x : St) => (∃ b off, a = some ⟨b, off, none⟩ ∧ b < w.heap.size ∧ StCells w b (off + i * 4) x) ∧ x.ok) (fun i hil => by
    obtain ⟨b, off, n, y, cs', rfl, hb, hlen, hc, ht⟩ := hi i hil
    match cs', hlen with
    | [c0, c1, c2, c3], _ =>
      obtain ⟨y0, y1, y2, y3, m, t0, t1, t2, t3⟩ := trod_four Try.underlying38 ⟨rfl, rfl, rfl, rfl⟩ ⟨int_cells, int_cells, int_cells, int_cells⟩ ht
      obtain ⟨a0, e0, _, w0⟩ := DataW.trod_int Try.underlying3 t0
      obtain ⟨a1, e1, _, w1⟩ := DataW.trod_int Try.underlying3 t1
      obtain ⟨a2, e2, _, w2⟩ := DataW.trod_int Try.underlying3 t2
      obtain ⟨a3, e3, _, w3⟩ := DataW.trod_int Try.underlying3 t3
      simp only [List.cons.injEq, and_true] at e0 e1 e2 e3
      subst e0 e1 e2 e3
      exact ⟨⟨a0, a1, a2, a3⟩, ⟨b, off, rfl, hb, hc 0 (by decide), hc 1 (by decide), hc 2 (by decide), hc 3 (by decide)⟩, wf_in w0, wf_in w1, wf_in w2, wf_in w3⟩)
  refine ⟨a, cap, l, by rw [hll], fun i hil => ?_, fun x hx => ?_, by omega⟩
  · exact (hp i (by omega)).1
  · obtain ⟨i, hi', rfl⟩ := List.getElem_of_mem hx
    have := (hp i (by omega)).2
    rwa [List.getD_eq_getElem?_getD, List.getElem?_eq_getElem hi'] at this
/-- As many steps as are played, of no more ticks. -/
def Played (l : List St) (j : Nat) : Prop := ∀ k, k < j → (l.getD k st0).kind = 3 → 0 ≤ (l.getD k st0).n ∧ (l.getD k st0).n ≤ 1000
theorem Played.next {l : List St} {j : Nat} (h : Played l j) (h0 : (l.getD j st0).kind = 3 → 0 ≤ (l.getD j st0).n ∧ (l.getD j st0).n ≤ 1000) : Played l (j + 1) := fun k hk => by
  by_cases e : k = j
  · subst e; exact h0
  · exact h k (by omega)
set_option maxHeartbeats 4000000 in
theorem sgreat_any (A : Option Addr) (c : Nat) (l : List St) (w : World) (h : StAt w w.heap.size A l) (hc : l.length ≤ maxLen) :
    Calls Try.prog 9 #[.slice A l.length c] w fun e w' => (e = .returned (.bool true) ∧ Below w.heap.size w w') ∨ (e = .returned (.bool false) ∧ (l.length ≤ 100 ∧ Played l l.length) ∧ Below w.heap.size w w') := by
  obtain ⟨n, hn⟩ : ∃ n, l.length = n := ⟨_, rfl⟩
  have HA := Lib.hid h
  have HN := Lib.hid (And.intro hn hc)
  rw [hn]
  have n0 : (0 : Int) ≤ n := by omega
  clear h hn hc
  go_enter Try.func9, Try.ntmps9
  go_wp2_with fail
  go_loopw [7] (fun iv wr => ∃ j : Nat, j ≤ n ∧ iv = .int .i64 j ∧ Hid (Played l j ∧ Below w.heap.size w wr)) (fun iv _ => n - (intOf iv).toNat)
  case atStart => exact ⟨0, Nat.zero_le _, rfl, Lib.hid ⟨fun k hk => absurd hk (Nat.not_lt_zero k), Below.refl _ _⟩⟩
  case round =>
    obtain ⟨j, hj, rfl, hS⟩ := hrel
    by_cases hlt : j < n
    · have j1 : (j : Int) < n := by omega
      have j0 : (0 : Int) ≤ j := by omega
      have HJ := Lib.hid (show wrap64 ((j : Int) + 1) = (j : Int) + 1 from IntWalk.wrap64_in _ (by have := HN.out; unfold maxLen at this; omega))
      obtain ⟨b, off, rfl, hbl, hc⟩ := HA.out j (by rw [HN.out.1]; exact hlt)
      have hc := hc.below hS.out.2 hbl
      have hnx := hS.out.1.next
      obtain ⟨x, hx⟩ : ∃ x, l.getD j st0 = x := ⟨_, rfl⟩
      rw [hx] at hc hnx
      obtain ⟨k0, k1, k2, k3⟩ := x
      obtain ⟨q0, q1, q2, q3⟩ := hc
      have HX := Lib.hid hnx
      have hbx := fun o => hS.out.2.trans ((bel_alloc wr o).mono hS.out.2.size)
      have HB := Lib.hid hbx
      clear hbl hx hnx hj hbx
      by_cases d3 : k0 = 3
      · subst d3
        by_cases d0 : k3 < 0
        · go_wp2_with fail
          go_ret
          exact .inl ⟨rfl, HB.out _⟩
        · by_cases d1 : 1000 < k3
          · have e0 : decide (k3 < 0) = false := decide_eq_false d0
            clear d0
            go_wp2_with fail
            go_ret
            exact .inl ⟨rfl, HB.out _⟩
          · have e0 : decide (k3 < 0) = false := decide_eq_false d0
            have e1 : decide (1000 < k3) = false := decide_eq_false d1
            have HX2 := Lib.hid (HX.out (fun _ => by show 0 ≤ k3 ∧ k3 ≤ 1000; omega))
            clear d0 d1
            go_wp2_with fail
            go_roundw
            case rel =>
              rw [HJ.out]
              exact ⟨j + 1, hlt, by rw [Int.natCast_add]; rfl, Lib.hid ⟨HX2.out, HB.out _⟩⟩
            case measure =>
              rw [HJ.out]
              show n - ((j : Int) + 1).toNat < n - ((j : Int)).toNat
              omega
      · have e3 : (k0 == 3) = false := by simpa using d3
        have HX2 := Lib.hid (HX.out (fun h => absurd h d3))
        clear d3
        go_wp2_with fail
        go_roundw
        case rel =>
          rw [HJ.out]
          exact ⟨j + 1, hlt, by rw [Int.natCast_add]; rfl, Lib.hid ⟨HX2.out, HB.out _⟩⟩
        case measure =>
          rw [HJ.out]
          show n - ((j : Int) + 1).toNat < n - ((j : Int)).toNat
          omega
    · obtain rfl : n = j := by omega
      by_cases d : 100 < (n : Int)
      · go_wp2_with fail
        go_ret
        exact .inl ⟨rfl, hS.out.2⟩
      · have e0 : decide (100 < (n : Int)) = false := decide_eq_false d
        have HD := Lib.hid d
        clear d
        go_wp2_with fail
        go_ret
        exact .inr ⟨rfl, ⟨by have := HD.out; have := HN.out; omega, hS.out.1⟩, hS.out.2⟩
end Go.Proofs.Ytoiapdcleagepaa
