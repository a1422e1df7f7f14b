/- Steps that came in as an argument, as plain data; great. No condition. -/
import Derived.Test.YtadejdhdkkfliaaOpen
import Derived.Test.YtadejdhdkkfliaaTalive
namespace Go.Proofs.Ytadejdhdkkfliaa
open Go.ChangeShapes Go.WideShapes Go.ChangeAt Go.RowKit Go.Deep
set_option maxRecDepth 100000

structure St where
  kind : Int
  port : Int
  up : Bool
  cost : Int
  b : Bp
  wait : Int
def st0 : St := ⟨0, 0, false, 0, ⟨0, 0, 0, 0, 0, 0, false⟩, 0⟩
instance : Inhabited St := ⟨st0⟩
def St.arr (s : St) : Array Value := #[.int .i64 s.kind, .int .i64 s.port, .bool s.up, .int .i64 s.cost, .int .i64 s.b.root, .int .i64 s.b.cost, .int .i64 s.b.bridge, .int .i64 s.b.port, .int .i64 s.b.age, .int .i64 s.b.role, .bool s.b.change, .int .i64 s.wait]
structure St.ok (s : St) : Prop where
  port : In64 s.port
  cost : In64 s.cost
  root : In64 s.b.root
  bcost : In64 s.b.cost
  bridge : In64 s.b.bridge
  bport : In64 s.b.port
  age : In64 s.b.age
  role : In64 s.b.role
  wait : In64 s.wait
  kind : In64 s.kind
/-- The twelve cells of a step. -/
structure StCells (w : World) (b i : Nat) (s : St) : Prop where
  c0 : w.cell? ⟨b, i, none⟩ = some (.int .i64 s.kind)
  c1 : w.cell? ⟨b, i + 1, none⟩ = some (.int .i64 s.port)
  c2 : w.cell? ⟨b, i + 2, none⟩ = some (.bool s.up)
  c3 : w.cell? ⟨b, i + 3, none⟩ = some (.int .i64 s.cost)
  c4 : w.cell? ⟨b, i + 4, none⟩ = some (.int .i64 s.b.root)
  c5 : w.cell? ⟨b, i + 5, none⟩ = some (.int .i64 s.b.cost)
  c6 : w.cell? ⟨b, i + 6, none⟩ = some (.int .i64 s.b.bridge)
  c7 : w.cell? ⟨b, i + 7, none⟩ = some (.int .i64 s.b.port)
  c8 : w.cell? ⟨b, i + 8, none⟩ = some (.int .i64 s.b.age)
  c9 : w.cell? ⟨b, i + 9, none⟩ = some (.int .i64 s.b.role)
  c10 : w.cell? ⟨b, i + 10, none⟩ = some (.bool s.b.change)
  c11 : w.cell? ⟨b, i + 11, none⟩ = some (.int .i64 s.wait)
theorem StCells.below {w w' : World} {B b i : Nat} {s : St} (h : StCells w b i s) (hb : Below B w w') (hl : b < B) : StCells w' b i s := by
  have e := fun k => hb.cell (p := ⟨b, k, none⟩) hl
  exact ⟨(e i).trans h.c0, (e (i + 1)).trans h.c1, (e (i + 2)).trans h.c2, (e (i + 3)).trans h.c3, (e (i + 4)).trans h.c4, (e (i + 5)).trans h.c5, (e (i + 6)).trans h.c6, (e (i + 7)).trans h.c7, (e (i + 8)).trans h.c8, (e (i + 9)).trans h.c9, (e (i + 10)).trans h.c10, (e (i + 11)).trans h.c11⟩
def StAt (w : World) (B : Nat) (A : Option Addr) (l : List St) : Prop := ∀ k, k < l.length → ∃ b off, A = some ⟨b, off, none⟩ ∧ b < B ∧ StCells w b (off + k * 12) (l.getD k st0)
section
variable {H : Type} {enc : TypeId × Value → H} {P : Program} {w : World} {base : Nat} {spare : Nat → Bool} {held : Bool}
theorem trod_4111 {t : TypeId} {f0 f1 f2 f3 : Field} {n : Nat} {c0 c1 c2 c3 c4 c5 c6 : Value} {y : DataW H × List MemPlace} (hs : P.underlying t = some (.struct #[f0, f1, f2, f3]))
    (o : f0.offset = 0 ∧ f1.offset = 4 ∧ f2.offset = 5 ∧ f3.offset = 6) (k : P.cellsOf f0.type = 4 ∧ P.cellsOf f1.type = 1 ∧ P.cellsOf f2.type = 1 ∧ P.cellsOf f3.type = 1)
    (h : DataW.trod enc P w base spare held n t [c0, c1, c2, c3, c4, c5, c6] = some y) :
    ∃ (y0 y1 y2 y3 : DataW H × List MemPlace) (n : Nat), DataW.trod enc P w base spare held n f0.type [c0, c1, c2, c3] = some y0 ∧ DataW.trod enc P w base spare held n f1.type [c4] = some y1 ∧ DataW.trod enc P w base spare held n f2.type [c5] = some y2 ∧ DataW.trod enc P w base spare held n f3.type [c6] = some y3 := by
  obtain ⟨o0, o1, o2, o3⟩ := o
  obtain ⟨k0, k1, k2, k3⟩ := k
  obtain ⟨xs, n, _, hx, _, hlen, hg⟩ := DataW.trod_struct hs h
  match xs, hlen with
  | [y0, y1, y2, y3], _ =>
    exact ⟨y0, y1, y2, y3, n, by simpa [o0, k0] using hg 0 f0 rfl, by simpa [o1, k1] using hg 1 f1 rfl, by simpa [o2, k2] using hg 2 f2 rfl, by simpa [o3, k3] using hg 3 f3 rfl⟩
theorem trod_four {t : TypeId} {f0 f1 f2 f3 : Field} {n : Nat} {c0 c1 c2 c3 : Value} {y : DataW H × List MemPlace} (hs : P.underlying t = some (.struct #[f0, f1, f2, f3]))
    (o : f0.offset = 0 ∧ f1.offset = 1 ∧ f2.offset = 2 ∧ f3.offset = 3) (k : P.cellsOf f0.type = 1 ∧ P.cellsOf f1.type = 1 ∧ P.cellsOf f2.type = 1 ∧ P.cellsOf f3.type = 1)
    (h : DataW.trod enc P w base spare held n t [c0, c1, c2, c3] = some y) :
    ∃ (y0 y1 y2 y3 : DataW H × List MemPlace) (n : Nat), DataW.trod enc P w base spare held n f0.type [c0] = some y0 ∧ DataW.trod enc P w base spare held n f1.type [c1] = some y1 ∧ DataW.trod enc P w base spare held n f2.type [c2] = some y2 ∧ DataW.trod enc P w base spare held n f3.type [c3] = some y3 := by
  obtain ⟨o0, o1, o2, o3⟩ := o
  obtain ⟨k0, k1, k2, k3⟩ := k
  obtain ⟨xs, n, _, hx, _, hlen, hg⟩ := DataW.trod_struct hs h
  match xs, hlen with
  | [y0, y1, y2, y3], _ =>
    exact ⟨y0, y1, y2, y3, n, by simpa [o0, k0] using hg 0 f0 rfl, by simpa [o1, k1] using hg 1 f1 rfl, by simpa [o2, k2] using hg 2 f2 rfl, by simpa [o3, k3] using hg 3 f3 rfl⟩
theorem trod_step {t : TypeId} {f0 f1 f2 f3 f4 f5 : Field} {n : Nat} {c0 c1 c2 c3 c4 c5 c6 c7 c8 c9 c10 c11 : Value} {y : DataW H × List MemPlace} (hs : P.underlying t = some (.struct #[f0, f1, f2, f3, f4, f5]))
    (o : f0.offset = 0 ∧ f1.offset = 1 ∧ f2.offset = 2 ∧ f3.offset = 3 ∧ f4.offset = 4 ∧ f5.offset = 11) (k : P.cellsOf f0.type = 1 ∧ P.cellsOf f1.type = 1 ∧ P.cellsOf f2.type = 1 ∧ P.cellsOf f3.type = 1 ∧ P.cellsOf f4.type = 7 ∧ P.cellsOf f5.type = 1)
    (h : DataW.trod enc P w base spare held n t [c0, c1, c2, c3, c4, c5, c6, c7, c8, c9, c10, c11] = some y) :
    ∃ (y0 y1 y2 y3 y4 y5 : DataW H × List MemPlace) (n : Nat), DataW.trod enc P w base spare held n f0.type [c0] = some y0 ∧ DataW.trod enc P w base spare held n f1.type [c1] = some y1 ∧ DataW.trod enc P w base spare held n f2.type [c2] = some y2 ∧ DataW.trod enc P w base spare held n f3.type [c3] = some y3 ∧
      DataW.trod enc P w base spare held n f4.type [c4, c5, c6, c7, c8, c9, c10] = some y4 ∧ DataW.trod enc P w base spare held n f5.type [c11] = some y5 := by
  obtain ⟨o0, o1, o2, o3, o4, o5⟩ := o
  obtain ⟨k0, k1, k2, k3, k4, k5⟩ := k
  obtain ⟨xs, n, _, hx, _, hlen, hg⟩ := DataW.trod_struct hs h
  match xs, hlen with
  | [y0, y1, y2, y3, y4, y5], _ =>
    exact ⟨y0, y1, y2, y3, y4, y5, n, by simpa [o0, k0] using hg 0 f0 rfl, by simpa [o1, k1] using hg 1 f1 rfl, by simpa [o2, k2] using hg 2 f2 rfl, by simpa [o3, k3] using hg 3 f3 rfl, by simpa [o4, k4] using hg 4 f4 rfl, by simpa [o5, k5] using hg 5 f5 rfl⟩
end
theorem int_cells : Try.prog.cellsOf 3 = 1 := by kernel_rfl
theorem bool_cells : Try.prog.cellsOf 4 = 1 := by kernel_rfl
theorem vec_cells : Try.prog.cellsOf 32 = 4 := by kernel_rfl
theorem bp_cells : Try.prog.cellsOf 34 = 7 := by kernel_rfl
/-- A message that came in. -/
theorem trod_bp {H : Type} {enc : TypeId × Value → H} {w : World} {base : Nat} {spare : Nat → Bool} {held : Bool} {n : Nat} {c0 c1 c2 c3 c4 c5 c6 : Value} {y : DataW H × List MemPlace}
    (h : DataW.trod enc Try.prog w base spare held n 34 [c0, c1, c2, c3, c4, c5, c6] = some y) :
    ∃ b : Bp, c0 = .int .i64 b.root ∧ c1 = .int .i64 b.cost ∧ c2 = .int .i64 b.bridge ∧ c3 = .int .i64 b.port ∧ c4 = .int .i64 b.age ∧ c5 = .int .i64 b.role ∧ c6 = .bool b.change ∧ In64 b.root ∧ In64 b.cost ∧ In64 b.bridge ∧ In64 b.port ∧ In64 b.age ∧ In64 b.role := by
  obtain ⟨x0, x1, x2, x3, n, t0, t1, t2, t3⟩ := trod_4111 Try.underlying34 ⟨rfl, rfl, rfl, rfl⟩ ⟨vec_cells, int_cells, int_cells, bool_cells⟩ h
  obtain ⟨z0, z1, z2, z3, m, k0, k1, k2, k3⟩ := trod_four Try.underlying32 ⟨rfl, rfl, rfl, rfl⟩ ⟨int_cells, int_cells, int_cells, int_cells⟩ t0
  obtain ⟨a0, e0, _, w0⟩ := DataW.trod_int Try.underlying3 k0
  obtain ⟨a1, e1, _, w1⟩ := DataW.trod_int Try.underlying3 k1
  obtain ⟨a2, e2, _, w2⟩ := DataW.trod_int Try.underlying3 k2
  obtain ⟨a3, e3, _, w3⟩ := DataW.trod_int Try.underlying3 k3
  obtain ⟨a4, e4, _, w4⟩ := DataW.trod_int Try.underlying3 t1
  obtain ⟨a5, e5, _, w5⟩ := DataW.trod_int Try.underlying3 t2
  obtain ⟨a6, e6, _⟩ := DataW.trod_bool Try.underlying4 t3
  simp only [List.cons.injEq, and_true] at e0 e1 e2 e3 e4 e5 e6
  exact ⟨⟨a0, a1, a2, a3, a4, a5, a6⟩, e0, e1, e2, e3, e4, e5, e6, wf_in w0, wf_in w1, wf_in w2, wf_in w3, wf_in w4, wf_in w5⟩
theorem open_steps {H : Type} {enc : TypeId × Value → H} {w : World} {fuel : Nat} {cs : List Value} {x : DataW H × List MemPlace} (h : DataW.trod enc Try.prog w 0 (fun _ => true) true fuel 22 cs = some x) :
    ∃ a cap, ∃ l : List St, cs = [.slice a l.length cap] ∧ StAt w w.heap.size a l ∧ (∀ x ∈ l, x.ok) ∧ l.length ≤ maxLen := by
  obtain ⟨a, len, cap, rfl, hl, _, hm, hi⟩ := open_rows (k := 12) Try.underlying22 (by kernel_rfl) (by decide) h
  obtain ⟨l, hll, hp⟩ := list_of (p := fun i (x : St) => (∃ b off, a = some ⟨b, off, none⟩ ∧ b < w.heap.size ∧ StCells w b (off + i * 12) x) ∧ x.ok) (fun i hil => by
    obtain ⟨b, off, n, y, cs', rfl, hb, hlen, hc, ht⟩ := hi i hil
    match cs', hlen with
    | [c0, c1, c2, c3, c4, c5, c6, c7, c8, c9, c10, c11], _ =>
      obtain ⟨y0, y1, y2, y3, y4, y5, m, t0, t1, t2, t3, t4, t5⟩ := trod_step Try.underlying44 ⟨rfl, rfl, rfl, rfl, rfl, rfl⟩ ⟨int_cells, int_cells, bool_cells, int_cells, bp_cells, int_cells⟩ ht
      obtain ⟨a0, e0, _, w0⟩ := DataW.trod_int Try.underlying3 t0
      obtain ⟨a1, e1, _, w1⟩ := DataW.trod_int Try.underlying3 t1
      obtain ⟨a2, e2, _⟩ := DataW.trod_bool Try.underlying4 t2
      obtain ⟨a3, e3, _, w3⟩ := DataW.trod_int Try.underlying3 t3
      obtain ⟨bm, rfl, rfl, rfl, rfl, rfl, rfl, rfl, b0, b1, b2, b3, b4, b5⟩ := trod_bp t4
      obtain ⟨a5, e5, _, w5⟩ := DataW.trod_int Try.underlying3 t5
      simp only [List.cons.injEq, and_true] at e0 e1 e2 e3 e5
      subst e0 e1 e2 e3 e5
      exact ⟨⟨a0, a1, a2, a3, bm, a5⟩, ⟨b, off, rfl, hb, hc 0 (by decide), hc 1 (by decide), hc 2 (by decide), hc 3 (by decide), hc 4 (by decide), hc 5 (by decide), hc 6 (by decide), hc 7 (by decide), hc 8 (by decide), hc 9 (by decide), hc 10 (by decide), hc 11 (by decide)⟩, wf_in w1, wf_in w3, b0, b1, b2, b3, b4, b5, wf_in w5, wf_in w0⟩)
  refine ⟨a, cap, l, by rw [hll], fun i hil => ?_, fun x hx => ?_, by omega⟩
  · exact (hp i (by omega)).1
  · obtain ⟨i, hi', rfl⟩ := List.getElem_of_mem hx
    have := (hp i (by omega)).2
    rwa [List.getD_eq_getElem?_getD, List.getElem?_eq_getElem hi'] at this
/-- As many steps as are played, of no more ticks. -/
def Played (l : List St) (j : Nat) : Prop := ∀ k, k < j → 0 ≤ (l.getD k st0).wait ∧ (l.getD k st0).wait ≤ 1000
theorem Played.next {l : List St} {j : Nat} (h : Played l j) (h0 : 0 ≤ (l.getD j st0).wait) (h1 : (l.getD j st0).wait ≤ 1000) : Played l (j + 1) := fun k hk => by
  by_cases e : k = j
  · subst e; exact ⟨h0, h1⟩
  · exact h k (by omega)
set_option maxHeartbeats 4000000 in
theorem tgreat_any (A : Option Addr) (c : Nat) (l : List St) (w : World) (h : StAt w w.heap.size A l) (hc : l.length ≤ maxLen) :
    Calls Try.prog 9 #[.slice A l.length c] w fun e w' => (e = .returned (.bool true) ∧ Below w.heap.size w w') ∨ (e = .returned (.bool false) ∧ (l.length ≤ 100 ∧ Played l l.length) ∧ Below w.heap.size w w') := by
  obtain ⟨n, hn⟩ : ∃ n, l.length = n := ⟨_, rfl⟩
  have HA := Lib.hid h
  have HN := Lib.hid (And.intro hn hc)
  rw [hn]
  have n0 : (0 : Int) ≤ n := by omega
  clear h hn hc
  go_enter Try.func9, Try.ntmps9
  go_wp2_with fail
  go_loopw [7] (fun iv wr => ∃ j : Nat, j ≤ n ∧ iv = .int .i64 j ∧ Hid (Played l j ∧ Below w.heap.size w wr)) (fun iv _ => n - (intOf iv).toNat)
  case atStart => exact ⟨0, Nat.zero_le _, rfl, Lib.hid ⟨fun k hk => absurd hk (Nat.not_lt_zero k), Below.refl _ _⟩⟩
  case round =>
    obtain ⟨j, hj, rfl, hS⟩ := hrel
    by_cases hlt : j < n
    · have j1 : (j : Int) < n := by omega
      have j0 : (0 : Int) ≤ j := by omega
      have HJ := Lib.hid (show wrap64 ((j : Int) + 1) = (j : Int) + 1 from IntWalk.wrap64_in _ (by have := HN.out; unfold maxLen at this; omega))
      obtain ⟨b, off, rfl, hbl, hc⟩ := HA.out j (by rw [HN.out.1]; exact hlt)
      have hc := hc.below hS.out.2 hbl
      have hnx := hS.out.1.next
      obtain ⟨x, hx⟩ : ∃ x, l.getD j st0 = x := ⟨_, rfl⟩
      rw [hx] at hc hnx
      obtain ⟨k0, k1, k2, k3, ⟨m0, m1, m2, m3, m4, m5, m6⟩, k5⟩ := x
      obtain ⟨q0, q1, q2, q3, q4, q5, q6, q7, q8, q9, q10, q11⟩ := hc
      have HX := Lib.hid hnx
      have hbx := fun o => hS.out.2.trans ((bel_alloc wr o).mono hS.out.2.size)
      have HB := Lib.hid hbx
      clear hbl hx hnx hj hbx
      by_cases d0 : k5 < 0
      · go_wp2_with fail
        go_ret
        exact .inl ⟨rfl, HB.out _⟩
      · by_cases d1 : 1000 < k5
        · have e0 : decide (k5 < 0) = false := decide_eq_false d0
          clear d0
          go_wp2_with fail
          go_ret
          exact .inl ⟨rfl, HB.out _⟩
        · have e0 : decide (k5 < 0) = false := decide_eq_false d0
          have e1 : decide (1000 < k5) = false := decide_eq_false d1
          have HX2 := Lib.hid (HX.out (by show 0 ≤ k5; omega) (by show k5 ≤ 1000; omega))
          clear d0 d1
          go_wp2_with fail
          go_roundw
          case rel =>
            rw [HJ.out]
            exact ⟨j + 1, hlt, by rw [Int.natCast_add]; rfl, Lib.hid ⟨HX2.out, HB.out _⟩⟩
          case measure =>
            rw [HJ.out]
            show n - ((j : Int) + 1).toNat < n - ((j : Int)).toNat
            omega
    · obtain rfl : n = j := by omega
      by_cases d : 100 < (n : Int)
      · go_wp2_with fail
        go_ret
        exact .inl ⟨rfl, hS.out.2⟩
      · have e0 : decide (100 < (n : Int)) = false := decide_eq_false d
        have HD := Lib.hid d
        clear d
        go_wp2_with fail
        go_ret
        exact .inr ⟨rfl, ⟨by have := HD.out; have := HN.out; omega, hS.out.1⟩, hS.out.2⟩
end Go.Proofs.Ytadejdhdkkfliaa
