/- Steps that came in as an argument of stage 16's statements, as plain data; great. No condition. -/
import Derived.Test.YthghedlgeceepaaOpen
import Derived.Test.YthghedlgeceepaaBel
import Derived.Test.YthghedlgeceepaaMPdu
namespace Go.Proofs.Ythghedlgeceepaa
open Go.Joins Go.ChangeShapes Go.WideShapes Go.ChangeAt Go.RowKit Go.Deep
set_option maxRecDepth 100000

structure Sp where
  kind : Int
  t : Int
  v : Int
  n : Int
  nw : Bool
  A : Option Addr
  c : Nat
  A' : Option Addr
  c' : Nat
  m : Msg
def sp0 : Sp := ⟨0, 0, 0, 0, false, none, 0, none, 0, ⟨[], []⟩⟩
instance : Inhabited Sp := ⟨sp0⟩
/-- The seven cells of a step. -/
structure SpCells (w : World) (b i : Nat) (s : Sp) : Prop where
  c0 : w.cell? ⟨b, i, none⟩ = some (.int .i64 s.kind)
  c1 : w.cell? ⟨b, i + 1, none⟩ = some (.int .i64 s.t)
  c2 : w.cell? ⟨b, i + 2, none⟩ = some (.int .i64 s.v)
  c3 : w.cell? ⟨b, i + 3, none⟩ = some (.int .i64 s.n)
  c4 : w.cell? ⟨b, i + 4, none⟩ = some (.bool s.nw)
  c5 : w.cell? ⟨b, i + 5, none⟩ = some (.slice s.A s.m.all.length s.c)
  c6 : w.cell? ⟨b, i + 6, none⟩ = some (.slice s.A' s.m.ws.length s.c')
theorem SpCells.below {w w' : World} {B b i : Nat} {s : Sp} (h : SpCells w b i s) (hb : Below B w w') (hl : b < B) : SpCells w' b i s := by
  have e := fun k => hb.cell (p := ⟨b, k, none⟩) hl
  exact ⟨(e i).trans h.c0, (e (i + 1)).trans h.c1, (e (i + 2)).trans h.c2, (e (i + 3)).trans h.c3, (e (i + 4)).trans h.c4, (e (i + 5)).trans h.c5, (e (i + 6)).trans h.c6⟩
/-- The steps lie at A, all that they lead to below B. -/
def SpAt (w : World) (B : Nat) (A : Option Addr) (l : List Sp) : Prop := ∀ k, k < l.length → (∃ b off, A = some ⟨b, off, none⟩ ∧ b < B ∧ SpCells w b (off + k * 7) (l.getD k sp0)) ∧ IntsAt w B (l.getD k sp0).A (l.getD k sp0).m.all ∧ WordsAt w B (l.getD k sp0).A' (l.getD k sp0).m.ws
theorem SpAt.below {w w' : World} {B : Nat} {A : Option Addr} {l : List Sp} (h : SpAt w B A l) (hb : Below B w w') : SpAt w' B A l := fun k hk => by
  obtain ⟨⟨b, off, e, hl, c⟩, h1, h2⟩ := h k hk
  exact ⟨⟨b, off, e, hl, c.below hb hl⟩, h1.below hb, h2.below hb⟩
theorem SpAt.more {w : World} {B B' : Nat} {A : Option Addr} {l : List Sp} (h : SpAt w B A l) (hB : B ≤ B') : SpAt w B' A l := fun k hk => by
  obtain ⟨⟨b, off, e, hl, c⟩, h1, h2⟩ := h k hk
  exact ⟨⟨b, off, e, Nat.lt_of_lt_of_le hl hB, c⟩, h1.more hB, h2.more hB⟩
theorem trod_step {H : Type} {enc : TypeId × Value → H} {P : Program} {w : World} {base : Nat} {spare : Nat → Bool} {held : Bool} {t : TypeId} {f0 f1 f2 f3 f4 : Field} {n : Nat} {c0 c1 c2 c3 c4 c5 c6 : Value} {y : DataW H × List MemPlace} (hs : P.underlying t = some (.struct #[f0, f1, f2, f3, f4]))
    (o : f0.offset = 0 ∧ f1.offset = 1 ∧ f2.offset = 3 ∧ f3.offset = 4 ∧ f4.offset = 5) (k : P.cellsOf f0.type = 1 ∧ P.cellsOf f1.type = 2 ∧ P.cellsOf f2.type = 1 ∧ P.cellsOf f3.type = 1 ∧ P.cellsOf f4.type = 2)
    (h : DataW.trod enc P w base spare held n t [c0, c1, c2, c3, c4, c5, c6] = some y) :
    ∃ (y0 y1 y2 y3 y4 : DataW H × List MemPlace) (n : Nat), DataW.trod enc P w base spare held n f0.type [c0] = some y0 ∧ DataW.trod enc P w base spare held n f1.type [c1, c2] = some y1 ∧ DataW.trod enc P w base spare held n f2.type [c3] = some y2 ∧ DataW.trod enc P w base spare held n f3.type [c4] = some y3 ∧ DataW.trod enc P w base spare held n f4.type [c5, c6] = some y4 := by
  obtain ⟨o0, o1, o2, o3, o4⟩ := o
  obtain ⟨k0, k1, k2, k3, k4⟩ := k
  obtain ⟨xs, n, _, hx, _, hlen, hg⟩ := DataW.trod_struct hs h
  match xs, hlen with
  | [y0, y1, y2, y3, y4], _ =>
    exact ⟨y0, y1, y2, y3, y4, n, by simpa [o0, k0] using hg 0 f0 rfl, by simpa [o1, k1] using hg 1 f1 rfl, by simpa [o2, k2] using hg 2 f2 rfl, by simpa [o3, k3] using hg 3 f3 rfl, by simpa [o4, k4] using hg 4 f4 rfl⟩
theorem trod_pair {H : Type} {enc : TypeId × Value → H} {P : Program} {w : World} {base : Nat} {spare : Nat → Bool} {held : Bool} {t : TypeId} {f0 f1 : Field} {n : Nat} {c0 c1 : Value} {y : DataW H × List MemPlace} (hs : P.underlying t = some (.struct #[f0, f1]))
    (o : f0.offset = 0 ∧ f1.offset = 1) (k : P.cellsOf f0.type = 1 ∧ P.cellsOf f1.type = 1) (h : DataW.trod enc P w base spare held n t [c0, c1] = some y) :
    ∃ (y0 y1 : DataW H × List MemPlace) (n : Nat), DataW.trod enc P w base spare held n f0.type [c0] = some y0 ∧ DataW.trod enc P w base spare held n f1.type [c1] = some y1 := by
  obtain ⟨o0, o1⟩ := o
  obtain ⟨k0, k1⟩ := k
  obtain ⟨xs, n, _, hx, _, hlen, hg⟩ := DataW.trod_struct hs h
  match xs, hlen with
  | [y0, y1], _ => exact ⟨y0, y1, n, by simpa [o0, k0] using hg 0 f0 rfl, by simpa [o1, k1] using hg 1 f1 rfl⟩
theorem open_step {H : Type} {enc : TypeId × Value → H} {w : World} {n : Nat} {cs : List Value} (hlen : cs.length = 7) {y : DataW H × List MemPlace} (ht : DataW.trod enc Try.prog w 0 (fun _ => true) true n 34 cs = some y) :
    ∃ s : Sp, cs = [.int .i64 s.kind, .int .i64 s.t, .int .i64 s.v, .int .i64 s.n, .bool s.nw, .slice s.A s.m.all.length s.c, .slice s.A' s.m.ws.length s.c'] ∧ IntsAt w w.heap.size s.A s.m.all ∧ WordsAt w w.heap.size s.A' s.m.ws := by
  match cs, hlen with
  | [c0, c1, c2, c3, c4, c5, c6], _ =>
    obtain ⟨y0, y1, y2, y3, y4, m, t0, t1, t2, t3, t4⟩ := trod_step Try.underlying34 ⟨rfl, rfl, rfl, rfl, rfl⟩ ⟨by kernel_rfl, by kernel_rfl, by kernel_rfl, by kernel_rfl, by kernel_rfl⟩ ht
    obtain ⟨a0, e0, _, _⟩ := DataW.trod_int Try.underlying3 t0
    obtain ⟨a3, e3, _, _⟩ := DataW.trod_int Try.underlying3 t2
    obtain ⟨z0, z1, m1, r0, r1⟩ := trod_pair Try.underlying29 ⟨rfl, rfl⟩ ⟨by kernel_rfl, by kernel_rfl⟩ t1
    obtain ⟨a1, e1, _, _⟩ := DataW.trod_int Try.underlying3 r0
    obtain ⟨a2, e2, _, _⟩ := DataW.trod_int Try.underlying3 r1
    obtain ⟨b4, e4, _⟩ := DataW.trod_bool Try.underlying4 t3
    obtain ⟨u0, u1, m2, s0, s1⟩ := trod_pair Try.underlying32 ⟨rfl, rfl⟩ ⟨by kernel_rfl, by kernel_rfl⟩ t4
    obtain ⟨A, c, l, e5, hA, _⟩ := open_list Try.underlying22 Try.underlying3 (by kernel_rfl) s0
    obtain ⟨A', c', ws, e6, hA', _⟩ := open_words Try.underlying30 Try.underlying52 Try.underlying29 ⟨rfl, rfl, rfl, rfl, rfl⟩ ⟨by kernel_rfl, by kernel_rfl, by kernel_rfl, by kernel_rfl, by kernel_rfl, by kernel_rfl⟩ ⟨Try.underlying3, Try.underlying3, Try.underlying3, Try.underlying3⟩ s1
    simp only [List.cons.injEq, and_true] at e0 e1 e2 e3 e4 e5 e6
    subst e0 e1 e2 e3 e4 e5 e6
    exact ⟨⟨a0, a1, a2, a3, b4, A, c, A', c', ⟨l, ws⟩⟩, rfl, hA, hA'⟩
theorem open_steps {H : Type} {enc : TypeId × Value → H} {w : World} {fuel : Nat} {cs : List Value} {x : DataW H × List MemPlace} (h : DataW.trod enc Try.prog w 0 (fun _ => true) true fuel 23 cs = some x) :
    ∃ a cap, ∃ l : List Sp, cs = [.slice a l.length cap] ∧ SpAt w w.heap.size a l ∧ l.length ≤ maxLen := by
  obtain ⟨a, len, cap, rfl, hl, _, hm, hi⟩ := open_rows (k := 7) Try.underlying23 (by kernel_rfl) (by decide) h
  obtain ⟨l, hll, hp⟩ := list_of (p := fun i (x : Sp) => (∃ b off, a = some ⟨b, off, none⟩ ∧ b < w.heap.size ∧ SpCells w b (off + i * 7) x) ∧ IntsAt w w.heap.size x.A x.m.all ∧ WordsAt w w.heap.size x.A' x.m.ws) (fun i hil => by
    obtain ⟨b, off, n, y, cs', rfl, hb, hlen, hc, ht⟩ := hi i hil
    obtain ⟨s, rfl, h1, h2⟩ := open_step hlen ht
    exact ⟨s, ⟨b, off, rfl, hb, hc 0 (by decide), hc 1 (by decide), hc 2 (by decide), hc 3 (by decide), hc 4 (by decide), hc 5 (by decide), hc 6 (by decide)⟩, h1, h2⟩)
  exact ⟨a, cap, l, by rw [hll], fun i hil => hp i (by omega), by omega⟩
/-- As many steps as are played, of no more ticks. -/
def Played (l : List Sp) (j : Nat) : Prop := ∀ k, k < j → ((l.getD k sp0).kind = 3 → 0 ≤ (l.getD k sp0).n ∧ (l.getD k sp0).n ≤ 300) ∧ (l.getD k sp0).m.ws.length ≤ 300 ∧ (l.getD k sp0).m.all.length ≤ 20
theorem Played.next {l : List Sp} {j : Nat} (h : Played l j) (h0 : ((l.getD j sp0).kind = 3 → 0 ≤ (l.getD j sp0).n ∧ (l.getD j sp0).n ≤ 300) ∧ (l.getD j sp0).m.ws.length ≤ 300 ∧ (l.getD j sp0).m.all.length ≤ 20) : Played l (j + 1) := fun k hk => by
  by_cases e : k = j
  · subst e; exact h0
  · exact h k (by omega)
set_option maxHeartbeats 8000000 in
theorem sgreat_any (A : Option Addr) (c : Nat) (l : List Sp) (w : World) (h : SpAt w w.heap.size A l) (hc : l.length ≤ maxLen) :
    Calls Try.prog 7 #[.slice A l.length c] w fun e w' => (e = .returned (.bool true) ∧ Below w.heap.size w w') ∨ (e = .returned (.bool false) ∧ (l.length ≤ 60 ∧ Played l l.length) ∧ Below w.heap.size w w') := by
  obtain ⟨n, hn⟩ : ∃ n, l.length = n := ⟨_, rfl⟩
  have HA := Lib.hid h
  have HN := Lib.hid (And.intro hn hc)
  rw [hn]
  have n0 : (0 : Int) ≤ n := by omega
  clear h hn hc
  go_enter Try.func7, Try.ntmps7
  go_wp2_with fail
  go_loopw [3, 8] (fun zv iv wr => ∃ (j : Nat) (z : Int), j ≤ n ∧ iv = .int .i64 j ∧ zv = .int .i64 z ∧ Hid (Played l j ∧ Below w.heap.size w wr)) (fun _ iv _ => n - (intOf iv).toNat)
  case atStart => exact ⟨0, 0, Nat.zero_le _, rfl, rfl, Lib.hid ⟨fun k hk => absurd hk (Nat.not_lt_zero k), Below.refl _ _⟩⟩
  case round =>
    obtain ⟨j, z, hj, rfl, rfl, hS⟩ := hrel
    by_cases hlt : j < n
    · have j1 : (j : Int) < n := by omega
      have j0 : (0 : Int) ≤ j := by omega
      have HJ := Lib.hid (show wrap64 ((j : Int) + 1) = (j : Int) + 1 from IntWalk.wrap64_in _ (by have := HN.out; unfold maxLen at this; omega))
      obtain ⟨⟨b, off, rfl, hbl, hc⟩, _, _⟩ := HA.out j (by rw [HN.out.1]; exact hlt)
      have hc := hc.below hS.out.2 hbl
      have hnx := hS.out.1.next
      obtain ⟨x, hx⟩ : ∃ x, l.getD j sp0 = x := ⟨_, rfl⟩
      rw [hx] at hc hnx
      obtain ⟨k0, k1, k2, k3, k4, k5, k6, k7, k8, k9⟩ := x
      obtain ⟨q0, q1, q2, q3, q4, q5, q6⟩ := hc
      simp only at hnx q0 q1 q2 q3 q4 q5 q6
      obtain ⟨an, han⟩ : ∃ an, k9.all.length = an := ⟨_, rfl⟩
      obtain ⟨wn, hwn⟩ : ∃ wn, k9.ws.length = wn := ⟨_, rfl⟩
      rw [han] at q5 hnx
      rw [hwn] at q6 hnx
      have HX := Lib.hid hnx
      have hbx := fun o => hS.out.2.trans ((bel_alloc wr o).mono hS.out.2.size)
      have HB := Lib.hid hbx
      clear hbl hx hnx hj hbx han hwn
      have hx3 : True := trivial
      by_cases d3 : k0 = 3
      · subst d3
        by_cases d0 : k3 < 0
        · clear hx3
          go_wp2_with fail
          go_ret
          exact .inl ⟨rfl, HB.out _⟩
        · have d0' : 0 ≤ k3 := by omega
          by_cases d1 : 300 < k3
          · clear hx3 d0
            go_wp2_with fail
            go_ret
            exact .inl ⟨rfl, HB.out _⟩
          · have d1' : k3 ≤ 300 := by omega
            clear d0 d1
            by_cases d4 : (300 : Int) < wn
            · clear hx3
              go_wp2_with fail
              go_ret
              exact .inl ⟨rfl, HB.out _⟩
            · by_cases d5 : (20 : Int) < an
              · have d4' : (wn : Int) ≤ 300 := by omega
                clear hx3 d4
                go_wp2_with fail
                go_ret
                exact .inl ⟨rfl, HB.out _⟩
              · have d4' : (wn : Int) ≤ 300 := by omega
                have d5' : (an : Int) ≤ 20 := by omega
                have HX2 := Lib.hid (HX.out ⟨fun _ => by show 0 ≤ k3 ∧ k3 ≤ 300; omega, by show wn ≤ 300; omega, by show an ≤ 20; omega⟩)
                clear hx3 d4 d5
                go_wp2_with fail
                go_roundw
                case rel =>
                  rw [HJ.out]
                  exact ⟨j + 1, _, hlt, by rw [Int.natCast_add]; rfl, rfl, Lib.hid ⟨HX2.out, HB.out _⟩⟩
                case measure =>
                  rw [HJ.out]
                  show n - ((j : Int) + 1).toNat < n - ((j : Int)).toNat
                  omega
      · have e3 : (k0 == 3) = false := by simpa using d3
        by_cases d4 : (300 : Int) < wn
        · clear hx3
          go_wp2_with fail
          go_ret
          exact .inl ⟨rfl, HB.out _⟩
        · by_cases d5 : (20 : Int) < an
          · have d4' : (wn : Int) ≤ 300 := by omega
            clear hx3 d4
            go_wp2_with fail
            go_ret
            exact .inl ⟨rfl, HB.out _⟩
          · have d4' : (wn : Int) ≤ 300 := by omega
            have d5' : (an : Int) ≤ 20 := by omega
            have HX2 := Lib.hid (HX.out ⟨fun h => absurd h d3, by show wn ≤ 300; omega, by show an ≤ 20; omega⟩)
            clear hx3 d4 d5
            go_wp2_with fail
            go_roundw
            case rel =>
              rw [HJ.out]
              exact ⟨j + 1, _, hlt, by rw [Int.natCast_add]; rfl, rfl, Lib.hid ⟨HX2.out, HB.out _⟩⟩
            case measure =>
              rw [HJ.out]
              show n - ((j : Int) + 1).toNat < n - ((j : Int)).toNat
              omega
    · obtain rfl : n = j := by omega
      by_cases d : 60 < (n : Int)
      · go_wp2_with fail
        go_ret
        exact .inl ⟨rfl, hS.out.2⟩
      · have d' : (n : Int) ≤ 60 := by omega
        have HD := Lib.hid d'
        clear d
        by_cases d2 : 1500 < z
        · go_wp2_with fail
          go_ret
          exact .inl ⟨rfl, hS.out.2⟩
        · have d2' : z ≤ 1500 := by omega
          clear d2
          go_wp2_with fail
          go_ret
          exact .inr ⟨ret_bool (by rw [decide_eq_false (by omega), decide_eq_false (by omega)]; rfl), ⟨by have := HD.out; omega, hS.out.1⟩, hS.out.2⟩
end Go.Proofs.Ythghedlgeceepaa
