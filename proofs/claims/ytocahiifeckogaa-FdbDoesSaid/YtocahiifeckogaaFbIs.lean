/- What the program's table must answer (layer 18), for the statements' walks: contracts over a table kept in order. No condition. -/
import Derived.Test.YtocahiifeckogaaFbKeep
import Derived.Test.YtocahiifeckogaaFbA
import Derived.Test.YtocahiifeckogaaOpen
namespace Go.Proofs.Ytocahiifeckogaa
open Go.ChangeShapes Go.WideShapes Go.ChangeAt Go.RowKit Go.Deep
set_option maxRecDepth 100000

def noF (_ : Nat) : Prop := False
/-- The program's calls, of a table that lies as Pt says. -/
structure FdbIs (Pt : World → Nat → (Nat → Prop) → Nat → Dt → Prop) : Prop where
  lo : ∀ {w : World} {B g : Nat} {F : Nat → Prop} {s : Dt}, Pt w B F g s → F g ∧ ∀ k, F k → B ≤ k ∧ k < w.heap.size
  keep : ∀ {w w' : World} {B g : Nat} {F G : Nat → Prop} {s : Dt}, Pt w B F g s → Touch G w w' → (∀ k, G k → ¬ F k) → Pt w' B F g s
  new : ∀ (w : World) (B : Nat), B ≤ w.heap.size → Calls Try.prog 8 #[] w fun e w' => ∃ g : Nat, e = .returned (.pointer (some ⟨g, 0, none⟩)) ∧ Below w.heap.size w w' ∧ Pt w' B (grow noF w w') g ⟨[], 0⟩
  learn : ∀ {w : World} {B g : Nat} {F : Nat → Prop} {s : Dt} (v m p now : Int), Pt w B F g s → Srt s.l → Few s → 0 ≤ now ∧ now ≤ 1099511627776 → Calls Try.prog 16 #[.pointer (some ⟨g, 0, none⟩), .int .i64 v, .int .i64 m, .int .i64 p, .int .i64 now] w fun e w' => e = .returned (.int .i64 (learnS s v m p now).2) ∧ Touch F w w' ∧ Pt w' B (grow F w w') g (learnS s v m p now).1
  fix : ∀ {w : World} {B g : Nat} {F : Nat → Prop} {s : Dt} (v m p : Int), Pt w B F g s → Srt s.l → Few s → Calls Try.prog 17 #[.pointer (some ⟨g, 0, none⟩), .int .i64 v, .int .i64 m, .int .i64 p] w fun e w' => e = .returned (.int .i64 (fixS s v m p).2) ∧ Touch F w w' ∧ Pt w' B (grow F w w') g (fixS s v m p).1
  drop : ∀ {w : World} {B g : Nat} {F : Nat → Prop} {s : Dt} (v m : Int), Pt w B F g s → Srt s.l → Few s → Calls Try.prog 18 #[.pointer (some ⟨g, 0, none⟩), .int .i64 v, .int .i64 m] w fun e w' => e = .returned (.int .i64 (dropD s v m).2) ∧ Touch F w w' ∧ Pt w' B (grow F w w') g (dropD s v m).1
  find : ∀ {w : World} {B g : Nat} {F : Nat → Prop} {s : Dt} (v m : Int), Pt w B F g s → Srt s.l → Few s → Calls Try.prog 12 #[.pointer (some ⟨g, 0, none⟩), .int .i64 v, .int .i64 m] w fun e w' => e = .returned (.int .i64 (findS s.l v m)) ∧ Below w.heap.size w w'
  age : ∀ {w : World} {B g : Nat} {F : Nat → Prop} {s : Dt} (now : Int), Pt w B F g s → Srt s.l → Few s → 0 ≤ now ∧ now ≤ 1099511627776 → Calls Try.prog 14 #[.pointer (some ⟨g, 0, none⟩), .int .i64 now] w fun e w' => e = .returned (.tuple #[]) ∧ Touch F w w' ∧ Pt w' B (grow F w w') g (keepD s 0 now)
  flush : ∀ {w : World} {B g : Nat} {F : Nat → Prop} {s : Dt} (p : Int), Pt w B F g s → Srt s.l → Few s → Calls Try.prog 15 #[.pointer (some ⟨g, 0, none⟩), .int .i64 p] w fun e w' => e = .returned (.tuple #[]) ∧ Touch F w w' ∧ Pt w' B (grow F w w') g (flushK s p)
  all : ∀ {w : World} {B g : Nat} {F : Nat → Prop} {s : Dt}, Pt w B F g s → Srt s.l → Few s → Calls Try.prog 13 #[.pointer (some ⟨g, 0, none⟩)] w fun e w' => ∃ (A : Option Addr) (c : Nat), e = .returned (.slice A s.l.length c) ∧ PlsAt w' w'.heap.size A s.l ∧ Below w.heap.size w w'
  fails : ∀ {w : World} {B g : Nat} {F : Nat → Prop} {s : Dt}, Pt w B F g s → Calls Try.prog 10 #[.pointer (some ⟨g, 0, none⟩)] w fun e w' => e = .returned (.int .i64 s.f) ∧ Below w.heap.size w w'
  learn0 : ∀ (w : World) (v m p now : Int), Calls Try.prog 16 #[.pointer none, .int .i64 v, .int .i64 m, .int .i64 p, .int .i64 now] w fun e w' => e = .returned (.int .i64 2) ∧ Below w.heap.size w w'
  fix0 : ∀ (w : World) (v m p : Int), Calls Try.prog 17 #[.pointer none, .int .i64 v, .int .i64 m, .int .i64 p] w fun e w' => e = .returned (.int .i64 2) ∧ Below w.heap.size w w'
  drop0 : ∀ (w : World) (v m : Int), Calls Try.prog 18 #[.pointer none, .int .i64 v, .int .i64 m] w fun e w' => e = .returned (.int .i64 2) ∧ Below w.heap.size w w'
  find0 : ∀ (w : World) (v m : Int), Calls Try.prog 12 #[.pointer none, .int .i64 v, .int .i64 m] w fun e w' => e = .returned (.int .i64 (-1)) ∧ Below w.heap.size w w'
  age0 : ∀ (w : World) (now : Int), Calls Try.prog 14 #[.pointer none, .int .i64 now] w fun e w' => e = .returned (.tuple #[]) ∧ Below w.heap.size w w'
  flush0 : ∀ (w : World) (p : Int), Calls Try.prog 15 #[.pointer none, .int .i64 p] w fun e w' => e = .returned (.tuple #[]) ∧ Below w.heap.size w w'
  all0 : ∀ (w : World), Calls Try.prog 13 #[.pointer none] w fun e w' => ∃ (A : Option Addr) (c : Nat), e = .returned (.slice A 0 c) ∧ Below w.heap.size w w'
  fails0 : ∀ (w : World), Calls Try.prog 10 #[.pointer none] w fun e w' => e = .returned (.int .i64 0) ∧ Below w.heap.size w w'
/- Calls as they lie. -/
def Kc.cells (c : Kc) : List Value := [.int .i64 c.k, .int .i64 c.v, .int .i64 c.m, .int .i64 c.p, .int .i64 c.n]
structure KcCells (w : World) (b i : Nat) (c : Kc) : Prop where
  c0 : w.cell? ⟨b, i, none⟩ = some (.int .i64 c.k)
  c1 : w.cell? ⟨b, i + 1, none⟩ = some (.int .i64 c.v)
  c2 : w.cell? ⟨b, i + 2, none⟩ = some (.int .i64 c.m)
  c3 : w.cell? ⟨b, i + 3, none⟩ = some (.int .i64 c.p)
  c4 : w.cell? ⟨b, i + 4, none⟩ = some (.int .i64 c.n)
theorem KcCells.below {w w' : World} {B b i : Nat} {c : Kc} (h : KcCells w b i c) (hb : Below B w w') (hl : b < B) : KcCells w' b i c :=
  ⟨(hb.cell (p := ⟨b, i, none⟩) hl).trans h.c0, (hb.cell (p := ⟨b, i + 1, none⟩) hl).trans h.c1, (hb.cell (p := ⟨b, i + 2, none⟩) hl).trans h.c2, (hb.cell (p := ⟨b, i + 3, none⟩) hl).trans h.c3, (hb.cell (p := ⟨b, i + 4, none⟩) hl).trans h.c4⟩
def KcAt (w : World) (B : Nat) (A : Option Addr) (l : List Kc) : Prop := ∀ k, k < l.length → ∃ b off, A = some ⟨b, off, none⟩ ∧ b < B ∧ KcCells w b (off + k * 5) (l.getD k kc0)
theorem KcAt.below {w w' : World} {B : Nat} {A : Option Addr} {l : List Kc} (h : KcAt w B A l) (hb : Below B w w') : KcAt w' B A l := fun k hk => by
  obtain ⟨b, off, e, hl, hc⟩ := h k hk
  exact ⟨b, off, e, hl, hc.below hb hl⟩
theorem open_calls {H : Type} {enc : TypeId × Value → H} {w : World} {fuel : Nat} {cs : List Value} {x : DataW H × List MemPlace} (h : DataW.trod enc Try.prog w 0 (fun _ => true) true fuel 22 cs = some x) :
    ∃ a cap, ∃ l : List Kc, cs = [.slice a l.length cap] ∧ KcAt w w.heap.size a l ∧ l.length ≤ maxLen := by
  obtain ⟨a, len, cap, rfl, hl, hn, hm, hi⟩ := open_rows (k := 5) Try.underlying22 (by kernel_rfl) (by decide) h
  obtain ⟨l, hll, hp⟩ := list_of (p := fun i (x : Kc) => ∃ b off, a = some ⟨b, off, none⟩ ∧ b < w.heap.size ∧ KcCells w b (off + i * 5) x) (fun i hil => by
    obtain ⟨b, off, n, y, cs', rfl, hb, hlen, hc, ht⟩ := hi i hil
    match cs', hlen with
    | [c0, c1, c2, c3, c4], _ =>
      obtain ⟨xs, n', _, _, _, hlen', hg⟩ := DataW.trod_struct Try.underlying32 ht
      match xs, hlen' with
      | [y0, y1, y2, y3, y4], _ =>
        have k1 : Try.prog.cellsOf 3 = 1 := by kernel_rfl
        obtain ⟨a0, e0, _, _⟩ := DataW.trod_int Try.underlying3 (by simpa [k1] using hg 0 _ rfl)
        obtain ⟨a1, e1, _, _⟩ := DataW.trod_int Try.underlying3 (by simpa [k1] using hg 1 _ rfl)
        obtain ⟨a2, e2, _, _⟩ := DataW.trod_int Try.underlying3 (by simpa [k1] using hg 2 _ rfl)
        obtain ⟨a3, e3, _, _⟩ := DataW.trod_int Try.underlying3 (by simpa [k1] using hg 3 _ rfl)
        obtain ⟨a4, e4, _, _⟩ := DataW.trod_int Try.underlying3 (by simpa [k1] using hg 4 _ rfl)
        have d0 := hc 0 (by decide)
        have d1 := hc 1 (by decide)
        have d2 := hc 2 (by decide)
        have d3 := hc 3 (by decide)
        have d4 := hc 4 (by decide)
        simp only [List.cons.injEq, and_true] at e0 e1 e2 e3 e4
        subst e0 e1 e2 e3 e4
        exact ⟨⟨a0, a1, a2, a3, a4⟩, b, off, rfl, hb, d0, d1, d2, d3, d4⟩)
  exact ⟨a, cap, l, by rw [hll], fun i hil => hp i (by omega), by omega⟩
/-- More than is played? -/
def greatC (l : List Kc) : Prop := (∃ k, k < l.length ∧ ¬ (0 ≤ (l.getD k kc0).n ∧ (l.getD k kc0).n ≤ 1099511627776)) ∨ 120 < l.length
set_option maxHeartbeats 4000000 in
theorem great_any (A : Option Addr) (c : Nat) (l : List Kc) (w : World) (hA : KcAt w w.heap.size A l) (hl : l.length ≤ maxLen) :
    Calls Try.prog 7 #[.slice A l.length c] w fun e w' => (e = .returned (.bool true) ∨ (e = .returned (.bool false) ∧ l.length ≤ 120 ∧ ∀ k, k < l.length → 0 ≤ (l.getD k kc0).n ∧ (l.getD k kc0).n ≤ 1099511627776)) ∧ Below w.heap.size w w' := by
  obtain ⟨n, hn⟩ : ∃ n, l.length = n := ⟨_, rfl⟩
  have HA := Lib.hid hA
  have HN := Lib.hid (And.intro hn hl)
  rw [hn]
  clear hA hl hn
  go_enter Try.func7, Try.ntmps7
  go_wp2_with fail
  go_loopw [7] (fun iv wr => ∃ j : Nat, j ≤ n ∧ iv = .int .i64 j ∧ Hid ((∀ k, k < j → 0 ≤ (l.getD k kc0).n ∧ (l.getD k kc0).n ≤ 1099511627776) ∧ Below w.heap.size w wr)) (fun iv _ => n - (intOf iv).toNat)
  case atStart => exact ⟨0, Nat.zero_le _, rfl, Lib.hid ⟨fun k hk => absurd hk (Nat.not_lt_zero k), Below.refl _ _⟩⟩
  case round =>
    obtain ⟨j, hj, rfl, HB⟩ := hrel
    by_cases hlt : j < n
    · have j1 : (j : Int) < n := by omega
      have j0 : (0 : Int) ≤ j := by omega
      have HLT := Lib.hid hlt
      have HJ := Lib.hid (show wrap64 ((j : Int) + 1) = (j : Int) + 1 from IntWalk.wrap64_in _ (by have := HN.out.1; have h2 := HN.out.2; unfold maxLen at h2; omega))
      obtain ⟨b, off, eA, hbl, hc⟩ := HA.out j (by rw [HN.out.1]; exact hlt)
      have hc := hc.below HB.out.2 hbl
      obtain ⟨x, hx⟩ : ∃ x, l.getD j kc0 = x := ⟨_, rfl⟩
      rw [hx] at hc
      obtain ⟨q0, q1, q2, q3, q4⟩ := hc
      have HX := Lib.hid hx
      have HB2 := Lib.hid (HB.out.2.trans ((bel_alloc wr (.cells x.cells.toArray 32)).mono HB.out.2.size))
      obtain ⟨k, v, m, p, t⟩ := x
      subst eA
      clear hj hlt hbl hx
      by_cases h1 : t < 0
      · go_wp2_with fail
        go_ret
        exact ⟨.inl rfl, HB2.out⟩
      · by_cases h2 : 1099511627776 < t
        · go_wp2_with fail
          go_ret
          exact ⟨.inl rfl, HB2.out⟩
        · have HE := Lib.hid (show ∀ k, k < j + 1 → 0 ≤ (l.getD k kc0).n ∧ (l.getD k kc0).n ≤ 1099511627776 from fun q hq => by
            by_cases e : q = j
            · subst e; rw [HX.out]; exact ⟨by show 0 ≤ t; omega, by show t ≤ _; omega⟩
            · exact HB.out.1 q (by omega))
          go_wp2_with fail
          go_roundw
          case rel =>
            rw [HJ.out]
            exact ⟨j + 1, HLT.out, by rw [Int.natCast_add]; rfl, Lib.hid ⟨HE.out, HB2.out⟩⟩
          case measure =>
            rw [HJ.out]
            show n - ((j : Int) + 1).toNat < n - ((j : Int)).toNat
            have := HLT.out
            omega
    · obtain rfl : n = j := by omega
      clear hj hlt
      by_cases h120 : 120 < n
      · have h120i : (120 : Int) < n := by omega
        have HV := Lib.hid h120
        clear h120
        go_wp2_with fail
        go_ret
        exact ⟨.inl (ret_bool (by first | rfl | exact decide_eq_true HV.out)), HB.out.2⟩
      · have h120i : ¬ (120 : Int) < n := by omega
        have HV := Lib.hid h120
        clear h120
        go_wp2_with fail
        go_ret
        exact ⟨.inr ⟨ret_bool (by first | rfl | exact decide_eq_false HV.out), by have := HV.out; omega, fun k hk => HB.out.1 k hk⟩, HB.out.2⟩
end Go.Proofs.Ytocahiifeckogaa
