/- The document's part of a bridge is set, and hears: contracts. Their conditions: up to six ports, fewer than 50000 turns each, numbers within their ranges. -/
import Derived.Test.YtonkmbnnbpbhiaaRtupd
namespace Go.Proofs.Ytonkmbnnbpbhiaa
open Go.RowKit
set_option maxRecDepth 100000

section
variable {w : World} {base d gp go m cap : Nat} {f f' : Nat → Pt} {op : Nat → Bool} {id ch : Int} {TU : Nat → List (Int × Int)} {AA : Nat → Option Addr} {CC : Nat → Nat}
theorem DocAt.set_ (h : DocAt w base d gp go cap id m f TU AA CC op ch) {i k : Nat} (hi : i < m) (hk : k < 11) (u : Value) (hne : ∀ j, j ≠ i → f' j = f j) (he : ∀ s, rArr (f' i) s = (rArr (f i) s).setIfInBounds k u) (hr : (f' i).role = (f i).role ∧ (f' i).since = (f i).since) :
    DocAt (w.setCell ⟨gp, i * 11 + k, none⟩ u) base d gp go cap id m f' TU AA CC op ch where
  top := h.top.far h.d_ne _
  cap := h.cap
  ports := h.ports.set_ hi hk u (fun j hj => ⟨hne j hj, rfl⟩) (he _)
  open_ := h.open_.block (Below.heap_setCell _ _ _ go h.go_ne)
  turns j hj := own_heap (h.turns j hj) fun q hq => Below.heap_setCell _ _ _ q (h.own_ne hj hq).1
  apart := h.apart
  lasts j hj := by
    rw [h.lasts j hj]
    by_cases e : j = i
    · subst e
      rw [hr.1, hr.2]
    · rw [hne j e]
  bd := h.bd
  bp := h.bp
  bo := h.bo
theorem DocAt.qp (h : DocAt w base d gp go cap id m f TU AA CC op ch) : DocQ base w gp := by
  obtain ⟨cs, hb, _⟩ := h.ports
  exact DocQ.of h.bp hb (.inr (.inl rfl))
/-- What was heard is stored anew. -/
theorem DocAt.set7 (h : DocAt w base d gp go cap id m f TU AA CC op ch) {i : Nat} (hi : i < m) (x : Hd) (hx : x.way = 0) :
    DocAt (Go.Proofs.Ytonkmbnnbpbhiaa.set7 w gp (i * 11 + 2) x) base d gp go cap id m (updP f i { f i with vec := x.vec, age := x.age, none := x.none }) TU AA CC op ch := by
  obtain ⟨r, c, b, p, a, y, n⟩ := x
  obtain rfl : y = 0 := hx
  have h0 := h.set_ (f' := updP f i { f i with vec := { (f i).vec with root := r } }) (k := 2) hi (by decide) (.int .i64 r) (fun j hj => if_neg hj) (fun s => by unfold updP; rw [if_pos rfl]; rfl) (by unfold updP; rw [if_pos rfl]; exact ⟨rfl, rfl⟩)
  have h1 := h0.set_ (f' := updP f i { f i with vec := { (f i).vec with root := r, cost := c } }) (k := 3) hi (by decide) (.int .i64 c) (fun j hj => by unfold updP; rw [if_neg hj, if_neg hj]) (fun s => by unfold updP; rw [if_pos rfl, if_pos rfl]; rfl) (by unfold updP; rw [if_pos rfl, if_pos rfl]; exact ⟨rfl, rfl⟩)
  have h2 := h1.set_ (f' := updP f i { f i with vec := { (f i).vec with root := r, cost := c, bridge := b } }) (k := 4) hi (by decide) (.int .i64 b) (fun j hj => by unfold updP; rw [if_neg hj, if_neg hj]) (fun s => by unfold updP; rw [if_pos rfl, if_pos rfl]; rfl) (by unfold updP; rw [if_pos rfl, if_pos rfl]; exact ⟨rfl, rfl⟩)
  have h3 := h2.set_ (f' := updP f i { f i with vec := ⟨r, c, b, p⟩ }) (k := 5) hi (by decide) (.int .i64 p) (fun j hj => by unfold updP; rw [if_neg hj, if_neg hj]) (fun s => by unfold updP; rw [if_pos rfl, if_pos rfl]; rfl) (by unfold updP; rw [if_pos rfl, if_pos rfl]; exact ⟨rfl, rfl⟩)
  have h4 := h3.set_ (f' := updP f i { f i with vec := ⟨r, c, b, p⟩, age := a }) (k := 6) hi (by decide) (.int .i64 a) (fun j hj => by unfold updP; rw [if_neg hj, if_neg hj]) (fun s => by unfold updP; rw [if_pos rfl, if_pos rfl]; rfl) (by unfold updP; rw [if_pos rfl, if_pos rfl]; exact ⟨rfl, rfl⟩)
  have h5 := h4.set_ (f' := updP f i { f i with vec := ⟨r, c, b, p⟩, age := a }) (k := 7) hi (by decide) (.int .i64 0) (fun j hj => rfl) (fun s => by unfold updP; rw [if_pos rfl]; rfl) ⟨rfl, rfl⟩
  exact h5.set_ (k := 8) hi (by decide) (.bool n) (fun j hj => by unfold updP; rw [if_neg hj, if_neg hj]) (fun s => by unfold updP; rw [if_pos rfl, if_pos rfl]; rfl) (by unfold updP; rw [if_pos rfl, if_pos rfl]; exact ⟨rfl, rfl⟩)
theorem DocAt.touch_p (h : DocAt w base d gp go cap id m f TU AA CC op ch) {w' : World} (ht : Touch (DocQ base w) w w') (k : Nat) (u : Value) : Touch (DocQ base w) w (w'.setCell ⟨gp, k, none⟩ u) := ht.set_ (a := ⟨gp, k, none⟩) (fun _ => h.qp) u
/-- Up, or down, and the cost. -/
theorem DocAt.put2 (h : DocAt w base d gp go cap id m f TU AA CC op ch) {i : Nat} (hi : i < m) (up : Bool) (cost : Int) : DocAt ((w.setCell ⟨gp, i * 11, none⟩ (.bool up)).setCell ⟨gp, i * 11 + 1, none⟩ (.int .i64 cost)) base d gp go cap id m (updP f i { f i with up := up, way := cost }) TU AA CC op ch := by
  have h0 := h.set_ (f' := updP f i { f i with up := up }) (k := 0) hi (by decide) (.bool up) (fun j hj => if_neg hj) (fun s => by unfold updP; rw [if_pos rfl]; rfl) (by unfold updP; rw [if_pos rfl]; exact ⟨rfl, rfl⟩)
  exact h0.set_ (k := 1) hi (by decide) (.int .i64 cost) (fun j hj => by unfold updP; rw [if_neg hj, if_neg hj]) (fun s => by unfold updP; rw [if_pos rfl, if_pos rfl]; rfl) (by unfold updP; rw [if_pos rfl, if_pos rfl]; exact ⟨rfl, rfl⟩)
theorem updP_self (f : Nat → Pt) (i : Nat) : updP f i (f i) = f := funext fun j => by unfold updP; by_cases e : j = i <;> simp [e]
theorem updP_twice (f : Nat → Pt) (i : Nat) (p q : Pt) : updP (updP f i p) i q = updP f i q := funext fun j => by unfold updP; by_cases e : j = i <;> simp [e]
theorem updP_at (f : Nat → Pt) (i : Nat) (p : Pt) : updP f i p i = p := if_pos rfl
/-- What is told of a call that turns the part. -/
def DocN (w w' : World) (base d gp go cap : Nat) (id : Int) (m : Nat) (f' : Nat → Pt) (TU : Nat → List (Int × Int)) (op : Nat → Bool) (ch : Int) : Prop := (∃ TU' AA' CC', DocAt w' base d gp go cap id m f' TU' AA' CC' op ch ∧ ∀ i, (TU' i).length ≤ (TU i).length + 1) ∧ Touch (DocQ base w) w w'
set_option maxHeartbeats 4000000 in
theorem rset_ok (h : DocAt w base d gp go cap id m f TU AA CC op ch) (hm : m ≤ 6) {T : Int} (hok : POk T m f) (hlen : ∀ i, (TU i).length ≤ 50000) (hbs : base ≤ w.heap.size) (i : Nat) (hi : i < m) (up : Bool) (cost : Int) (h1 : 1 ≤ cost) (h2 : cost ≤ 16777216) :
    Calls Try.prog 22 #[.pointer (some ⟨d, 0, none⟩), .int .i64 i, .bool up, .int .i64 cost, .int .i64 T] w fun e w' => e = .returned (.int .i64 0) ∧ DocN w w' base d gp go cap id m (setP id m T f i up cost) TU op ch := by
  have H := Lib.hid h
  have hcm : (m : Int) ≤ cap := by have := h.cap; omega
  have m0 : (0 : Int) ≤ m := by omega
  have d1 := h.d1
  have d2 : decide (cost < 1) = false := decide_eq_false (by omega)
  have d3 : decide (16777216 < cost) = false := decide_eq_false (by omega)
  have j1 : (i : Int) < m := by omega
  have j0 : (0 : Int) ≤ i := by omega
  have hend : ∀ wz (p : Pt), DocAt wz base d gp go cap id m (updP f i p) TU AA CC op ch → { p with up := up, way := cost } = setPt (f i) up cost → Touch (DocQ base w) w wz →
      Calls Try.prog 46 #[.pointer (some ⟨d, 0, none⟩), .int .i64 T] ((wz.setCell ⟨gp, i * 11, none⟩ (.bool up)).setCell ⟨gp, i * 11 + 1, none⟩ (.int .i64 cost)) fun e w' => e = .returned (.tuple #[]) ∧ DocN w w' base d gp go cap id m (setP id m T f i up cost) TU op ch := fun wz p hz hp ht => by
    have hq := hz.put2 hi up cost
    rw [updP_at, hp, updP_twice] at hq
    have ht2 := h.touch_p (h.touch_p ht (i * 11) (.bool up)) (i * 11 + 1) (.int .i64 cost)
    have hp2 := hok.upd i ((hok i hi).set up (by omega) h2)
    refine (rupdate_any hq hm (fun j hj => (hp2 j hj).hd) hlen (Nat.le_trans hbs ht2.size) T).mono ?_
    rintro e w' ⟨rfl, h9, t9⟩
    exact ⟨rfl, h9, docq_trans ht2 t9⟩
  have HE := Lib.hid hend
  have f0 := h.ports.frozen (i * 11)
  have f1 := h.ports.frozen (i * 11 + 1)
  have hc := h.ports.cells hi
  have c0 := hc.c0
  have c1 := hc.c1
  by_cases hu : (f i).up = up
  · have hp0 := HE.out w (f i) (by rw [updP_self]; exact h) (by unfold setPt; rw [if_pos hu]) (Touch.refl _ _)
    have HP := Lib.hid hp0
    rw [hu] at c0
    have d4 : (up != up) = false := by simp
    clear h hi hok hend hp0 hu hlen hbs hc
    go_enter Try.func22, Try.ntmps22
    go_wp2_with (first | (go_at_call 46; refine HP.out.mono ?_; rintro e w' ⟨rfl, h9⟩))
    go_ret
    exact ⟨rfl, h9⟩
  · have hu0 : (f i).up = !up := by
      cases h1 : (f i).up <;> cases up <;> simp_all
    have h7 := h.set7 hi ⟨0, 0, 0, 0, 0, 0, true⟩ rfl
    have ht7 : Touch (DocQ base w) w (Go.Proofs.Ytonkmbnnbpbhiaa.set7 w gp (i * 11 + 2) ⟨0, 0, 0, 0, 0, 0, true⟩) := set7_touch (Touch.refl _ w) (fun _ => h.qp) _ _
    have hp0 := HE.out _ _ h7 (by unfold setPt wipeP; rw [if_neg hu]; rfl) ht7
    have HP := Lib.hid hp0
    rw [hu0] at c0
    have d4 : ((!up) != up) = true := by cases up <;> rfl
    have c2 := hc.c2
    have c3 := hc.c3
    have c4 := hc.c4
    have c5 := hc.c5
    have c6 := hc.c6
    have c7 := hc.c7
    have c8 := hc.c8
    have f2 := h.ports.frozen (i * 11 + 2)
    have f3 := h.ports.frozen (i * 11 + 3)
    have f4 := h.ports.frozen (i * 11 + 4)
    have f5 := h.ports.frozen (i * 11 + 5)
    have f6 := h.ports.frozen (i * 11 + 6)
    have f7 := h.ports.frozen (i * 11 + 7)
    have f8 := h.ports.frozen (i * 11 + 8)
    clear h hi hok hend hp0 hu hlen hbs hc h7 ht7
    go_enter Try.func22, Try.ntmps22
    go_wp2_with (first | (go_at_call 46; refine HP.out.mono ?_; rintro e w' ⟨rfl, h9⟩))
    go_ret
    exact ⟨rfl, h9⟩
end
end Go.Proofs.Ytonkmbnnbpbhiaa
