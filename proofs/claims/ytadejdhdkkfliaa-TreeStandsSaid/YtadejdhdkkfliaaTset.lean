/- A port is set up or down, and hears, as contracts. Their conditions: up to six ports, numbers within their ranges. -/
import Derived.Test.YtadejdhdkkfliaaTget
import Derived.Test.YtadejdhdkkfliaaTforget
import Derived.Test.YtadejdhdkkfliaaTanew
namespace Go.Proofs.Ytadejdhdkkfliaa
open Go.RowKit
set_option maxRecDepth 100000

/-- A port's numbers are in their ranges at T. -/
structure Okp (T : Int) (p : Pt) : Prop where
  vec : p.vec.ok
  age : In64 p.age
  way : 0 ≤ p.way ∧ p.way ≤ 16777216
  down : p.up = false → p.none = true
  at_ : 0 ≤ p.at_ ∧ p.at_ ≤ T
  since : 0 ≤ p.since ∧ p.since ≤ T
def POk (T : Int) (m : Nat) (f : Nat → Pt) : Prop := ∀ i, i < m → Okp T (f i)
theorem Okp.hd {T : Int} {p : Pt} (h : Okp T p) : (hdOf p).ok := ⟨h.vec, h.age, by have := h.way.1; show (-9223372036854775808 : Int) ≤ p.way; omega, by have := h.way.2; show p.way ≤ (9223372036854775807 : Int); omega⟩
theorem Okp.more {T T' : Int} {p : Pt} (h : Okp T p) (hT : T ≤ T') : Okp T' p := ⟨h.vec, h.age, h.way, h.down, ⟨h.at_.1, by have := h.at_.2; omega⟩, ⟨h.since.1, by have := h.since.2; omega⟩⟩
theorem in0 : In64 0 := ⟨by decide, by decide⟩
theorem Okp.wipe {T : Int} {p : Pt} (h : Okp T p) : Okp T (wipeP p) := ⟨⟨in0, in0, in0, in0⟩, in0, h.way, fun _ => rfl, h.at_, h.since⟩
theorem Okp.set {T : Int} {p : Pt} (h : Okp T p) (up : Bool) {way : Int} (h0 : 0 ≤ way) (h1 : way ≤ 16777216) : Okp T (setPt p up way) := by
  unfold setPt
  by_cases e : p.up = up
  · rw [if_pos e]
    exact ⟨h.vec, h.age, ⟨h0, h1⟩, fun hu => h.down (e.trans hu), h.at_, h.since⟩
  · rw [if_neg e]
    exact ⟨h.wipe.vec, h.wipe.age, ⟨h0, h1⟩, fun _ => rfl, h.at_, h.since⟩
theorem Okp.got {T : Int} {p : Pt} (h : Okp T p) {v : Vec} {a : Int} (hv : v.ok) (ha : In64 a) (hu : p.up = true) (h0 : 0 ≤ T) : Okp T (gotP p v a T) := ⟨hv, ha, h.way, (fun hd => by have hd : p.up = false := hd; rw [hu] at hd; cases hd), ⟨h0, Int.le_refl _⟩, h.since⟩
theorem POk.upd {T : Int} {m : Nat} {f : Nat → Pt} (h : POk T m f) (i : Nat) {p : Pt} (hp : Okp T p) : POk T m (updP f i p) := fun j hj => by
  unfold updP
  split
  · exact hp
  · exact h j hj
theorem POk.anew {T : Int} {m : Nat} {f : Nat → Pt} (h : POk T m f) (id : Int) (h0 : 0 ≤ T) : POk T m (anewP id m T f) := fun i hi => by
  unfold anewP
  split
  · exact ⟨(h i hi).vec, (h i hi).age, (h i hi).way, (h i hi).down, (h i hi).at_, ⟨h0, Int.le_refl _⟩⟩
  · exact h i hi
theorem POk.old {T : Int} {m : Nat} {f : Nat → Pt} (h : POk T m f) (now : Int) : POk T m (oldP now f) := fun i hi => by
  unfold oldP
  split
  · exact (h i hi).wipe
  · exact h i hi
theorem POk.more {T T' : Int} {m : Nat} {f : Nat → Pt} (h : POk T m f) (hT : T ≤ T') : POk T' m f := fun i hi => (h i hi).more hT
theorem POk.setP {T : Int} {m : Nat} {f : Nat → Pt} (h : POk T m f) (id : Int) (h0 : 0 ≤ T) {i : Nat} (hi : i < m) (up : Bool) {way : Int} (hw0 : 0 ≤ way) (hw1 : way ≤ 16777216) : POk T m (setP id m T f i up way) := (h.upd i ((h i hi).set up hw0 hw1)).anew id h0
theorem POk.hearP {T : Int} {m : Nat} {f : Nat → Pt} (h : POk T m f) (id : Int) (h0 : 0 ≤ T) {i : Nat} (hi : i < m) {v : Vec} {a : Int} (hv : v.ok) (ha : In64 a) (hu : (f i).up = true) : POk T m (hearP id m T f i v a) := (h.upd i ((h i hi).got hv ha hu h0)).anew id h0
theorem POk.tickP {T now : Int} {m : Nat} {f : Nat → Pt} (h : POk T m f) (id : Int) (h0 : 0 ≤ T) (hn : T ≤ now) : POk now m (tickP id m now f) := ((h.more hn).old now).anew id (by omega)

/-- A bridge's part between two calls. -/
def TreeW (w : World) (g gp : Nat) (id : Int) (m : Nat) (f : Nat → Pt) (fw : Nat → Bool) (ch : Int) : Prop := TreeAt w g gp id m f fw (bestP id m f).1 (bestP id m f).2 ch
theorem bestP_anew (id : Int) (m : Nat) (now : Int) (f : Nat → Pt) : bestP id m (anewP id m now f) = bestP id m f := by unfold bestP; rw [anew_hds]
theorem TreeW.of_anew {w : World} {g gp m : Nat} {id now ch : Int} {f : Nat → Pt} {fw : Nat → Bool} (h : TreeAt w g gp id m (anewP id m now f) fw (bestP id m f).1 (bestP id m f).2 ch) : TreeW w g gp id m (anewP id m now f) fw ch := by
  unfold TreeW
  rw [bestP_anew]
  exact h

section
variable {w : World} {g gp m : Nat} {f : Nat → Pt} {fw : Nat → Bool} {id ch : Int}
set_option maxHeartbeats 2000000 in
theorem tset_bad (h : TreeW w g gp id m f fw ch) (i : Int) (up : Bool) (cost now : Int) (hb : ¬ ((0 ≤ i ∧ i < m) ∧ 1 ≤ cost ∧ cost ≤ 16777216)) :
    Calls Try.prog 12 #[.pointer (some ⟨g, 0, none⟩), .int .i64 i, .bool up, .int .i64 cost, .int .i64 now] w fun e w' => e = .returned (.int .i64 1) ∧ w = w' := by
  have HH := has_any h i
  by_cases hi : 0 ≤ i ∧ i < m
  · rw [decide_eq_true hi] at HH
    have HH := Lib.hid HH
    have hb : ¬ (1 ≤ cost ∧ cost ≤ 16777216) := fun h => hb ⟨hi, h⟩
    clear h hi
    by_cases h1 : cost < 1
    · clear hb
      go_enter Try.func12, Try.ntmps12
      go_wp2_with (go_at_call 38; refine HH.out.mono ?_; rintro e w' ⟨rfl, rfl⟩)
      go_ret
      exact ⟨rfl, rfl⟩
    · have d1 : decide (cost < 1) = false := decide_eq_false h1
      have d2 : decide (16777216 < cost) = true := decide_eq_true (by omega)
      clear hb h1
      go_enter Try.func12, Try.ntmps12
      go_wp2_with (go_at_call 38; refine HH.out.mono ?_; rintro e w' ⟨rfl, rfl⟩)
      go_ret
      exact ⟨rfl, rfl⟩
  · rw [decide_eq_false hi] at HH
    have HH := Lib.hid HH
    clear h hi hb
    go_enter Try.func12, Try.ntmps12
    go_wp2_with (go_at_call 38; refine HH.out.mono ?_; rintro e w' ⟨rfl, rfl⟩)
    go_ret
    exact ⟨rfl, rfl⟩
theorem tset_nil (i : Int) (up : Bool) (cost now : Int) (w : World) :
    Calls Try.prog 12 #[.pointer none, .int .i64 i, .bool up, .int .i64 cost, .int .i64 now] w fun e w' => e = .returned (.int .i64 2) ∧ w = w' := by
  go_enter Try.func12, Try.ntmps12
  go_wp2_with fail
  go_ret
  exact ⟨rfl, rfl⟩
theorem PortsAt.put2 {w : World} {f : Nat → Pt} (h : PortsAt w gp m f fw) {i : Nat} (hi : i < m) (up : Bool) (cost : Int) : PortsAt ((w.setCell ⟨gp, i * 12 + 3, none⟩ (.bool up)).setCell ⟨gp, i * 12 + 4 + 5, none⟩ (.int .i64 cost)) gp m (updP f i { f i with up := up, way := cost }) fw := by
  have h1 : PortsAt (w.setCell ⟨gp, i * 12 + 3, none⟩ (.bool up)) gp m (updP f i { f i with up := up }) fw := h.set_ (k := 3) hi (by decide) _ (fun j hj => ⟨if_neg hj, rfl⟩) (by unfold updP; rw [if_pos rfl]; rfl)
  exact h1.set_ (k := 9) hi (by decide) _ (fun j hj => ⟨by unfold updP; rw [if_neg hj, if_neg hj], rfl⟩) (by unfold updP; rw [if_pos rfl, if_pos rfl]; rfl)
set_option maxHeartbeats 4000000 in
theorem tset_ok (h : TreeW w g gp id m f fw ch) (hm : m ≤ 6) {T : Int} (hok : POk T m f) (i : Nat) (hi : i < m) (up : Bool) (cost : Int) (h1 : 1 ≤ cost) (h2 : cost ≤ 16777216) :
    Calls Try.prog 12 #[.pointer (some ⟨g, 0, none⟩), .int .i64 i, .bool up, .int .i64 cost, .int .i64 T] w fun e w' => e = .returned (.int .i64 0) ∧ TreeW w' g gp id m (setP id m T f i up cost) fw ch ∧ Touch (fun k => k = g ∨ k = gp) w w' := by
  have HH := has_any h i
  rw [decide_eq_true (show (0 : Int) ≤ i ∧ (i : Int) < m by omega)] at HH
  have HH := Lib.hid HH
  have H := Lib.hid h
  have t1 := h.t1
  have c3 := (h.ports.cells hi).c3
  have d1 : decide (cost < 1) = false := decide_eq_false (by omega)
  have d2 : decide (16777216 < cost) = false := decide_eq_false (by omega)
  have j1 : (i : Int) < m := by omega
  have j0 : (0 : Int) ≤ i := by omega
  -- what is left when both are stored
  have hend : ∀ wz (p : Pt), TreeAt wz g gp id m (updP f i p) fw (bestP id m f).1 (bestP id m f).2 ch → { p with up := up, way := cost } = setPt (f i) up cost → Touch (fun k => k = g ∨ k = gp) w wz →
      Calls Try.prog 39 #[.pointer (some ⟨g, 0, none⟩), .int .i64 T] ((wz.setCell ⟨gp, i * 12 + 3, none⟩ (.bool up)).setCell ⟨gp, i * 12 + 4 + 5, none⟩ (.int .i64 cost)) fun e w' => e = .returned (.tuple #[]) ∧ TreeW w' g gp id m (setP id m T f i up cost) fw ch ∧ Touch (fun k => k = g ∨ k = gp) w w' := fun wz p hz hp ht => by
    have hq := hz.ports.put2 hi up cost
    have e0 : updP f i p i = p := if_pos rfl
    rw [e0, hp] at hq
    have ht2 := (ht.set_ (a := ⟨gp, i * 12 + 3, none⟩) (fun _ => .inr rfl) (.bool up)).set_ (a := ⟨gp, i * 12 + 4 + 5, none⟩) (fun _ => .inr rfl) (.int .i64 cost)
    have hall : TreeAt ((wz.setCell ⟨gp, i * 12 + 3, none⟩ (.bool up)).setCell ⟨gp, i * 12 + 4 + 5, none⟩ (.int .i64 cost)) g gp id m (updP f i (setPt (f i) up cost)) fw (bestP id m f).1 (bestP id m f).2 ch :=
      ⟨(hz.top.far (show g ≠ gp from hz.ne) _).far (show g ≠ gp from hz.ne) _, hq.congr fun j _ => ⟨by unfold updP; by_cases e : j = i <;> simp [e], rfl⟩⟩
    have hp2 := hok.upd i ((hok i hi).set up (by omega) h2)
    refine (anew_any g gp id m _ fw _ _ ch T hm _ hall (fun j hj => (hp2 j hj).hd) (fun j hj => (hp2 j hj).down)).mono ?_
    rintro e w' ⟨rfl, h9, t9⟩
    exact ⟨rfl, TreeW.of_anew h9, ht2.trans (t9.mono fun k _ hk => hk)⟩
  have HE := Lib.hid hend
  by_cases hu : (f i).up = up
  · have hp0 := HE.out w (f i) (h.congr fun j _ => ⟨by unfold updP; by_cases e : j = i <;> simp [e], rfl⟩) (by unfold setPt; rw [if_pos hu]) (Touch.refl _ _)
    have HP := Lib.hid hp0
    rw [hu] at c3
    have f3 := h.ports.frozen (i * 12 + 3)
    have f9 := h.ports.frozen (i * 12 + 4 + 5)
    have c9 := (h.ports.cells hi).c9
    have d3 : (up != up) = false := by simp
    clear h hi hok hend hp0 hu
    go_enter Try.func12, Try.ntmps12
    go_wp2_with (first | (go_at_call 38; refine HH.out.mono ?_; rintro e w' ⟨rfl, rfl⟩) | (go_at_call 39; refine HP.out.mono ?_; rintro e w' ⟨rfl, h9, t9⟩))
    go_ret
    exact ⟨rfl, h9, t9⟩
  · have hu0 : (f i).up = !up := by
      cases h1 : (f i).up <;> cases up <;> simp_all
    have HF := Lib.hid (forget_any h.ports i hi)
    have hafter : ∀ wz, PortsAt wz gp m (updP f i (wipeP (f i))) fw → Touch (fun k => k = gp) w wz → TreeAt wz g gp id m (updP f i (wipeP (f i))) fw (bestP id m f).1 (bestP id m f).2 ch := fun wz hz ht => ⟨h.top.touch ht h.ne, hz⟩
    have HA := Lib.hid (And.intro hafter (And.intro hi (show { wipeP (f i) with up := up, way := cost } = setPt (f i) up cost by unfold setPt; rw [if_neg hu])))
    rw [hu0] at c3
    clear h hi hok hend hafter hu hu0
    cases up
    all_goals
     simp only [Bool.not_true, Bool.not_false] at c3
     go_enter Try.func12, Try.ntmps12
     go_wp2_with (go_at_call 38; refine HH.out.mono ?_; rintro e w' ⟨rfl, rfl⟩)
     refine HF.out.mono ?_
     rintro e w1 ⟨rfl, h1p, t1p⟩
     have HP := Lib.hid (HE.out w1 (wipeP (f i)) (HA.out.1 w1 h1p t1p) HA.out.2.2 (t1p.mono fun k _ hk => .inr hk))
     have f3 := h1p.frozen (i * 12 + 3)
     have f9 := h1p.frozen (i * 12 + 4 + 5)
     have c3 := (h1p.cells HA.out.2.1).c3
     have c9 := (h1p.cells HA.out.2.1).c9
     clear h1p t1p
     go_wp2_with (go_at_call 39; refine HP.out.mono ?_; rintro e w' ⟨rfl, h9, t9⟩)
     go_ret
     exact ⟨rfl, h9, t9⟩
/-- A message is heard. -/
def Bp.vec (b : Bp) : Vec := ⟨b.root, b.cost, b.bridge, b.port⟩
theorem thear_nil (i : Int) (b : Bp) (now : Int) (w : World) : Calls Try.prog 13 #[.pointer none, .int .i64 i, b.v, .int .i64 now] w fun e w' => e = .returned (.int .i64 2) ∧ Below w.heap.size w w' := by
  obtain ⟨br, bc, bb, bp, ba, bo, bg⟩ := b
  simp only [Bp.v, Bp.cells]
  go_enter Try.func13, Try.ntmps13
  go_wp2_with fail
  go_ret
  exact ⟨rfl, bel_alloc _ _⟩
/-- Which message a bridge's part takes. -/
def Bp.takes (b : Bp) : Prop := b.good = true ∧ b.role = 2
instance (b : Bp) : Decidable b.takes := inferInstanceAs (Decidable (_ ∧ _))
theorem thear_bad (h : TreeW w g gp id m f fw ch) (i : Int) (b : Bp) (hb : b.int) (now : Int) (hn : ¬ ((0 ≤ i ∧ i < m) ∧ b.takes)) :
    Calls Try.prog 13 #[.pointer (some ⟨g, 0, none⟩), .int .i64 i, b.v, .int .i64 now] w fun e w' => e = .returned (.int .i64 1) ∧ Below w.heap.size w w' := by
  have hal := fun o => h.alloc o
  have HG := Lib.hid (fun w => bgood_any b hb w)
  have hb0 := bel_alloc w (.cells b.cells 34)
  have hk0 := Blk.new w 34 b.cells
  have hn' : (0 ≤ i ∧ i < m) → ¬ (b.good = true ∧ b.role = 2) := fun h1 h2 => hn ⟨h1, h2⟩
  obtain ⟨gd, hgd⟩ : ∃ gd, b.good = gd := ⟨_, rfl⟩
  rw [hgd] at HG hn'
  have HH := has_any (hal (.cells b.cells 34)) i
  obtain ⟨br, bc, bb, bp, ba, bo, bg⟩ := b
  simp only [Bp.v, Bp.cells] at *
  have HB := Lib.hid (And.intro hb0 hk0)
  by_cases hi : 0 ≤ i ∧ i < m
  · rw [decide_eq_true hi] at HH
    have HH := Lib.hid HH
    have hn2 := hn' hi
    clear h hi hal hn hn' hgd hb0 hk0
    cases gd
    · clear hn2
      go_enter Try.func13, Try.ntmps13
      go_wp2_with (first | (go_at_call 38; refine HH.out.mono ?_; rintro e w' ⟨rfl, rfl⟩) | (go_at_call 40; refine (HG.out _).mono ?_; rintro e w' ⟨rfl, b1⟩))
      go_ret
      exact ⟨rfl, HB.out.1.trans (b1.mono HB.out.1.size)⟩
    · have d2 : (bo != 2) = true := by simpa using hn2
      clear hn2
      go_enter Try.func13, Try.ntmps13
      go_wp2_with (first | (go_at_call 38; refine HH.out.mono ?_; rintro e w' ⟨rfl, rfl⟩) | (go_at_call 40; refine (HG.out _).mono ?_; rintro e w' ⟨rfl, b1⟩; have c5 := (HB.out.2.below b1 HB.out.2.lt).cell 5))
      go_ret
      exact ⟨rfl, HB.out.1.trans (b1.mono HB.out.1.size)⟩
  · rw [decide_eq_false hi] at HH
    have HH := Lib.hid HH
    clear h hi hal hn hn' hgd hb0 hk0
    go_enter Try.func13, Try.ntmps13
    go_wp2_with (go_at_call 38; refine HH.out.mono ?_; rintro e w' ⟨rfl, rfl⟩)
    go_ret
    exact ⟨rfl, HB.out.1⟩
theorem thear_down (h : TreeW w g gp id m f fw ch) (i : Nat) (hi : i < m) (b : Bp) (hb : b.int) (now : Int) (hn : b.takes) (hu : (f i).up = false) :
    Calls Try.prog 13 #[.pointer (some ⟨g, 0, none⟩), .int .i64 i, b.v, .int .i64 now] w fun e w' => e = .returned (.int .i64 7) ∧ Below w.heap.size w w' := by
  obtain ⟨W, hW⟩ : ∃ W, w.alloc (.cells b.cells 34) = W := ⟨_, rfl⟩
  have hx : TreeAt W g gp id m f fw (bestP id m f).1 (bestP id m f).2 ch := by rw [← hW]; exact h.alloc _
  have hbe : Below w.heap.size w W := by rw [← hW]; exact bel_alloc w _
  have hbk : Blk W w.heap.size 34 b.cells := by rw [← hW]; exact Blk.new w _ _
  have HG := bgood_any b hb W
  rw [hn.1] at HG
  have HG := Lib.hid HG
  have hro : b.role = 2 := hn.2
  have HH := has_any hx i
  rw [decide_eq_true (show (0 : Int) ≤ i ∧ (i : Int) < m by omega)] at HH
  have HH := Lib.hid HH
  have HX := Lib.hid (And.intro hx (And.intro hbe (And.intro hbk (And.intro hi hu))))
  obtain ⟨br, bc, bb, bp, ba, bo, bg⟩ := b
  simp only [Bp.v, Bp.cells] at *
  subst hro
  have j1 : (i : Int) < m := by omega
  have j0 : (0 : Int) ≤ i := by omega
  have b0 : W.cell? ⟨w.heap.size, 0, none⟩ = some (.int .i64 br) := hbk.cell 0
  have b1 : W.cell? ⟨w.heap.size, 1, none⟩ = some (.int .i64 bc) := hbk.cell 1
  have b2 : W.cell? ⟨w.heap.size, 2, none⟩ = some (.int .i64 bb) := hbk.cell 2
  have b3 : W.cell? ⟨w.heap.size, 3, none⟩ = some (.int .i64 bp) := hbk.cell 3
  have b4 : W.cell? ⟨w.heap.size, 4, none⟩ = some (.int .i64 ba) := hbk.cell 4
  have b5 : W.cell? ⟨w.heap.size, 5, none⟩ = some (.int .i64 2) := hbk.cell 5
  have b6 : W.cell? ⟨w.heap.size, 6, none⟩ = some (.bool bg) := hbk.cell 6
  clear h hx hbe hbk hi hu hn
  go_enter Try.func13, Try.ntmps13
  go_wp2_with (first | (go_at_call 38; refine HH.out.mono ?_; rintro e w' ⟨rfl, rfl⟩) | (go_at_call 40; refine HG.out.mono ?_; rintro e w' ⟨rfl, e1⟩; have c5 := (HX.out.2.2.1.below e1 HX.out.2.2.1.lt).cell 5; have h1 := HX.out.1.below e1; have t1 := h1.t1; have c3 := (h1.ports.cells HX.out.2.2.2.1).c3; rw [HX.out.2.2.2.2] at c3))
  go_ret
  exact ⟨rfl, HX.out.2.1.trans (e1.mono HX.out.2.1.size)⟩
set_option maxHeartbeats 4000000 in
theorem thear_ok (h : TreeW w g gp id m f fw ch) (hm : m ≤ 6) {T : Int} (hok : POk T m f) (h0 : 0 ≤ T) (i : Nat) (hi : i < m) (b : Bp) (hb : b.int) (hv : b.vec.ok) (ha : In64 b.age) (hn : b.takes) (hu : (f i).up = true) :
    Calls Try.prog 13 #[.pointer (some ⟨g, 0, none⟩), .int .i64 i, b.v, .int .i64 T] w fun e w' => e = .returned (.int .i64 0) ∧ TreeW w' g gp id m (hearP id m T f i b.vec b.age) fw ch ∧ Touch (fun k => k = g ∨ k = gp) w w' := by
  obtain ⟨W, hW⟩ : ∃ W, w.alloc (.cells b.cells 34) = W := ⟨_, rfl⟩
  have hx : TreeAt W g gp id m f fw (bestP id m f).1 (bestP id m f).2 ch := by rw [← hW]; exact h.alloc _
  have hbe : Below w.heap.size w W := by rw [← hW]; exact bel_alloc w _
  have hbk : Blk W w.heap.size 34 b.cells := by rw [← hW]; exact Blk.new w _ _
  have HG := bgood_any b hb W
  rw [hn.1] at HG
  have HG := Lib.hid HG
  have hro : b.role = 2 := hn.2
  have HH := has_any hx i
  rw [decide_eq_true (show (0 : Int) ≤ i ∧ (i : Int) < m by omega)] at HH
  have HH := Lib.hid HH
  have HX := Lib.hid (And.intro hx (And.intro hbe (And.intro hbk (And.intro hi hu))))
  have hgot := (hok i hi).got hv ha hu h0
  have hend : ∀ w1, TreeAt w1 g gp id m f fw (bestP id m f).1 (bestP id m f).2 ch → Touch (fun k => k = g ∨ k = gp) w w1 → ∀ w2, PortsAt w2 gp m (updP f i (gotP (f i) b.vec b.age T)) fw → Touch (fun k => k = gp) w1 w2 →
      Calls Try.prog 39 #[.pointer (some ⟨g, 0, none⟩), .int .i64 T] w2 fun e w' => e = .returned (.tuple #[]) ∧ TreeW w' g gp id m (hearP id m T f i b.vec b.age) fw ch ∧ Touch (fun k => k = g ∨ k = gp) w w' := fun w1 h1 t1 w2 h2 t2 => by
    have hp2 := hok.upd i hgot
    refine (anew_any g gp id m _ fw _ _ ch T hm w2 ⟨h1.top.touch t2 h1.ne, h2⟩ (fun j hj => (hp2 j hj).hd) (fun j hj => (hp2 j hj).down)).mono ?_
    rintro e w' ⟨rfl, h9, t9⟩
    exact ⟨rfl, TreeW.of_anew h9, (t1.trans (t2.mono (q := fun k => k = g ∨ k = gp) fun k _ hk => .inr hk)).trans (t9.mono fun k _ hk => hk)⟩
  have HE := Lib.hid hend
  have HPH := Lib.hid (fun (w : World) (h : PortsAt w gp m f fw) => phear_any h i hi b T)
  obtain ⟨br, bc, bb, bp, ba, bo, bg⟩ := b
  simp only [Bp.v, Bp.cells] at *
  subst hro
  have j1 : (i : Int) < m := by omega
  have j0 : (0 : Int) ≤ i := by omega
  have b0 : W.cell? ⟨w.heap.size, 0, none⟩ = some (.int .i64 br) := hbk.cell 0
  have b1 : W.cell? ⟨w.heap.size, 1, none⟩ = some (.int .i64 bc) := hbk.cell 1
  have b2 : W.cell? ⟨w.heap.size, 2, none⟩ = some (.int .i64 bb) := hbk.cell 2
  have b3 : W.cell? ⟨w.heap.size, 3, none⟩ = some (.int .i64 bp) := hbk.cell 3
  have b4 : W.cell? ⟨w.heap.size, 4, none⟩ = some (.int .i64 ba) := hbk.cell 4
  have b5 : W.cell? ⟨w.heap.size, 5, none⟩ = some (.int .i64 2) := hbk.cell 5
  have b6 : W.cell? ⟨w.heap.size, 6, none⟩ = some (.bool bg) := hbk.cell 6
  clear h hx hbe hbk hi hu hn hend hgot hok
  go_enter Try.func13, Try.ntmps13
  go_wp2_with (go_at_call 38; refine HH.out.mono ?_; rintro e w' ⟨rfl, rfl⟩)
  refine HG.out.mono ?_
  rintro e w1 ⟨rfl, e1⟩
  have k1 := HX.out.2.2.1.below e1 HX.out.2.2.1.lt
  have h1 := HX.out.1.below e1
  have t1 := h1.t1
  have c3 := (h1.ports.cells HX.out.2.2.2.1).c3
  rw [HX.out.2.2.2.2] at c3
  have c0 : w1.cell? ⟨w.heap.size, 0, none⟩ = some (.int .i64 br) := k1.cell 0
  have c1 : w1.cell? ⟨w.heap.size, 1, none⟩ = some (.int .i64 bc) := k1.cell 1
  have c2 : w1.cell? ⟨w.heap.size, 2, none⟩ = some (.int .i64 bb) := k1.cell 2
  have c3' : w1.cell? ⟨w.heap.size, 3, none⟩ = some (.int .i64 bp) := k1.cell 3
  have c4 : w1.cell? ⟨w.heap.size, 4, none⟩ = some (.int .i64 ba) := k1.cell 4
  have c5 : w1.cell? ⟨w.heap.size, 5, none⟩ = some (.int .i64 2) := k1.cell 5
  have c6 : w1.cell? ⟨w.heap.size, 6, none⟩ = some (.bool bg) := k1.cell 6
  have H1 := Lib.hid (And.intro h1 (show Touch (fun k => k = g ∨ k = gp) w w1 from (Below.touch (HX.out.2.1.trans (e1.mono HX.out.2.1.size))).mono fun k hk hk' => by omega))
  clear k1 h1 e1 b0 b1 b2 b3 b4 b5 b6
  go_wp2_with fail
  go_region_law ((go_simp; go_at_call 41; refine (HPH.out _ H1.out.1.ports.drew).mono ?_; rintro e w2 ⟨rfl, h2, t2⟩))
  all_goals
    have HP := Lib.hid (HE.out w1.drew H1.out.1.drew H1.out.2.drew w2 h2 t2)
    clear h2 t2
    go_wp2_with (go_at_call 39; refine HP.out.mono ?_; rintro e w' ⟨rfl, h9, t9⟩)
    go_ret
    exact ⟨rfl, h9, t9⟩
end
end Go.Proofs.Ytadejdhdkkfliaa
