/- MrpduAttrs: Attr and Compare answer what the document says, of all attributes, and it is an order. No condition. -/
import Derived.Test.YtmjpjkieadjmpaaMrOpen
import Derived.ProofKit
import Derived.OpenShut
import Derived.ShutString
import Derived.ChangeOld
import Derived.Deep.RegionHeld3
namespace Go.Proofs.Ytmjpjkieadjmpaa
open Go.ChangeShapes Go.WideShapes Go.ChangeAt Go.RowKit

set_option maxHeartbeats 4000000 in
set_option maxRecDepth 100000 in
theorem walkMrpduAttrs (t v t' v' : Int) (W : World) :
    Calls Try.prog 4 #[.agg #[.int .i64 t, .int .i64 v], .agg #[.int .i64 t', .int .i64 v']] W fun e w' => e = .returned (.bool true) ∧ Below W.heap.size W w' := by
  rcases (show t < t' ∨ (t = t' ∧ v < v') ∨ (t = t' ∧ v = v') ∨ (t = t' ∧ v' < v) ∨ t' < t from by omega) with h | ⟨rfl, h⟩ | ⟨rfl, rfl⟩ | ⟨rfl, h⟩ | h
  · have hx : cmpA t v t' v' = -1 := by simp [cmpA, orI, cmpI]; omega
    have hy : cmpA t' v' t v = 1 := by simp [cmpA, orI, cmpI]; omega
    have hla : lessB t v t' v' = true := by simp [lessB]; omega
    have hlb : lessB t' v' t v = false := by simp [lessB]; omega
    have d : (t == t') = false := by simp; omega
    have HX := Lib.hid hx
    have HY := Lib.hid hy
    have HLA := Lib.hid hla
    have HLB := Lib.hid hlb
    clear hx hy hla hlb h
    have hb0 := Blk.new W 37 #[.int .i64 t, .int .i64 v]
    have hb1 := hb0.alloc (.cells #[.int .i64 t', .int .i64 v'] 37)
    have hb2 := Blk.new (W.alloc (.cells #[.int .i64 t, .int .i64 v] 37)) 37 #[.int .i64 t', .int .i64 v']
    rw [show (W.alloc (.cells #[.int .i64 t, .int .i64 v] 37)).heap.size = W.heap.size + 1 from by simp] at hb2
    have hbl := bel_alloc2 W (.cells #[.int .i64 t, .int .i64 v] 37) (.cells #[.int .i64 t', .int .i64 v'] 37)
    clear hb0
    go_enter Try.func4, Try.ntmps4
    go_wp2_with fail
    generalize (W.alloc (.cells #[.int .i64 t, .int .i64 v] 37)).alloc (.cells #[.int .i64 t', .int .i64 v'] 37) = W2 at *
    refine (alive_any _).mono ?_
    rintro e w1 ⟨rfl, b1⟩
    have x1 := hb1.below b1 hb1.lt
    have x2 := hb2.below b1 hb2.lt
    have hbl1 := hbl.trans (b1.mono hbl.size)
    have c0 : w1.cell? ⟨W.heap.size, 0, none⟩ = some (.int .i64 t) := x1.cell 0
    have c1 : w1.cell? ⟨W.heap.size, 1, none⟩ = some (.int .i64 v) := x1.cell 1
    have c2 : w1.cell? ⟨W.heap.size + 1, 0, none⟩ = some (.int .i64 t') := x2.cell 0
    have c3 : w1.cell? ⟨W.heap.size + 1, 1, none⟩ = some (.int .i64 v') := x2.cell 1
    clear hb1 hb2 hbl b1
    go_wp2_with fail
    refine (compare_any t v t' v' _).mono ?_
    rw [HX.out]
    rintro e w2 ⟨rfl, b2⟩
    have y1 := x1.below b2 x1.lt
    have y2 := x2.below b2 x2.lt
    have hbl2 := hbl1.trans (b2.mono hbl1.size)
    clear c0 c1 c2 c3 x1 x2 hbl1 b2
    have hS : ∀ w' : World, Below w2.heap.size w2 w' → w'.cell? ⟨W.heap.size, 0, none⟩ = some (.int .i64 t) ∧ w'.cell? ⟨W.heap.size, 1, none⟩ = some (.int .i64 v) ∧ w'.cell? ⟨W.heap.size + 1, 0, none⟩ = some (.int .i64 t') ∧ w'.cell? ⟨W.heap.size + 1, 1, none⟩ = some (.int .i64 v') := fun w' hb => ⟨(y1.below hb y1.lt).cell 0, (y1.below hb y1.lt).cell 1, (y2.below hb y2.lt).cell 0, (y2.below hb y2.lt).cell 1⟩
    have HS := Lib.hid hS
    have bd0 : Below w2.heap.size w2 w2.drew := bel_drewN (Below.refl _ _) 1
    clear hS y1 y2
    generalize hab : attrB t v = ab
    have HAB := Lib.hid hab
    clear hab
    have hbb : (ab == ab) = true := by simp
    go_wp2_with fail
    go_region_held3 (fun w' => w'.cell? ⟨W.heap.size, 0, none⟩ = some (.int .i64 t) ∧ w'.cell? ⟨W.heap.size, 1, none⟩ = some (.int .i64 v) ∧ w'.cell? ⟨W.heap.size + 1, 0, none⟩ = some (.int .i64 t') ∧ w'.cell? ⟨W.heap.size + 1, 1, none⟩ = some (.int .i64 v'))
      (first | exact HS.out _ bd5 | exact HS.out _ bd4 | exact HS.out _ bd3 | exact HS.out _ bd2 | exact HS.out _ bd1 | exact HS.out _ bd0)
      (first
        | (go_at_call 18; refine (attr_any t v _).mono ?_; rw [HAB.out]; rintro e w3 ⟨rfl, b3⟩; have bd1 := bd0.trans (b3.mono bd0.size))
        | (go_at_call 19; refine (attrr_any t v _).mono ?_; rw [HAB.out]; rintro e w4 ⟨rfl, b4⟩; have bd2 := bd1.trans (b4.mono bd1.size))
        | (go_at_call 20; (with_reducible refine (less_any t v t' v' w4).mono ?_); rw [HLA.out]; rintro e w5 ⟨rfl, b5⟩; have bd3 := bd2.trans (b5.mono bd2.size))
        | (go_at_call 20; (with_reducible refine (less_any t' v' t v w5).mono ?_); rw [HLB.out]; rintro e w6 ⟨rfl, b6⟩; have bd4 := bd3.trans (b6.mono bd3.size))
        | (go_at_call 17; refine (compare_any t' v' t v _).mono ?_; rw [HY.out]; rintro e w7 ⟨rfl, b7⟩; have bd5 := bd4.trans (b7.mono bd4.size)))
    all_goals
      have hf := hbl2.trans (bd5.mono hbl2.size)
      clear bd5 bd4 bd3 bd2 bd1 bd0 b3 b4 b5 b6 b7
      go_wp2_with fail
      go_ret
      exact ⟨rfl, hf⟩
  · have hx : cmpA t v t v' = -1 := by simp [cmpA, orI, cmpI]; omega
    have hy : cmpA t v' t v = 1 := by simp [cmpA, orI, cmpI]; omega
    have hla : lessB t v t v' = true := by simp [lessB]; omega
    have hlb : lessB t v' t v = false := by simp [lessB]; omega
    have d : (v == v') = false := by simp; omega
    have HX := Lib.hid hx
    have HY := Lib.hid hy
    have HLA := Lib.hid hla
    have HLB := Lib.hid hlb
    clear hx hy hla hlb h
    have hb0 := Blk.new W 37 #[.int .i64 t, .int .i64 v]
    have hb1 := hb0.alloc (.cells #[.int .i64 t, .int .i64 v'] 37)
    have hb2 := Blk.new (W.alloc (.cells #[.int .i64 t, .int .i64 v] 37)) 37 #[.int .i64 t, .int .i64 v']
    rw [show (W.alloc (.cells #[.int .i64 t, .int .i64 v] 37)).heap.size = W.heap.size + 1 from by simp] at hb2
    have hbl := bel_alloc2 W (.cells #[.int .i64 t, .int .i64 v] 37) (.cells #[.int .i64 t, .int .i64 v'] 37)
    clear hb0
    go_enter Try.func4, Try.ntmps4
    go_wp2_with fail
    generalize (W.alloc (.cells #[.int .i64 t, .int .i64 v] 37)).alloc (.cells #[.int .i64 t, .int .i64 v'] 37) = W2 at *
    refine (alive_any _).mono ?_
    rintro e w1 ⟨rfl, b1⟩
    have x1 := hb1.below b1 hb1.lt
    have x2 := hb2.below b1 hb2.lt
    have hbl1 := hbl.trans (b1.mono hbl.size)
    have c0 : w1.cell? ⟨W.heap.size, 0, none⟩ = some (.int .i64 t) := x1.cell 0
    have c1 : w1.cell? ⟨W.heap.size, 1, none⟩ = some (.int .i64 v) := x1.cell 1
    have c2 : w1.cell? ⟨W.heap.size + 1, 0, none⟩ = some (.int .i64 t) := x2.cell 0
    have c3 : w1.cell? ⟨W.heap.size + 1, 1, none⟩ = some (.int .i64 v') := x2.cell 1
    clear hb1 hb2 hbl b1
    go_wp2_with fail
    refine (compare_any t v t v' _).mono ?_
    rw [HX.out]
    rintro e w2 ⟨rfl, b2⟩
    have y1 := x1.below b2 x1.lt
    have y2 := x2.below b2 x2.lt
    have hbl2 := hbl1.trans (b2.mono hbl1.size)
    clear c0 c1 c2 c3 x1 x2 hbl1 b2
    have hS : ∀ w' : World, Below w2.heap.size w2 w' → w'.cell? ⟨W.heap.size, 0, none⟩ = some (.int .i64 t) ∧ w'.cell? ⟨W.heap.size, 1, none⟩ = some (.int .i64 v) ∧ w'.cell? ⟨W.heap.size + 1, 0, none⟩ = some (.int .i64 t) ∧ w'.cell? ⟨W.heap.size + 1, 1, none⟩ = some (.int .i64 v') := fun w' hb => ⟨(y1.below hb y1.lt).cell 0, (y1.below hb y1.lt).cell 1, (y2.below hb y2.lt).cell 0, (y2.below hb y2.lt).cell 1⟩
    have HS := Lib.hid hS
    have bd0 : Below w2.heap.size w2 w2.drew := bel_drewN (Below.refl _ _) 1
    clear hS y1 y2
    generalize hab : attrB t v = ab
    have HAB := Lib.hid hab
    clear hab
    have hbb : (ab == ab) = true := by simp
    go_wp2_with fail
    go_region_held3 (fun w' => w'.cell? ⟨W.heap.size, 0, none⟩ = some (.int .i64 t) ∧ w'.cell? ⟨W.heap.size, 1, none⟩ = some (.int .i64 v) ∧ w'.cell? ⟨W.heap.size + 1, 0, none⟩ = some (.int .i64 t) ∧ w'.cell? ⟨W.heap.size + 1, 1, none⟩ = some (.int .i64 v'))
      (first | exact HS.out _ bd5 | exact HS.out _ bd4 | exact HS.out _ bd3 | exact HS.out _ bd2 | exact HS.out _ bd1 | exact HS.out _ bd0)
      (first
        | (go_at_call 18; refine (attr_any t v _).mono ?_; rw [HAB.out]; rintro e w3 ⟨rfl, b3⟩; have bd1 := bd0.trans (b3.mono bd0.size))
        | (go_at_call 19; refine (attrr_any t v _).mono ?_; rw [HAB.out]; rintro e w4 ⟨rfl, b4⟩; have bd2 := bd1.trans (b4.mono bd1.size))
        | (go_at_call 20; (with_reducible refine (less_any t v t v' w4).mono ?_); rw [HLA.out]; rintro e w5 ⟨rfl, b5⟩; have bd3 := bd2.trans (b5.mono bd2.size))
        | (go_at_call 20; (with_reducible refine (less_any t v' t v w5).mono ?_); rw [HLB.out]; rintro e w6 ⟨rfl, b6⟩; have bd4 := bd3.trans (b6.mono bd3.size))
        | (go_at_call 17; refine (compare_any t v' t v _).mono ?_; rw [HY.out]; rintro e w7 ⟨rfl, b7⟩; have bd5 := bd4.trans (b7.mono bd4.size)))
    all_goals
      have hf := hbl2.trans (bd5.mono hbl2.size)
      clear bd5 bd4 bd3 bd2 bd1 bd0 b3 b4 b5 b6 b7
      go_wp2_with fail
      go_ret
      exact ⟨rfl, hf⟩
  · have hx : cmpA t v t v = 0 := by simp [cmpA, orI, cmpI]
    have hy : cmpA t v t v = 0 := by simp [cmpA, orI, cmpI]
    have hla : lessB t v t v = false := by simp [lessB]
    have hlb : lessB t v t v = false := by simp [lessB]
    have HX := Lib.hid hx
    have HY := Lib.hid hy
    have HLA := Lib.hid hla
    have HLB := Lib.hid hlb
    clear hx hy hla hlb
    have hb0 := Blk.new W 37 #[.int .i64 t, .int .i64 v]
    have hb1 := hb0.alloc (.cells #[.int .i64 t, .int .i64 v] 37)
    have hb2 := Blk.new (W.alloc (.cells #[.int .i64 t, .int .i64 v] 37)) 37 #[.int .i64 t, .int .i64 v]
    rw [show (W.alloc (.cells #[.int .i64 t, .int .i64 v] 37)).heap.size = W.heap.size + 1 from by simp] at hb2
    have hbl := bel_alloc2 W (.cells #[.int .i64 t, .int .i64 v] 37) (.cells #[.int .i64 t, .int .i64 v] 37)
    clear hb0
    go_enter Try.func4, Try.ntmps4
    go_wp2_with fail
    generalize (W.alloc (.cells #[.int .i64 t, .int .i64 v] 37)).alloc (.cells #[.int .i64 t, .int .i64 v] 37) = W2 at *
    refine (alive_any _).mono ?_
    rintro e w1 ⟨rfl, b1⟩
    have x1 := hb1.below b1 hb1.lt
    have x2 := hb2.below b1 hb2.lt
    have hbl1 := hbl.trans (b1.mono hbl.size)
    have c0 : w1.cell? ⟨W.heap.size, 0, none⟩ = some (.int .i64 t) := x1.cell 0
    have c1 : w1.cell? ⟨W.heap.size, 1, none⟩ = some (.int .i64 v) := x1.cell 1
    have c2 : w1.cell? ⟨W.heap.size + 1, 0, none⟩ = some (.int .i64 t) := x2.cell 0
    have c3 : w1.cell? ⟨W.heap.size + 1, 1, none⟩ = some (.int .i64 v) := x2.cell 1
    clear hb1 hb2 hbl b1
    go_wp2_with fail
    refine (compare_any t v t v _).mono ?_
    rw [HX.out]
    rintro e w2 ⟨rfl, b2⟩
    have y1 := x1.below b2 x1.lt
    have y2 := x2.below b2 x2.lt
    have hbl2 := hbl1.trans (b2.mono hbl1.size)
    clear c0 c1 c2 c3 x1 x2 hbl1 b2
    have hS : ∀ w' : World, Below w2.heap.size w2 w' → w'.cell? ⟨W.heap.size, 0, none⟩ = some (.int .i64 t) ∧ w'.cell? ⟨W.heap.size, 1, none⟩ = some (.int .i64 v) ∧ w'.cell? ⟨W.heap.size + 1, 0, none⟩ = some (.int .i64 t) ∧ w'.cell? ⟨W.heap.size + 1, 1, none⟩ = some (.int .i64 v) := fun w' hb => ⟨(y1.below hb y1.lt).cell 0, (y1.below hb y1.lt).cell 1, (y2.below hb y2.lt).cell 0, (y2.below hb y2.lt).cell 1⟩
    have HS := Lib.hid hS
    have bd0 : Below w2.heap.size w2 w2.drew := bel_drewN (Below.refl _ _) 1
    clear hS y1 y2
    generalize hab : attrB t v = ab
    have HAB := Lib.hid hab
    clear hab
    have hbb : (ab == ab) = true := by simp
    go_wp2_with fail
    go_region_held3 (fun w' => w'.cell? ⟨W.heap.size, 0, none⟩ = some (.int .i64 t) ∧ w'.cell? ⟨W.heap.size, 1, none⟩ = some (.int .i64 v) ∧ w'.cell? ⟨W.heap.size + 1, 0, none⟩ = some (.int .i64 t) ∧ w'.cell? ⟨W.heap.size + 1, 1, none⟩ = some (.int .i64 v))
      (first | exact HS.out _ bd5 | exact HS.out _ bd4 | exact HS.out _ bd3 | exact HS.out _ bd2 | exact HS.out _ bd1 | exact HS.out _ bd0)
      (first
        | (go_at_call 18; refine (attr_any t v _).mono ?_; rw [HAB.out]; rintro e w3 ⟨rfl, b3⟩; have bd1 := bd0.trans (b3.mono bd0.size))
        | (go_at_call 19; refine (attrr_any t v _).mono ?_; rw [HAB.out]; rintro e w4 ⟨rfl, b4⟩; have bd2 := bd1.trans (b4.mono bd1.size))
        | (go_at_call 20; (with_reducible refine (less_any t v t v w4).mono ?_); rw [HLA.out]; rintro e w5 ⟨rfl, b5⟩; have bd3 := bd2.trans (b5.mono bd2.size))
        | (go_at_call 20; (with_reducible refine (less_any t v t v w5).mono ?_); rw [HLB.out]; rintro e w6 ⟨rfl, b6⟩; have bd4 := bd3.trans (b6.mono bd3.size))
        | (go_at_call 17; refine (compare_any t v t v _).mono ?_; rw [HY.out]; rintro e w7 ⟨rfl, b7⟩; have bd5 := bd4.trans (b7.mono bd4.size)))
    all_goals
      have hf := hbl2.trans (bd5.mono hbl2.size)
      clear bd5 bd4 bd3 bd2 bd1 bd0 b3 b4 b5 b6 b7
      go_wp2_with fail
      go_ret
      exact ⟨rfl, hf⟩
  · have hx : cmpA t v t v' = 1 := by simp [cmpA, orI, cmpI]; omega
    have hy : cmpA t v' t v = -1 := by simp [cmpA, orI, cmpI]; omega
    have hla : lessB t v t v' = false := by simp [lessB]; omega
    have hlb : lessB t v' t v = true := by simp [lessB]; omega
    have d : (v == v') = false := by simp; omega
    have HX := Lib.hid hx
    have HY := Lib.hid hy
    have HLA := Lib.hid hla
    have HLB := Lib.hid hlb
    clear hx hy hla hlb h
    have hb0 := Blk.new W 37 #[.int .i64 t, .int .i64 v]
    have hb1 := hb0.alloc (.cells #[.int .i64 t, .int .i64 v'] 37)
    have hb2 := Blk.new (W.alloc (.cells #[.int .i64 t, .int .i64 v] 37)) 37 #[.int .i64 t, .int .i64 v']
    rw [show (W.alloc (.cells #[.int .i64 t, .int .i64 v] 37)).heap.size = W.heap.size + 1 from by simp] at hb2
    have hbl := bel_alloc2 W (.cells #[.int .i64 t, .int .i64 v] 37) (.cells #[.int .i64 t, .int .i64 v'] 37)
    clear hb0
    go_enter Try.func4, Try.ntmps4
    go_wp2_with fail
    generalize (W.alloc (.cells #[.int .i64 t, .int .i64 v] 37)).alloc (.cells #[.int .i64 t, .int .i64 v'] 37) = W2 at *
    refine (alive_any _).mono ?_
    rintro e w1 ⟨rfl, b1⟩
    have x1 := hb1.below b1 hb1.lt
    have x2 := hb2.below b1 hb2.lt
    have hbl1 := hbl.trans (b1.mono hbl.size)
    have c0 : w1.cell? ⟨W.heap.size, 0, none⟩ = some (.int .i64 t) := x1.cell 0
    have c1 : w1.cell? ⟨W.heap.size, 1, none⟩ = some (.int .i64 v) := x1.cell 1
    have c2 : w1.cell? ⟨W.heap.size + 1, 0, none⟩ = some (.int .i64 t) := x2.cell 0
    have c3 : w1.cell? ⟨W.heap.size + 1, 1, none⟩ = some (.int .i64 v') := x2.cell 1
    clear hb1 hb2 hbl b1
    go_wp2_with fail
    refine (compare_any t v t v' _).mono ?_
    rw [HX.out]
    rintro e w2 ⟨rfl, b2⟩
    have y1 := x1.below b2 x1.lt
    have y2 := x2.below b2 x2.lt
    have hbl2 := hbl1.trans (b2.mono hbl1.size)
    clear c0 c1 c2 c3 x1 x2 hbl1 b2
    have hS : ∀ w' : World, Below w2.heap.size w2 w' → w'.cell? ⟨W.heap.size, 0, none⟩ = some (.int .i64 t) ∧ w'.cell? ⟨W.heap.size, 1, none⟩ = some (.int .i64 v) ∧ w'.cell? ⟨W.heap.size + 1, 0, none⟩ = some (.int .i64 t) ∧ w'.cell? ⟨W.heap.size + 1, 1, none⟩ = some (.int .i64 v') := fun w' hb => ⟨(y1.below hb y1.lt).cell 0, (y1.below hb y1.lt).cell 1, (y2.below hb y2.lt).cell 0, (y2.below hb y2.lt).cell 1⟩
    have HS := Lib.hid hS
    have bd0 : Below w2.heap.size w2 w2.drew := bel_drewN (Below.refl _ _) 1
    clear hS y1 y2
    generalize hab : attrB t v = ab
    have HAB := Lib.hid hab
    clear hab
    have hbb : (ab == ab) = true := by simp
    go_wp2_with fail
    go_region_held3 (fun w' => w'.cell? ⟨W.heap.size, 0, none⟩ = some (.int .i64 t) ∧ w'.cell? ⟨W.heap.size, 1, none⟩ = some (.int .i64 v) ∧ w'.cell? ⟨W.heap.size + 1, 0, none⟩ = some (.int .i64 t) ∧ w'.cell? ⟨W.heap.size + 1, 1, none⟩ = some (.int .i64 v'))
      (first | exact HS.out _ bd5 | exact HS.out _ bd4 | exact HS.out _ bd3 | exact HS.out _ bd2 | exact HS.out _ bd1 | exact HS.out _ bd0)
      (first
        | (go_at_call 18; refine (attr_any t v _).mono ?_; rw [HAB.out]; rintro e w3 ⟨rfl, b3⟩; have bd1 := bd0.trans (b3.mono bd0.size))
        | (go_at_call 19; refine (attrr_any t v _).mono ?_; rw [HAB.out]; rintro e w4 ⟨rfl, b4⟩; have bd2 := bd1.trans (b4.mono bd1.size))
        | (go_at_call 20; (with_reducible refine (less_any t v t v' w4).mono ?_); rw [HLA.out]; rintro e w5 ⟨rfl, b5⟩; have bd3 := bd2.trans (b5.mono bd2.size))
        | (go_at_call 20; (with_reducible refine (less_any t v' t v w5).mono ?_); rw [HLB.out]; rintro e w6 ⟨rfl, b6⟩; have bd4 := bd3.trans (b6.mono bd3.size))
        | (go_at_call 17; refine (compare_any t v' t v _).mono ?_; rw [HY.out]; rintro e w7 ⟨rfl, b7⟩; have bd5 := bd4.trans (b7.mono bd4.size)))
    all_goals
      have hf := hbl2.trans (bd5.mono hbl2.size)
      clear bd5 bd4 bd3 bd2 bd1 bd0 b3 b4 b5 b6 b7
      go_wp2_with fail
      go_ret
      exact ⟨rfl, hf⟩
  · have hx : cmpA t v t' v' = 1 := by simp [cmpA, orI, cmpI]; omega
    have hy : cmpA t' v' t v = -1 := by simp [cmpA, orI, cmpI]; omega
    have hla : lessB t v t' v' = false := by simp [lessB]; omega
    have hlb : lessB t' v' t v = true := by simp [lessB]; omega
    have d : (t == t') = false := by simp; omega
    have HX := Lib.hid hx
    have HY := Lib.hid hy
    have HLA := Lib.hid hla
    have HLB := Lib.hid hlb
    clear hx hy hla hlb h
    have hb0 := Blk.new W 37 #[.int .i64 t, .int .i64 v]
    have hb1 := hb0.alloc (.cells #[.int .i64 t', .int .i64 v'] 37)
    have hb2 := Blk.new (W.alloc (.cells #[.int .i64 t, .int .i64 v] 37)) 37 #[.int .i64 t', .int .i64 v']
    rw [show (W.alloc (.cells #[.int .i64 t, .int .i64 v] 37)).heap.size = W.heap.size + 1 from by simp] at hb2
    have hbl := bel_alloc2 W (.cells #[.int .i64 t, .int .i64 v] 37) (.cells #[.int .i64 t', .int .i64 v'] 37)
    clear hb0
    go_enter Try.func4, Try.ntmps4
    go_wp2_with fail
    generalize (W.alloc (.cells #[.int .i64 t, .int .i64 v] 37)).alloc (.cells #[.int .i64 t', .int .i64 v'] 37) = W2 at *
    refine (alive_any _).mono ?_
    rintro e w1 ⟨rfl, b1⟩
    have x1 := hb1.below b1 hb1.lt
    have x2 := hb2.below b1 hb2.lt
    have hbl1 := hbl.trans (b1.mono hbl.size)
    have c0 : w1.cell? ⟨W.heap.size, 0, none⟩ = some (.int .i64 t) := x1.cell 0
    have c1 : w1.cell? ⟨W.heap.size, 1, none⟩ = some (.int .i64 v) := x1.cell 1
    have c2 : w1.cell? ⟨W.heap.size + 1, 0, none⟩ = some (.int .i64 t') := x2.cell 0
    have c3 : w1.cell? ⟨W.heap.size + 1, 1, none⟩ = some (.int .i64 v') := x2.cell 1
    clear hb1 hb2 hbl b1
    go_wp2_with fail
    refine (compare_any t v t' v' _).mono ?_
    rw [HX.out]
    rintro e w2 ⟨rfl, b2⟩
    have y1 := x1.below b2 x1.lt
    have y2 := x2.below b2 x2.lt
    have hbl2 := hbl1.trans (b2.mono hbl1.size)
    clear c0 c1 c2 c3 x1 x2 hbl1 b2
    have hS : ∀ w' : World, Below w2.heap.size w2 w' → w'.cell? ⟨W.heap.size, 0, none⟩ = some (.int .i64 t) ∧ w'.cell? ⟨W.heap.size, 1, none⟩ = some (.int .i64 v) ∧ w'.cell? ⟨W.heap.size + 1, 0, none⟩ = some (.int .i64 t') ∧ w'.cell? ⟨W.heap.size + 1, 1, none⟩ = some (.int .i64 v') := fun w' hb => ⟨(y1.below hb y1.lt).cell 0, (y1.below hb y1.lt).cell 1, (y2.below hb y2.lt).cell 0, (y2.below hb y2.lt).cell 1⟩
    have HS := Lib.hid hS
    have bd0 : Below w2.heap.size w2 w2.drew := bel_drewN (Below.refl _ _) 1
    clear hS y1 y2
    generalize hab : attrB t v = ab
    have HAB := Lib.hid hab
    clear hab
    have hbb : (ab == ab) = true := by simp
    go_wp2_with fail
    go_region_held3 (fun w' => w'.cell? ⟨W.heap.size, 0, none⟩ = some (.int .i64 t) ∧ w'.cell? ⟨W.heap.size, 1, none⟩ = some (.int .i64 v) ∧ w'.cell? ⟨W.heap.size + 1, 0, none⟩ = some (.int .i64 t') ∧ w'.cell? ⟨W.heap.size + 1, 1, none⟩ = some (.int .i64 v'))
      (first | exact HS.out _ bd5 | exact HS.out _ bd4 | exact HS.out _ bd3 | exact HS.out _ bd2 | exact HS.out _ bd1 | exact HS.out _ bd0)
      (first
        | (go_at_call 18; refine (attr_any t v _).mono ?_; rw [HAB.out]; rintro e w3 ⟨rfl, b3⟩; have bd1 := bd0.trans (b3.mono bd0.size))
        | (go_at_call 19; refine (attrr_any t v _).mono ?_; rw [HAB.out]; rintro e w4 ⟨rfl, b4⟩; have bd2 := bd1.trans (b4.mono bd1.size))
        | (go_at_call 20; (with_reducible refine (less_any t v t' v' w4).mono ?_); rw [HLA.out]; rintro e w5 ⟨rfl, b5⟩; have bd3 := bd2.trans (b5.mono bd2.size))
        | (go_at_call 20; (with_reducible refine (less_any t' v' t v w5).mono ?_); rw [HLB.out]; rintro e w6 ⟨rfl, b6⟩; have bd4 := bd3.trans (b6.mono bd3.size))
        | (go_at_call 17; refine (compare_any t' v' t v _).mono ?_; rw [HY.out]; rintro e w7 ⟨rfl, b7⟩; have bd5 := bd4.trans (b7.mono bd4.size)))
    all_goals
      have hf := hbl2.trans (bd5.mono hbl2.size)
      clear bd5 bd4 bd3 bd2 bd1 bd0 b3 b4 b5 b6 b7
      go_wp2_with fail
      go_ret
      exact ⟨rfl, hf⟩
set_option maxRecDepth 100000 in
theorem liftedMrpduAttrs (os : Os) (started : os.Started) (H : Type) (enc : TypeId × Value → H) :
    ReturnsInHanded {} Try.checked os 4 .any (Rows.mrpduAttrsSpec.pre6 enc Try.prog Try.f4 Rows.mrpduAttrsRow.domain false) (Rows.mrpduAttrsSpec.post enc Try.prog Try.f4 false true false false) := by
  refine returnsInHanded_of_change (C := Try.checked) own started (by kernel_rfl) Try.func4
    (ChangeSpec.witness6 (enc := enc) (C := Try.checked) false ⟨#[], #[.agg #[.int .i64 0, .int .i64 0], .agg #[.int .i64 0, .int .i64 0]], []⟩ 8 (by kernel_rfl) (by kernel_rfl) (by kernel_rfl) (by kernel_rfl)) ?_
  intro W base args ds gs before hval0 hW hcnd _
  have hval : ∀ (j : Nat) t v, Try.f4.params[j]? = some t → args[j]? = some v → Value.okWide Try.prog W .any base t v := hval0
  have hW' := hW
  obtain ⟨p, q, hA0, hV, rfl, hfz, hnd⟩ := hW
  have hA : DataW.TrodAll enc Try.prog W 0 (fun _ => true) true Try.f4.params.toList args.toList ds p := hA0
  rw [Try.params4] at hA hval
  obtain ⟨v0, vs0, d0, ds0, p0, q0, hargs, rfl, rfl, h0, r0⟩ := trodAll_cons hA
  obtain ⟨v1, vs1, d1, ds1, p1, q1, rfl, rfl, rfl, h1, r1⟩ := trodAll_cons r0
  obtain ⟨rfl, rfl, rfl⟩ := trodAll_nil r1
  obtain rfl : args = #[v0, v1] := by cases args; simp_all
  obtain ⟨rfl, rfl⟩ := trodVars_none hV
  have k0 := h0
  have lt0 : ∀ x ∈ p0, x.block < W.heap.size := by obtain ⟨m, hm⟩ := k0; exact DataW.trod_lt m _ _ _ hm
  obtain ⟨t0, u0, rfl⟩ := open_attr (hval 0 37 v0 rfl rfl) h0
  have k1 := h1
  have lt1 : ∀ x ∈ p1, x.block < W.heap.size := by obtain ⟨m, hm⟩ := k1; exact DataW.trod_lt m _ _ _ hm
  obtain ⟨t1, u1, rfl⟩ := open_attr (hval 1 37 v1 rfl rfl) h1
  clear hA0 hval0
  refine (walkMrpduAttrs t0 u0 t1 u1 W ).mono fun e W' ⟨he, bel⟩ => ?_
  subst he
  exact ⟨_, rfl, _, _, _, [], _, [], hW', trodAll_mk1 (shut_bool Try.underlying4 _), (trodAll_cons_mk (Below.trod laidOut (by kernel_rfl) (of_decide_eq_true (by kernel_rfl)) k0 bel lt0) (trodAll_cons_mk (Below.trod laidOut (by kernel_rfl) (of_decide_eq_true (by kernel_rfl)) k1 bel lt1) trodAll_mk0)), rfl, bel.frame _, fun h => by cases h⟩

theorem overMrpduAttrs : Rows.mrpduAttrsRow.holds Try.pinned (OpenSpec.ofChange Rows.mrpduAttrsSpec) :=
  OpenClaim.holds_of_wide 4 Try.f4 rfl rfl rfl rfl rfl rfl rfl ⟨rfl, rfl, rfl, rfl, rfl⟩ rfl rfl rfl rfl rfl (by kernel_rfl) Try.func4 (by kernel_rfl)
    (of_decide_eq_true (by kernel_rfl)) (by unfold Func.isWrapper; first | (rw [if_pos (by decide +kernel)]; kernel_rfl) | (rw [if_neg (by decide +kernel)]; exact ⟨rfl, rfl⟩))
    (fun os started H enc _ => liftedMrpduAttrs os started H enc)

/-- The statement. -/
theorem mrpduAttrs_holds : Rows.MrpduAttrsSaid := overMrpduAttrs

#print axioms mrpduAttrs_holds
end Go.Proofs.Ytmjpjkieadjmpaa
