/- A bridge's part and the document's hold the same: the row's same. Its conditions: up to six ports, ticks up to 2^40. -/
import Derived.Test.YtonkmbnnbpbhiaaRttick
import Derived.Test.YtonkmbnnbpbhiaaRtnew
import Derived.Test.YtonkmbnnbpbhiaaVeq
namespace Go.Proofs.Ytonkmbnnbpbhiaa
open Go.RowKit
set_option maxRecDepth 100000

/-- What same holds while it asks. -/
structure SameSt (w wr : World) (g gp : Nat) (fw : Nat → Bool) (ch : Int) (vb : Nat) (br bc bb bq : Int) (base d gd go cap : Nat) (id : Int) (m : Nat) (f : Nat → Pt) (TU : Nat → List (Int × Int)) (AA : Nat → Option Addr) (CC : Nat → Nat) (op : Nat → Bool) (chD : Int) : Prop where
  t : TreeW wr g gp id m f fw ch
  d : DocAt wr base d gd go cap id m f TU AA CC op chD
  v : Blk wr vb 32 #[.int .i64 br, .int .i64 bc, .int .i64 bb, .int .i64 bq]
  b : Below w.heap.size w wr
section
variable {w : World} {base d gd go m cap g gp : Nat} {f : Nat → Pt} {fw op : Nat → Bool} {id ch chD : Int} {TU : Nat → List (Int × Int)} {AA : Nat → Option Addr} {CC : Nat → Nat}
theorem SameSt.below {wr w' : World} {vb : Nat} {br bc bb bq : Int} (h : SameSt w wr g gp fw ch vb br bc bb bq base d gd go cap id m f TU AA CC op chD) (hb : Below wr.heap.size wr w') : SameSt w w' g gp fw ch vb br bc bb bq base d gd go cap id m f TU AA CC op chD :=
  ⟨TreeAt.below h.t hb, h.d.below hb, h.v.below hb h.v.lt, h.b.trans (hb.mono h.b.size)⟩
end
section
variable {w : World} {base d gd go m cap g gp : Nat} {f : Nat → Pt} {fw op : Nat → Bool} {id ch chD : Int} {TU : Nat → List (Int × Int)} {AA : Nat → Option Addr} {CC : Nat → Nat}
set_option maxHeartbeats 8000000 in
theorem same_any (ht : TreeW w g gp id m f fw ch) (hd : DocAt w base d gd go cap id m f TU AA CC op chD) (hm : m ≤ 6) {now : Int} (hok : POk now m f) (h0 : 0 ≤ now) (h1 : now ≤ 1099511627776) (hlen : ∀ i, (TU i).length ≤ 50000) :
    Calls Try.prog 25 #[.pointer (some ⟨g, 0, none⟩), .pointer (some ⟨d, 0, none⟩), .int .i64 now] w fun e w' => e = .returned (.bool true) ∧ Below w.heap.size w w' := by
  have H := Lib.hid (And.intro ht hd)
  have HN := Lib.hid (And.intro hm (And.intro hok (And.intro h0 (And.intro h1 hlen))))
  have hcm : (m : Int) ≤ cap := by have := hd.cap; omega
  have m0 : (0 : Int) ≤ m := by omega
  have HBE := Lib.hid (fun (w : World) (h : DocAt w base d gd go cap id m f TU AA CC op chD) => rtbest_any h hm hok)
  have HTB := Lib.hid (fun (w : World) (h : TreeW w g gp id m f fw ch) => tbest_any h)
  have HTR := Lib.hid (fun (w : World) (h : TreeW w g gp id m f fw ch) => root_any h)
  obtain ⟨bp, hbp⟩ : ∃ bp, bestP id m f = bp := ⟨_, rfl⟩
  obtain ⟨ag, hag⟩ : ∃ ag, ageP id m f = ag := ⟨_, rfl⟩
  rw [hbp, hag] at HBE
  rw [hbp] at HTB HTR
  obtain ⟨⟨br, bc, bb, bq⟩, rt⟩ := bp
  simp only [Vec.v, Vec.arr] at HBE HTB
  clear ht hd hm hok h0 h1 hlen hbp hag
  go_enter Try.func25, Try.ntmps25
  go_wp2_with fail
  refine (HBE.out _ H.out.2).mono ?_
  rintro e w3 ⟨rfl, b3⟩
  have hst : SameSt w (w3.alloc (.cells #[.int .i64 br, .int .i64 bc, .int .i64 bb, .int .i64 bq] 32)) g gp fw ch w3.heap.size br bc bb bq base d gd go cap id m f TU AA CC op chD :=
    ⟨(H.out.1.below b3).alloc _, (H.out.2.below b3).alloc _, Blk.new w3 _ _, b3.alloc b3.size _⟩
  have hd1 := hst.d.d1
  have HST := Lib.hid hst
  clear b3 hst
  go_wp2_with fail
  clear hd1
  generalize w3.alloc (.cells #[.int .i64 br, .int .i64 bc, .int .i64 bb, .int .i64 bq] 32) = WX at HST ⊢
  generalize w3.heap.size = vb at HST ⊢
  go_loopw [23] (fun iv wr => ∃ i : Nat, i ≤ m ∧ iv = .int .i64 i ∧ Hid (SameSt w wr g gp fw ch vb br bc bb bq base d gd go cap id m f TU AA CC op chD)) (fun iv _ => m - (intOf iv).toNat)
  case atStart => exact ⟨0, Nat.zero_le _, rfl, HST⟩
  case round =>
    obtain ⟨i, hi, rfl, hQ⟩ := hrel
    by_cases hlt : i < m
    · have i1 : (i : Int) < m := by omega
      have i0 : (0 : Int) ≤ i := by omega
      have HJQ := Lib.hid (show wrap64 ((i : Int) + 1) = (i : Int) + 1 from IntWalk.wrap64_in _ (by have := HN.out.1; omega))
      obtain ⟨q0, q1, q2, q3, q4, q5, q6, q7, q8, q9, q10o⟩ := hQ.out.d.ports.cells hlt
      have q10 : wr.cell? ⟨gd, i * 11 + 10, none⟩ = some (.slice (AA i) (TU i).length (CC i)) := q10o
      clear q10o
      have hsi := (HN.out.2.1 i hlt).since
      have hwr : wrap64 (now - (f i).since) = now - (f i).since := wrap_sub HN.out.2.2.1 HN.out.2.2.2.1 hsi.1 (by have := HN.out.2.2.2.1; omega)
      have hla := hQ.out.d.lasts i hlt
      have HTN := Lib.hid (fun (w : World) (h : DocAt w base d gd go cap id m f TU AA CC op chD) => (h.turns i hlt).at_)
      have HRO := Lib.hid (fun (w : World) (h : TreeW w g gp id m f fw ch) => role_in h i hlt)
      have HSO := Lib.hid (fun (w : World) (h : TreeW w g gp id m f fw ch) => tstate_in h i now hlt hwr)
      have HR2 := fun (w : World) (h : TnAt w (AA i) (TU i)) => rrole11_any (AA i) (CC i) (TU i) w h (by have := HN.out.2.2.2.2 i; omega)
      have HS2 := fun (w : World) (h : TnAt w (AA i) (TU i)) => rstate11_any (AA i) (CC i) (TU i) w h (by have := HN.out.2.2.2.2 i; omega) now (by rw [hla]; exact hsi.1) (by rw [hla]; exact hsi.2) HN.out.2.2.2.1
      rw [hla] at HR2 HS2
      rw [show stateI ((f i).role, (f i).since).1 ((f i).role, (f i).since).2 now = stateP (f i) now from rfl] at HS2
      rw [show ((f i).role, (f i).since).1 = (f i).role from rfl] at HR2
      obtain ⟨ro, hro⟩ : ∃ ro, (f i).role = ro := ⟨_, rfl⟩
      obtain ⟨st, hst⟩ : ∃ st, stateP (f i) now = st := ⟨_, rfl⟩
      rw [hro] at HRO HR2
      rw [hst] at HSO HS2
      obtain ⟨ai, hai⟩ : ∃ ai, AA i = ai := ⟨_, rfl⟩
      obtain ⟨ti, hti⟩ : ∃ ti, (TU i).length = ti := ⟨_, rfl⟩
      obtain ⟨ci, hci⟩ : ∃ ci, CC i = ci := ⟨_, rfl⟩
      rw [hai, hti, hci] at q10 HR2 HS2
      rw [hai] at HTN
      have HR2 := Lib.hid HR2
      have HS2 := Lib.hid HS2
      obtain ⟨x, hx⟩ : ∃ x, f i = x := ⟨_, rfl⟩
      rw [hx] at q0 q1 q2 q3 q4 q5 q6 q8 q9
      obtain ⟨xu, xw, xn, ⟨xr, xc, xb, xp⟩, xa, xt, xro, xsi⟩ := x
      have h9 : SameSt w (wr.alloc (.cells #[.bool xu, .int .i64 xw, .int .i64 xr, .int .i64 xc, .int .i64 xb, .int .i64 xp, .int .i64 xa, .int .i64 0, .bool xn, .int .i64 xt, .slice ai ti ci] 79)) g gp fw ch vb br bc bb bq base d gd go cap id m f TU AA CC op chD := hQ.out.below (bel_alloc wr _)
      have hk9 : Blk (wr.alloc (.cells #[.bool xu, .int .i64 xw, .int .i64 xr, .int .i64 xc, .int .i64 xb, .int .i64 xp, .int .i64 xa, .int .i64 0, .bool xn, .int .i64 xt, .slice ai ti ci] 79)) wr.heap.size 79 #[.bool xu, .int .i64 xw, .int .i64 xr, .int .i64 xc, .int .i64 xb, .int .i64 xp, .int .i64 xa, .int .i64 0, .bool xn, .int .i64 xt, .slice ai ti ci] := Blk.new wr _ _
      clear hsi hwr hla hro hst hai hti hci hx hi hQ
      go_wp2_with fail
      clear q0 q1 q2 q3 q4 q5 q6 q7 q8 q9 q10
      obtain ⟨W9, hW9⟩ : ∃ W9, wr.alloc (.cells #[.bool xu, .int .i64 xw, .int .i64 xr, .int .i64 xc, .int .i64 xb, .int .i64 xp, .int .i64 xa, .int .i64 0, .bool xn, .int .i64 xt, .slice ai ti ci] 79) = W9 := ⟨_, rfl⟩
      obtain ⟨G9, hG9⟩ : ∃ G9, wr.heap.size = G9 := ⟨_, rfl⟩
      rw [hW9] at h9 hk9 ⊢
      rw [hG9] at hk9 ⊢
      clear hW9 hG9
      have h9d : SameSt w W9.drew g gp fw ch vb br bc bb bq base d gd go cap id m f TU AA CC op chD := h9.below ⟨rfl, rfl, rfl, Nat.le_refl _, fun _ _ => rfl⟩
      have hk9d : Blk W9.drew G9 79 #[.bool xu, .int .i64 xw, .int .i64 xr, .int .i64 xc, .int .i64 xb, .int .i64 xp, .int .i64 xa, .int .i64 0, .bool xn, .int .i64 xt, .slice ai ti ci] := hk9
      have c9d : W9.drew.cell? ⟨G9, 10, none⟩ = some (.slice ai ti ci) := hk9d.cell 10
      clear h9 hk9
      go_region_held3 (fun w' => w'.cell? ⟨G9, 10, none⟩ = some (.slice ai ti ci))
        (first
          | (with_reducible exact c9d)
          | (with_reducible exact cA)
          | (with_reducible exact cB))
        (first
          | (go_at_call 15; (with_reducible (refine (HRO.out _ h9d.t).mono ?_)); rintro e w' ⟨rfl, rfl⟩)
          | (go_at_call 49; (with_reducible (refine (HR2.out _ (HTN.out _ h9d.d)).mono ?_)); rintro e wA ⟨rfl, bA⟩; have hA := h9d.below bA; have kA := hk9d.below bA hk9d.lt; have cA : wA.cell? ⟨G9, 10, none⟩ = some (.slice ai ti ci) := kA.cell 10)
          | (go_at_call 16; (with_reducible (refine (HSO.out _ hA.t).mono ?_)); rintro e w' ⟨rfl, rfl⟩)
          | (go_at_call 47; (with_reducible (refine (HS2.out _ (HTN.out _ hA.d)).mono ?_)); rintro e wB ⟨rfl, bB⟩; have hB := hA.below bB; have kB := kA.below bB kA.lt; have cB : wB.cell? ⟨G9, 10, none⟩ = some (.slice ai ti ci) := kB.cell 10))
      all_goals
        have HE := Lib.hid hB
        clear h9d hk9d c9d hA kA cA hB kB cB bA bB
        go_wp2_with fail
        go_roundw
        case rel =>
          rw [HJQ.out]
          exact ⟨i + 1, hlt, by rw [Int.natCast_add]; rfl, HE⟩
        case measure =>
          rw [HJQ.out]
          show m - ((i : Int) + 1).toNat < m - ((i : Int)).toNat
          omega
    · obtain rfl : m = i := by omega
      have HID := Lib.hid (fun (w : World) (h : TreeW w g gp id m f fw ch) => tid_any h)
      have HPO := Lib.hid (fun (w : World) (h : TreeW w g gp id m f fw ch) => ports_any h)
      have hq0 := fun w => eql_vec ⟨br, bc, bb, bq⟩ ⟨br, bc, bb, bq⟩ w
      simp only [Vec.v, Vec.arr, decide_true] at hq0
      have h9d : SameSt w wr.drew g gp fw ch vb br bc bb bq base d gd go cap id m f TU AA CC op chD := hQ.out.below ⟨rfl, rfl, rfl, Nat.le_refl _, fun _ _ => rfl⟩
      have hS : ∀ W9, SameSt w W9 g gp fw ch vb br bc bb bq base d gd go cap id m f TU AA CC op chD → W9.cell? ⟨d, 0, none⟩ = some (.int .i64 id) ∧ W9.cell? ⟨d, 1, none⟩ = some (.slice (some ⟨gd, 0, none⟩) m cap) ∧ W9.cell? ⟨vb, 0, none⟩ = some (.int .i64 br) ∧ W9.cell? ⟨vb, 1, none⟩ = some (.int .i64 bc) ∧ W9.cell? ⟨vb, 2, none⟩ = some (.int .i64 bb) ∧ W9.cell? ⟨vb, 3, none⟩ = some (.int .i64 bq) := fun W9 h => ⟨h.d.d0, h.d.d1, h.v.cell 0, h.v.cell 1, h.v.cell 2, h.v.cell 3⟩
      have c9 := hS _ h9d
      have HS := Lib.hid hS
      clear hS hi hQ
      go_wp2_with fail
      go_region_held3 (fun W9 => W9.cell? ⟨d, 0, none⟩ = some (.int .i64 id) ∧ W9.cell? ⟨d, 1, none⟩ = some (.slice (some ⟨gd, 0, none⟩) m cap) ∧ W9.cell? ⟨vb, 0, none⟩ = some (.int .i64 br) ∧ W9.cell? ⟨vb, 1, none⟩ = some (.int .i64 bc) ∧ W9.cell? ⟨vb, 2, none⟩ = some (.int .i64 bb) ∧ W9.cell? ⟨vb, 3, none⟩ = some (.int .i64 bq))
        (first
          | (with_reducible exact c9)
          | (with_reducible exact cA))
        (first
          | (go_at_call 20; (with_reducible (refine (HTB.out _ h9d.t).mono ?_)); rintro e wA ⟨rfl, bA⟩; have hA := h9d.below bA; have cA := HS.out _ hA)
          | (go_at_call 19; (with_reducible (refine (HTR.out _ hA.t).mono ?_)); rintro e w' ⟨rfl, rfl⟩)
          | (go_at_call 17; (with_reducible (refine (HID.out _ hA.t).mono ?_)); rintro e w' ⟨rfl, rfl⟩)
          | (go_at_call 18; (with_reducible (refine (HPO.out _ hA.t).mono ?_)); rintro e w' ⟨rfl, rfl⟩))
      all_goals
        have HE := Lib.hid hA.b
        clear h9d c9 hA cA bA hq0
        go_wp2_with fail
        go_ret
        exact ⟨rfl, HE.out⟩
end
end Go.Proofs.Ytonkmbnnbpbhiaa
