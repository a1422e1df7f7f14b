/- The statement SpreadWants: Wants answers what the document says, of all ports. Its condition: Wants' contract. -/
import Derived.Test.YtaieopejabpegaaSnAlive
import Derived.Deep.RegionHeld3
namespace Go.Proofs.Ytaieopejabpegaa
open Go.RowKit
set_option maxRecDepth 100000

/-- A box that a law makes of its attribute, and what was below. -/
def Box1 (w wr : World) (a : At) : Prop := Below w.heap.size w wr ∧ Blk wr w.heap.size 24 #[.int .i64 a.t, .int .i64 a.v]
theorem box1 (w : World) (a : At) : Box1 w (w.alloc (.cells #[.int .i64 a.t, .int .i64 a.v] 24)) a := ⟨bel_alloc w _, Blk.new w _ _⟩
theorem Box1.below {w wr w' : World} {a : At} (h : Box1 w wr a) (hb : Below wr.heap.size wr w') : Box1 w w' a := ⟨h.1.trans (hb.mono h.1.size), h.2.below hb h.2.lt⟩
set_option maxHeartbeats 8000000 in
theorem walkWants (HWI : WantsIs) (A : Option Addr) (c : Nat) (l : List Vx) (a : At) (own : Int) (w : World) (hA : VxAt w w.heap.size A l) (hl : l.length * 56 ≤ 140737488351232) :
    Calls Try.prog 3 #[.slice A l.length c, .agg #[.int .i64 a.t, .int .i64 a.v], .int .i64 own] w fun e w' => e = .returned (.bool true) ∧ Below w.heap.size w w' := by
  obtain ⟨n, hn⟩ : ∃ n, l.length = n := ⟨_, rfl⟩
  have HPL := Lib.hid (fun (V : World) (hV : Below w.heap.size w V) => splain_any A c l V ((hA.below hV).more hV.size) hl)
  have HWC := Lib.hid (fun (V : World) (hV : Below w.heap.size w V) h20 hs => HWI A c l a own V ((hA.below hV).more hV.size) h20 hs)
  have HN := Lib.hid hn
  rw [hn] at HPL HWC ⊢
  have HB0 := Lib.hid (box1 w a)
  clear hA hl hn
  go_enter Try.func3, Try.ntmps3
  go_wp2_with fail
  refine (salive_any HWI _).mono ?_
  rintro e v1 ⟨rfl, b1⟩
  have HB1 := Lib.hid (HB0.out.below b1)
  clear b1
  have HP1 := Lib.hid (HPL.out v1 HB1.out.1)
  have a0 := HB1.out.2.cell 0
  have a1 := HB1.out.2.cell 1
  go_wp2_with fail
  refine HP1.out.mono ?_
  rintro e v2 ⟨(⟨z, rfl⟩ | ⟨Am, cm, rfl, hm, hcm, h20, hsm⟩), b2⟩
  · have HE := Lib.hid (HB1.out.below b2)
    clear b2 a0 a1
    go_wp2_with fail
    go_ret
    exact ⟨rfl, HE.out.1⟩
  have HB2 := Lib.hid (HB1.out.below b2)
  have HM := Lib.hid (And.intro hm (And.intro h20 hsm))
  clear b2 hm hcm h20 hsm a0 a1
  have HW2 := Lib.hid (HWC.out v2 HB2.out.1 HM.out.2.1 HM.out.2.2)
  have a0 := HB2.out.2.cell 0
  have a1 := HB2.out.2.cell 1
  go_wp2_with fail
  refine HW2.out.mono ?_
  rintro e v3 ⟨Aw, cw, rfl, hi, hcw, b3⟩
  have HI := Lib.hid hi
  have HB3 := Lib.hid (HB2.out.below b3)
  have HM3 := Lib.hid ((HM.out.1.below b3).more b3.size)
  have HL := Lib.hid (show (wantsL (vws l) a own).length = n by rw [wantsL_length, vws_length]; exact HN.out)
  clear hi b3 hcw a0 a1
  go_wp2_with fail
  go_loopw [26] (fun iv wr => ∃ j : Nat, j ≤ n ∧ iv = .int .i64 j ∧ Hid (Box1 w wr a ∧ Below v3.heap.size v3 wr)) (fun iv _ => n - (intOf iv).toNat)
  case atStart => exact ⟨0, Nat.zero_le _, rfl, Lib.hid ⟨HB3.out, Below.refl _ _⟩⟩
  case round =>
    obtain ⟨j, hj, rfl, HS⟩ := hrel
    by_cases hlt : j < n
    · have j1 : (j : Int) < n := by omega
      have j1' : ¬ n ≤ j := by omega
      have j0 : (0 : Int) ≤ j := by omega
      have HLT := Lib.hid hlt
      have HJ := Lib.hid (show wrap64 ((j : Int) + 1) = (j : Int) + 1 from IntWalk.wrap64_in _ (by have := HM.out.2.1; omega))
      obtain ⟨b, off, eA, hbl, c0⟩ := HI.out j (by rw [HL.out]; exact hlt)
      have q0 := (HS.out.2.cell (p := ⟨b, off + j, none⟩) hbl).trans c0
      rw [wantsL_at _ _ _ (by rw [vws_length, HN.out]; exact hlt)] at q0
      have HD := Lib.hid (fun (V : World) (hV : Below wr.heap.size wr V) => dwant_any Am cm l a own j V ((HM3.out.below (HS.out.2.trans (hV.mono HS.out.2.size))).more (HS.out.2.trans (hV.mono HS.out.2.size)).size) (by rw [HN.out]; exact HLT.out) (by have := HM.out.2.1; have := HN.out; omega) (fun k hk => by have := HM.out.2.2 k (by rw [← HN.out]; exact hk); omega))
      rw [HN.out] at HD
      obtain ⟨z, hz⟩ : ∃ z, wantV (vws l) a own j = z := ⟨_, rfl⟩
      rw [hz] at HD q0
      have zz : (z != z) = false := by simp
      have zz2 : (z == z) = true := by simp
      have cD : wr.drew.cell? ⟨b, off + j, none⟩ = some (.int .i64 z) ∧ wr.drew.cell? ⟨w.heap.size, 0, none⟩ = some (.int .i64 a.t) ∧ wr.drew.cell? ⟨w.heap.size, 1, none⟩ = some (.int .i64 a.v) := ⟨q0, HS.out.1.2.cell 0, HS.out.1.2.cell 1⟩
      have HKE := Lib.hid (fun (w6 : World) (b6 : Below wr.drew.heap.size wr.drew w6) => And.intro ((b6.cell (p := ⟨b, off + j, none⟩) (Nat.lt_of_lt_of_le hbl HS.out.2.size)).trans cD.1) (And.intro ((b6.cell (p := ⟨w.heap.size, 0, none⟩) HS.out.1.2.lt).trans cD.2.1) ((b6.cell (p := ⟨w.heap.size, 1, none⟩) HS.out.1.2.lt).trans cD.2.2)))
      have HDR := Lib.hid (show Below wr.heap.size wr wr.drew from (Below.refl _ _).drew)
      have HD2 := Lib.hid (HD.out _ HDR.out)
      subst eA
      clear hj hlt hbl c0 hz HD
      go_wp2_with fail
      go_region_held3 (fun w' => w'.cell? ⟨b, off + j, none⟩ = some (.int .i64 z) ∧ w'.cell? ⟨w.heap.size, 0, none⟩ = some (.int .i64 a.t) ∧ w'.cell? ⟨w.heap.size, 1, none⟩ = some (.int .i64 a.v))
        (first
          | (with_reducible exact cD)
          | (with_reducible exact cA)
          | fail)
        (first
          | (go_at_call 11; (with_reducible (refine HD2.out.mono ?_)); rintro e w6 ⟨rfl, b6⟩; have cA := HKE.out w6 b6))
      have HE := Lib.hid (And.intro (HS.out.1.below (HDR.out.trans b6)) (HS.out.2.trans ((HDR.out.trans b6).mono HS.out.2.size)))
      clear cA cD b6 HKE
      go_wp2_with fail
      go_roundw
      case rel =>
        rw [HJ.out]
        exact ⟨j + 1, HLT.out, by rw [Int.natCast_add]; rfl, HE⟩
      case measure =>
        rw [HJ.out]
        show n - ((j : Int) + 1).toNat < n - ((j : Int)).toNat
        have := HLT.out
        omega
    · obtain rfl : n = j := by omega
      clear hj hlt
      go_wp2_with fail
      go_ret
      exact ⟨rfl, HS.out.1.1⟩
end Go.Proofs.Ytaieopejabpegaa
