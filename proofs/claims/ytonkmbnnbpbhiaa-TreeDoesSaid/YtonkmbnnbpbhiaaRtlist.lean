/- The document's List: what was heard, port by port. Its condition: up to six ports. -/
import Derived.Test.YtonkmbnnbpbhiaaRtmem
namespace Go.Proofs.Ytonkmbnnbpbhiaa
open Go.RowKit
set_option maxRecDepth 100000

section
variable {w : World} {base d gp go m cap : Nat} {f : Nat → Pt} {op : Nat → Bool} {id ch : Int} {TU : Nat → List (Int × Int)} {AA : Nat → Option Addr} {CC : Nat → Nat}
theorem DocAt.d0 (h : DocAt w base d gp go cap id m f TU AA CC op ch) : w.cell? ⟨d, 0, none⟩ = some (.int .i64 id) := h.top.cell 0
theorem DocAt.d1 (h : DocAt w base d gp go cap id m f TU AA CC op ch) : w.cell? ⟨d, 1, none⟩ = some (.slice (some ⟨gp, 0, none⟩) m cap) := h.top.cell 1
theorem DocAt.d2 (h : DocAt w base d gp go cap id m f TU AA CC op ch) : w.cell? ⟨d, 2, none⟩ = some (.int .i64 ch) := h.top.cell 2
theorem DocAt.d3 (h : DocAt w base d gp go cap id m f TU AA CC op ch) : w.cell? ⟨d, 3, none⟩ = some (.slice (some ⟨go, 0, none⟩) m m) := h.top.cell 3
theorem hds_take (m : Nat) (f : Nat → Pt) (j : Nat) (hj : j < m) : (hds m f).take (j + 1) = (hds m f).take j ++ [hdOf (f j)] := by
  rw [take_one _ _ (by rw [hds_len]; exact hj), hds_at m f j hj]
set_option maxHeartbeats 4000000 in
theorem rlist_any (h : DocAt w base d gp go cap id m f TU AA CC op ch) (hm : m ≤ 6) :
    Calls Try.prog 64 #[.pointer (some ⟨d, 0, none⟩)] w fun e w' => ∃ A c, e = .returned (.slice A m c) ∧ OwnH 76 w' w.heap.size A c (hds m f) ∧ Below w.heap.size w w' := by
  have H := Lib.hid h
  have HM := Lib.hid hm
  have d1 := h.d1
  have hcm : m ≤ cap := h.cap
  have hcm' : (m : Int) ≤ cap := by omega
  have m0 : (0 : Int) ≤ m := by omega
  clear h hm
  go_enter Try.func64, Try.ntmps64
  go_wp2_with fail
  go_loopw [3, 12] (fun ov iv wr => ∃ (j : Nat) (A1 : Option Addr) (c1 : Nat), j ≤ m ∧ iv = .int .i64 j ∧ ov = .slice A1 j c1 ∧ Hid (OwnH 76 wr w.heap.size A1 c1 ((hds m f).take j) ∧ Below w.heap.size w wr)) (fun _ iv _ => m - (intOf iv).toNat)
  case atStart => exact ⟨0, none, 0, Nat.zero_le _, rfl, rfl, Lib.hid ⟨World.ownsRow_nil _ _ _ _, Below.refl _ _⟩⟩
  case round =>
    obtain ⟨j, A1, c1, hj, rfl, rfl, hS⟩ := hrel
    have hW := H.out.below hS.out.2
    by_cases hlt : j < m
    · have j1 : (j : Int) < m := by omega
      have j0 : (0 : Int) ≤ j := by omega
      have HJ := Lib.hid (show wrap64 ((j : Int) + 1) = (j : Int) + 1 from IntWalk.wrap64_in _ (by have := HM.out; omega))
      obtain ⟨q0, q1, q2, q3, q4, q5, q6, q7, q8, q9, q10⟩ := hW.ports.cells hlt
      have htk := hds_take m f j hlt
      have hlen : ((hds m f).take j).length = j := by rw [List.length_take, hds_len]; omega
      obtain ⟨sv, hsv⟩ : ∃ sv, slT TU AA CC j = sv := ⟨_, rfl⟩
      have hsl : ∃ a n c, sv = .slice a n c := ⟨_, _, _, hsv.symm⟩
      rw [hsv] at q10
      obtain ⟨sa, sn, sc, rfl⟩ := hsl
      obtain ⟨x, hx⟩ : ∃ x, f j = x := ⟨_, rfl⟩
      rw [hx] at htk q0 q1 q2 q3 q4 q5 q6 q8 q9
      obtain ⟨xu, xw, xn, ⟨xr, xc, xb, xp⟩, xa, xt, xro, xsi⟩ := x
      have hap : ∀ (o1 o2 : Obj), ∃ a' c' w3, (Builtin.append_ #[113, 113] 113 #[.slice A1 j c1, .slice (some ⟨wr.heap.size + 2, 0, none⟩) 1 1]).run Try.prog (((wr.alloc o1).alloc o2).alloc (.cells #[.int .i64 xr, .int .i64 xc, .int .i64 xb, .int .i64 xp, .int .i64 xa, .int .i64 xw, .bool (xn || !xu)] 76)) = .ok (.slice a' (j + 1) c') w3 ∧
          Hid (OwnH 76 w3 w.heap.size a' c' ((hds m f).take (j + 1)) ∧ Below w.heap.size w w3) := fun o1 o2 => by
        have o3 : OwnH 76 (((wr.alloc o1).alloc o2).alloc (.cells #[.int .i64 xr, .int .i64 xc, .int .i64 xb, .int .i64 xp, .int .i64 xa, .int .i64 xw, .bool (xn || !xu)] 76)) w.heap.size A1 c1 ((hds m f).take j) := World.ownsRow.alloc (World.ownsRow.alloc (World.ownsRow.alloc hS.out.1 _) _) _
        have hb := Blk.new ((wr.alloc o1).alloc o2) 76 #[.int .i64 xr, .int .i64 xc, .int .i64 xb, .int .i64 xp, .int .i64 xa, .int .i64 xw, .bool (xn || !xu)]
        rw [show ((wr.alloc o1).alloc o2).heap.size = wr.heap.size + 2 by simp] at hb
        have hbe : Below w.heap.size w (((wr.alloc o1).alloc o2).alloc (.cells #[.int .i64 xr, .int .i64 xc, .int .i64 xb, .int .i64 xp, .int .i64 xa, .int .i64 xw, .bool (xn || !xu)] 76)) := (hS.out.2.trans ((bel_alloc2 wr o1 o2).mono hS.out.2.size)).alloc (by have := hS.out.2.size; simp; omega) _
        obtain ⟨a', c', w3, hr, ho, hg⟩ := append_hd 113 76 Try.underlying113 rhd_info _ w.heap.size A1 c1 j ((hds m f).take j) hlen o3 (some ⟨wr.heap.size + 2, 0, none⟩) 1 1 (wr.heap.size + 3) [⟨xr, xc, xb, xp, xa, xw, xn || !xu⟩] rfl (fun h => by cases h)
          (hd_one ⟨xr, xc, xb, xp, xa, xw, xn || !xu⟩ hb (Nat.lt_succ_self _)) (by rw [hlen]; simp only [List.length_singleton]; have := HM.out; omega) hbe.size
        have o3' := o3
        unfold OwnH at o3'
        rw [hlen] at o3'
        refine ⟨a', c', w3, hr, Lib.hid ⟨?_, hbe.trans (bel_own o3' hg (Nat.le_refl _) hbe.size)⟩⟩
        rw [htk]
        exact ho
      have HAP := Lib.hid hap
      clear hap hlen htk hW hsv hj
      have hap2 := fun (u n : Bool) => HAP.out (.cells #[.bool u, .int .i64 xw, .int .i64 xr, .int .i64 xc, .int .i64 xb, .int .i64 xp, .int .i64 xa, .int .i64 0, .bool n, .int .i64 xt, .slice sa sn sc] 79) (.cells #[.int .i64 xr, .int .i64 xc, .int .i64 xb, .int .i64 xp, .int .i64 xa, .int .i64 xw, .bool (xn || !xu)] 76)
      obtain ⟨a', c', w3, hr, HE3⟩ := hap2 xu xn
      clear hap2
      have HR := Lib.hid hr
      clear hr HAP
      cases xn <;> cases xu
      all_goals
        simp only [Bool.not_true, Bool.not_false, Bool.or_true, Bool.or_false] at HR
        go_wp2_with (at_builtin; refine Lib.wpList_append_run _ rfl _ _ _ _ rfl _ _ rfl rfl _ _ HR.out ?_)
        go_roundw
        case rel =>
          rw [HJ.out]
          exact ⟨j + 1, a', c', hlt, by rw [Int.natCast_add]; rfl, rfl, HE3⟩
        case measure =>
          rw [HJ.out]
          show m - ((j : Int) + 1).toNat < m - ((j : Int)).toNat
          omega
    · obtain rfl : m = j := by omega
      have htk : (hds m f).take m = hds m f := List.take_of_length_le (by rw [hds_len]; exact Nat.le_refl _)
      rw [htk] at hS
      clear htk hW
      go_wp2_with fail
      go_ret
      exact ⟨A1, c1, rfl, hS.out.1, hS.out.2⟩
end
end Go.Proofs.Ytonkmbnnbpbhiaa
