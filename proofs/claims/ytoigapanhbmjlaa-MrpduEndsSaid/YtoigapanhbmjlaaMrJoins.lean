/- mrpdu.joins itself. Its condition: at most 2^19 types and words on each side. -/
import Derived.Test.YtoigapanhbmjlaaMrJoin
namespace Go.Proofs.Ytoigapanhbmjlaa
open Go.RowKit

theorem lastL_le {α : Type} (l : List α) : (lastL l).length ≤ 1 := by unfold lastL; rw [List.length_drop]; omega
def joinsB (p v : Msg) : Bool := decide (joinsP p v)

set_option maxHeartbeats 4000000 in
set_option maxRecDepth 100000 in
theorem joins_any (A A' V V' : Option Addr) (c c' d d' : Nat) (p v : Msg) (w : World) (hA : IntsAt w w.heap.size A p.all) (hA' : WordsAt w w.heap.size A' p.ws) (hV : IntsAt w w.heap.size V v.all) (hV' : WordsAt w w.heap.size V' v.ws)
    (hc : p.all.length ≤ c) (hc' : p.ws.length ≤ c') (nA : A = none → c = 0) (nA' : A' = none → c' = 0) (nV : V = none → d = 0) (nV' : V' = none → d' = 0)
    (l1 : p.all.length ≤ 500000) (l2 : p.ws.length ≤ 500000) (l3 : v.all.length ≤ 500000) (l4 : v.ws.length ≤ 500000) :
    Calls Try.prog 51 #[.agg #[.slice A p.all.length c, .slice A' p.ws.length c'], .agg #[.slice V v.all.length d, .slice V' v.ws.length d']] w fun e w' => e = .returned (.bool (joinsB p v)) ∧ Below w.heap.size w w' := by
  obtain ⟨pa, pw⟩ := p
  obtain ⟨va, vw⟩ := v
  simp only at *
  have hG : joinsB ⟨pa, pw⟩ ⟨va, vw⟩ = Msg.goodB ⟨lastL pa ++ va, lastL pw ++ vw⟩ := rfl
  rw [hG]
  clear hG
  obtain ⟨la, hla⟩ : ∃ la, lastL pa ++ va = la := ⟨_, rfl⟩
  obtain ⟨lb, hlb⟩ : ∃ lb, lastL pw ++ vw = lb := ⟨_, rfl⟩
  have nla : la.length ≤ 1000000 := by rw [← hla, List.length_append]; have := lastL_le pa; omega
  have nlb : lb.length ≤ 1000000 := by rw [← hlb, List.length_append]; have := lastL_le pw; omega
  rw [hla, hlb]
  have HLA := Lib.hid hla
  have HLB := Lib.hid hlb
  clear hla hlb
  have hb0 := Blk.new w 25 #[.slice A pa.length c, .slice A' pw.length c']
  have hb1 := hb0.alloc (.cells #[.slice V va.length d, .slice V' vw.length d'] 25)
  have hb2 := Blk.new (w.alloc (.cells #[.slice A pa.length c, .slice A' pw.length c'] 25)) 25 #[.slice V va.length d, .slice V' vw.length d']
  have hs1 : (w.alloc (.cells #[.slice A pa.length c, .slice A' pw.length c'] 25)).heap.size = w.heap.size + 1 := by simp
  rw [hs1] at hb2
  have hbl := bel_alloc2 w (.cells #[.slice A pa.length c, .slice A' pw.length c'] 25) (.cells #[.slice V va.length d, .slice V' vw.length d'] 25)
  clear hb0 hs1
  go_enter Try.func51, Try.ntmps51
  go_wp2_with fail
  generalize (w.alloc (.cells #[.slice A pa.length c, .slice A' pw.length c'] 25)).alloc (.cells #[.slice V va.length d, .slice V' vw.length d'] 25) = W2 at *
  have hz := hbl.size
  have z0 := hb1.lt
  have z1 := hb2.lt
  have gA := (hA.below hbl).more hz
  have gA' := (hA'.below hbl).more hz
  have gV := (hV.below hbl).more hz
  have gV' := (hV'.below hbl).more hz
  have q1 := lastL_le pa
  have q2 := lastL_le pw
  clear hA hA' hV hV'
  have hS : ∀ w' : World, Below W2.heap.size W2 w' → w'.cell? ⟨w.heap.size, 0, none⟩ = some (.slice A pa.length c) ∧ w'.cell? ⟨w.heap.size, 1, none⟩ = some (.slice A' pw.length c') ∧ w'.cell? ⟨w.heap.size + 1, 0, none⟩ = some (.slice V va.length d) ∧ w'.cell? ⟨w.heap.size + 1, 1, none⟩ = some (.slice V' vw.length d') :=
    fun w' hb => ⟨(hb1.below hb z0).cell 0, (hb1.below hb z0).cell 1, (hb2.below hb z1).cell 0, (hb2.below hb z1).cell 1⟩
  have HS := Lib.hid hS
  have bd0 : Below W2.heap.size W2 W2.drew := bel_drewN (Below.refl _ _) 1
  clear hS hb1 hb2
  go_region_held3 (fun w' => w'.cell? ⟨w.heap.size, 0, none⟩ = some (.slice A pa.length c) ∧ w'.cell? ⟨w.heap.size, 1, none⟩ = some (.slice A' pw.length c') ∧ w'.cell? ⟨w.heap.size + 1, 0, none⟩ = some (.slice V va.length d) ∧ w'.cell? ⟨w.heap.size + 1, 1, none⟩ = some (.slice V' vw.length d'))
    (first | exact HS.out _ bd8 | exact HS.out _ bd6 | exact HS.out _ bd5 | exact HS.out _ bd3 | exact HS.out _ (bel_drewN (bel_alloc W2 _) 1) | exact HS.out _ ((bel_alloc W2 _)) | exact HS.out _ (bel_drewN (Below.refl _ _) 1) | exact HS.out _ (bd3.alloc bd3.size _))
    (first
      | (go_at_call 63; refine (lastI_any A c pa W2.heap.size _ hc nA (by omega) (gA.below bd0)).mono ?_; rintro e wa ⟨⟨Al, cl, rfl, hal, nal⟩, rfl⟩; have hal0 : IntsAt W2 W2.heap.size Al (lastL pa) := hal)
      | (go_at_call 62; refine (concatI_any W2.heap.size Al V cl d (lastL pa) va (World.drew (W2.alloc (.cells #[.slice Al (lastL pa).length cl, .slice V va.length d] 22))) (by simp) (Blk.cell (Blk.new W2 22 #[.slice Al (lastL pa).length cl, .slice V va.length d]) 0) (Blk.cell (Blk.new W2 22 #[.slice Al (lastL pa).length cl, .slice V va.length d]) 1) ((hal0.below (bel_drewN (bel_alloc W2 _) 1)).more (by simp)) ((gV.below (bel_drewN (bel_alloc W2 _) 1)).more (by simp)) nal nV (by omega) (by omega)).mono ?_; rw [HLA.out]; rintro e w3 ⟨⟨Ac, cc, rfl, hac⟩, b3⟩; have bd3 : Below W2.heap.size W2 w3 := (bel_drewN (bel_alloc W2 _) 1).trans (b3.mono (by simp)))
      | (go_at_call 65; refine (lastW_any A' c' pw W2.heap.size _ hc' nA' (by omega) (gA'.below bd3)).mono ?_; rintro e wa ⟨⟨Bl, dl, rfl, hbl', nbl⟩, rfl⟩; have bd5 := bd3)
      | (go_at_call 64; refine (concatW_any w3.heap.size Bl V' dl d' (lastL pw) vw (w3.alloc (.cells #[.slice Bl (lastL pw).length dl, .slice V' vw.length d'] 23)) (by simp) (Blk.cell (Blk.new w3 23 #[.slice Bl (lastL pw).length dl, .slice V' vw.length d']) 0) (Blk.cell (Blk.new w3 23 #[.slice Bl (lastL pw).length dl, .slice V' vw.length d']) 1) ((hbl'.below (bel_alloc w3 _ |>.mono bd3.size)).more (by have := bd3.size; simp; omega)) (((gV'.below bd3).below (bel_alloc w3 _ |>.mono bd3.size)).more (by have := bd3.size; simp; omega)) nbl nV' (by omega) (by omega)).mono ?_; rw [HLB.out]; rintro e w6 ⟨⟨Bc, dc, rfl, hbc⟩, b6⟩; have bd6 : Below W2.heap.size W2 w6 := (bd3.alloc bd3.size _).trans (b6.mono (by have := bd3.size; simp; omega)); have hac6 : IntsAt w6 w6.heap.size Ac la := ((hac.below (bel_alloc w3 _)).below (b6.mono (by simp))).more (by have := b6.size; simp at this; omega))
      | (go_at_call 13; refine (good_all Ac Bc cc dc la lb w6.heap.size _ (Nat.le_refl _) (by omega) (by omega) hac6 hbc).mono ?_; rintro e w8 ⟨rfl, b8⟩; have bd8 : Below W2.heap.size W2 w8 := bd6.trans (b8.mono bd6.size)))
  all_goals
    have hf : Below w.heap.size w w8 := hbl.trans (bd8.mono hz)
    clear bd8 b8 hac6 hbc bd6 b6 hbl' hal hal0 hac bd5 bd3 b3
    go_wp2_with fail
    go_ret
    exact ⟨rfl, hf⟩
end Go.Proofs.Ytoigapanhbmjlaa
