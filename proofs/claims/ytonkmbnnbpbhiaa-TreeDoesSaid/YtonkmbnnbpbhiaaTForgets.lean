/- TreeForgets: a bridge's part that hears nothing more than InfoLife ticks long holds itself the root, and all its ports that are up forward. No condition. -/
import Derived.Test.YtonkmbnnbpbhiaaRtnew
import Derived.Test.YtonkmbnnbpbhiaaFrame
namespace Go.Proofs.Ytonkmbnnbpbhiaa
open Go.ChangeShapes Go.WideShapes Go.ChangeAt Go.RowKit Go.Deep
set_option maxRecDepth 100000

theorem tree_doc {w : World} {g gp m base : Nat} {f : Nat → Pt} {fw : Nat → Bool} {bv : Vec} {id rt ch : Int} (h : TreeAt w g gp id m f fw bv rt ch) (k : Nat) (hk : k = g ∨ k = gp) : ¬ DocQ base w k := fun ⟨_, t, cs, hb, ht⟩ => by
  rcases hk with rfl | rfl
  · have e := blk_type h.top hb
    subst e
    exact absurd ht (by decide)
  · obtain ⟨cs', hb', _⟩ := h.ports
    have e := blk_type hb' hb
    subst e
    exact absurd ht (by decide)
theorem setP_up (id : Int) (m : Nat) (T : Int) (f : Nat → Pt) (i : Nat) (up : Bool) (way : Int) (j : Nat) : (setP id m T f i up way j).up = if j = i then up else (f j).up := by
  unfold setP
  rw [(anew_up id m T _ j).1]
  unfold updP setPt
  by_cases e : j = i
  · rw [if_pos e, if_pos e]
  · rw [if_neg e, if_neg e]
theorem hearP_up (id : Int) (m : Nat) (T : Int) (f : Nat → Pt) (i : Nat) (v : Vec) (a : Int) (j : Nat) : (hearP id m T f i v a j).up = (f j).up := by
  unfold hearP
  rw [(anew_up id m T _ j).1]
  unfold updP gotP
  by_cases e : j = i
  · rw [if_pos e, e]
  · rw [if_neg e]
theorem tickP_up (id : Int) (m : Nat) (T : Int) (f : Nat → Pt) (j : Nat) : (tickP id m T f j).up = (f j).up := by
  unfold tickP
  rw [(anew_up id m T _ j).1]
  unfold oldP wipeP
  split <;> rfl
/-- A part, and the document's that is only set, as they lie. -/
structure Duo (w wr : World) (g gp : Nat) (id : Int) (m : Nat) (f : Nat → Pt) (fw : Nat → Bool) (ch T : Int) (base d gd go cap : Nat) (f2 : Nat → Pt) (j : Nat) : Prop where
  t : TreeW wr g gp id m f fw ch
  ok : POk T m f
  chr : ch = -1 ∨ 0 ≤ ch ∧ ch ≤ T
  role : ∀ i, i < m → (f i).role = roleP id m f i
  doc : ∃ TU AA CC, DocAt wr base d gd go cap id m f2 TU AA CC (fun _ => false) (-1) ∧ ∀ i, (TU i).length ≤ j
  ok2 : POk T m f2
  ups : ∀ i, i < m → (f2 i).up = (f i).up
  bs : base ≤ wr.heap.size
  bw : w.heap.size ≤ base
  gg : w.heap.size ≤ g ∧ w.heap.size ≤ gp
  bel : Below w.heap.size w wr
  t0 : 0 ≤ T
section
variable {w wr w' : World} {g gp m base d gd go cap j : Nat} {id ch T : Int} {f f' f2 : Nat → Pt} {fw : Nat → Bool}
/-- A world that says no more. -/
theorem Duo.below (h : Duo w wr g gp id m f fw ch T base d gd go cap f2 j) (hb : Below wr.heap.size wr w') : Duo w w' g gp id m f fw ch T base d gd go cap f2 j where
  t := TreeAt.below h.t hb
  ok := h.ok
  chr := h.chr
  role := h.role
  doc := by
    obtain ⟨TU, AA, CC, hd, hl⟩ := h.doc
    exact ⟨TU, AA, CC, hd.below hb, hl⟩
  ok2 := h.ok2
  ups := h.ups
  bs := Nat.le_trans h.bs hb.size
  bw := h.bw
  gg := h.gg
  bel := h.bel.trans (hb.mono h.bel.size)
  t0 := h.t0
/-- The program's part turns. -/
theorem Duo.prog (h : Duo w wr g gp id m f fw ch T base d gd go cap f2 j) {fw' : Nat → Bool} {ch' T' : Int} (ht : TreeW w' g gp id m f' fw' ch') (hT : Touch (fun k => k = g ∨ k = gp) wr w') (hok : POk T' m f') (hc : ch' = -1 ∨ 0 ≤ ch' ∧ ch' ≤ T') (hr : ∀ i, i < m → (f' i).role = roleP id m f' i) (hu : ∀ i, i < m → (f' i).up = (f i).up) (hTT : T ≤ T') : Duo w w' g gp id m f' fw' ch' T' base d gd go cap f2 j where
  t := ht
  ok := hok
  chr := hc
  role := hr
  doc := by
    obtain ⟨TU, AA, CC, hd, hl⟩ := h.doc
    exact ⟨TU, AA, CC, hd.touch hT (tree_doc h.t), hl⟩
  ok2 := h.ok2.more hTT
  ups i hi := (h.ups i hi).trans (hu i hi).symm
  bs := Nat.le_trans h.bs hT.size
  bw := h.bw
  gg := h.gg
  bel := below_touch h.bel hT h.gg
  t0 := Int.le_trans h.t0 hTT
theorem Duo.more (h : Duo w wr g gp id m f fw ch T base d gd go cap f2 j) {j' : Nat} (hj : j ≤ j') : Duo w wr g gp id m f fw ch T base d gd go cap f2 j' where
  t := h.t
  ok := h.ok
  chr := h.chr
  role := h.role
  doc := by
    obtain ⟨TU, AA, CC, hd, hl⟩ := h.doc
    exact ⟨TU, AA, CC, hd, fun i => Nat.le_trans (hl i) hj⟩
  ok2 := h.ok2
  ups := h.ups
  bs := h.bs
  bw := h.bw
  gg := h.gg
  bel := h.bel
  t0 := h.t0
/-- Both are set. -/
theorem Duo.both {w5 w6 : World} {i : Int} {up : Bool} {cost r r2 : Int} {f2' : Nat → Pt} {TU : Nat → List (Int × Int)} (h : Duo w wr g gp id m f fw ch T base d gd go cap f2 j) (h5 : TreeW w5 g gp id m f' fw ch) (t5 : Touch (fun k => k = g ∨ k = gp) wr w5)
    (hc : if (0 ≤ i ∧ i < m) ∧ 1 ≤ cost ∧ cost ≤ 16777216 then r = 0 ∧ f' = setP id m T f i.toNat up cost else r = 1 ∧ f' = f)
    (hl : ∀ i, (TU i).length ≤ j) (h6 : DocN w5 w6 base d gd go cap id m f2' TU (fun _ => false) (-1))
    (hc2 : if (0 ≤ i ∧ i < m) ∧ 1 ≤ cost ∧ cost ≤ 16777216 then r2 = 0 ∧ f2' = setP id m T f2 i.toNat up cost else r2 = 1 ∧ f2' = f2) :
    Duo w w6 g gp id m f' fw ch T base d gd go cap f2' (j + 1) := by
  obtain ⟨⟨TU', AA', CC', hd6, hl6⟩, t6⟩ := h6
  have hn := tree_doc (base := base) h5
  have hb5 : Below w.heap.size w w5 := below_touch h.bel t5 h.gg
  have hb6 : Below base w5 w6 := docq_bel t6 (Nat.le_trans h.bs t5.size)
  have hg : w.heap.size ≤ base := h.bw
  have hrest : POk T m f' ∧ POk T m f2' ∧ (∀ i, i < m → (f' i).role = roleP id m f' i) ∧ (∀ i, i < m → (f2' i).up = (f' i).up) := by
    by_cases hcc : (0 ≤ i ∧ i < m) ∧ 1 ≤ cost ∧ cost ≤ 16777216
    · rw [if_pos hcc] at hc hc2
      obtain ⟨_, rfl⟩ := hc
      obtain ⟨_, rfl⟩ := hc2
      refine ⟨h.ok.setP id h.t0 (by omega) up (by omega) hcc.2.2, h.ok2.setP id h.t0 (by omega) up (by omega) hcc.2.2, fun q hq => anew_role _ _ _ _ _ hq, fun q hq => ?_⟩
      rw [setP_up, setP_up]
      by_cases e : q = i.toNat
      · rw [if_pos e, if_pos e]
      · rw [if_neg e, if_neg e]
        exact h.ups q hq
    · rw [if_neg hcc] at hc hc2
      obtain ⟨_, rfl⟩ := hc
      obtain ⟨_, rfl⟩ := hc2
      exact ⟨h.ok, h.ok2, h.role, h.ups⟩
  exact ⟨h5.touch t6 (hn g (.inl rfl)) (hn gp (.inr rfl)), hrest.1, h.chr, hrest.2.2.1, ⟨TU', AA', CC', hd6, fun q => by have := hl6 q; have := hl q; omega⟩, hrest.2.1, hrest.2.2.2, Nat.le_trans h.bs (Nat.le_trans t5.size t6.size), h.bw, h.gg,
    ⟨hb6.os.trans hb5.os, hb6.tape.trans hb5.tape, hb6.output.trans hb5.output, Nat.le_trans hb5.size hb6.size, fun k hk => (hb6.block k (by omega)).trans (hb5.block k hk)⟩, h.t0⟩
end
set_option maxHeartbeats 8000000 in
theorem walkTreeForgets (id p : Int) (A : Option Addr) (c : Nat) (l : List St) (w : World) (hid : (Lit.int .i64 id).wf = true) (_hp : (Lit.int .i64 p).wf = true) (hl : StAt w w.heap.size A l ∧ (∀ x ∈ l, x.ok) ∧ l.length ≤ maxLen) :
    Calls Try.prog 7 #[.int .i64 id, .int .i64 p, .slice A l.length c] w fun e w' => e = .returned (.bool true) ∧ Below w.heap.size w w' := by
  have hi := (wf_in hid).2
  have HAL := Lib.hid (talive_any w)
  have HG := Lib.hid (fun w (h : StAt w w.heap.size A l) => tgreat_any A c l w h hl.2.2)
  have HL := Lib.hid hl
  obtain ⟨n, hn⟩ : ∃ n, l.length = n := ⟨_, rfl⟩
  rw [hn] at HG ⊢
  have HN := Lib.hid hn
  have HBR := Lib.hid (fun w => rbridge_any id hi w)
  have HI := Lib.hid hi
  have n0 : (0 : Int) ≤ n := by omega
  clear hl hn hid _hp hi
  go_enter Try.func7, Try.ntmps7
  go_wp2_with fail
  refine HAL.out.mono ?_
  rintro e w1 ⟨rfl, b1⟩
  have hs1 : StAt w1 w1.heap.size A l := fun k hk => by
    obtain ⟨b, off, e, hb, hc⟩ := HL.out.1 k hk
    exact ⟨b, off, e, Nat.lt_of_lt_of_le hb b1.size, hc.below b1 hb⟩
  have HGG := Lib.hid (HG.out w1 hs1)
  have HB1 := Lib.hid b1
  clear hs1 b1
  go_wp2_with fail
  refine HGG.out.mono ?_
  rintro e w2 (⟨rfl, b2⟩ | ⟨rfl, ⟨hn100, hpl⟩, b2⟩)
  · have hf := HB1.out.trans (b2.mono HB1.out.size)
    clear b2
    go_wp2_with fail
    go_ret
    exact ⟨rfl, hf⟩
  have HP := Lib.hid (And.intro hn100 (And.intro hpl (HB1.out.trans (b2.mono HB1.out.size))))
  clear b2 hn100 hpl
  by_cases hbr : nameB id = true
  rotate_left
  · have hbr : nameB id = false := by cases h : nameB id <;> simp_all
    rw [hbr] at HBR
    clear hbr
    go_wp2_with (go_at_call 11; refine (HBR.out _).mono ?_; rintro e w' ⟨rfl, rfl⟩)
    go_ret
    exact ⟨rfl, HP.out.2.2⟩
  rw [hbr] at HBR
  have HID := Lib.hid hbr
  clear hbr
  by_cases hp1 : p < 1
  · go_wp2_with (go_at_call 11; refine (HBR.out _).mono ?_; rintro e w' ⟨rfl, rfl⟩)
    go_ret
    exact ⟨rfl, HP.out.2.2⟩
  by_cases hp6 : 6 < p
  · have d1 : decide (p < 1) = false := decide_eq_false hp1
    clear hp1
    go_wp2_with (go_at_call 11; refine (HBR.out _).mono ?_; rintro e w' ⟨rfl, rfl⟩)
    go_ret
    exact ⟨rfl, HP.out.2.2⟩
  obtain ⟨m, rfl⟩ : ∃ m : Nat, p = m := ⟨p.toNat, by omega⟩
  have d1 : decide ((m : Int) < 1) = false := decide_eq_false hp1
  have d6 : decide (6 < (m : Int)) = false := decide_eq_false hp6
  have HM := Lib.hid (show 1 ≤ m ∧ m ≤ 6 by omega)
  have HNW := Lib.hid (tnew_ok id m HI.out HID.out HM.out.1 HM.out.2)
  have m0 : (0 : Int) ≤ m := by omega
  clear hp1 hp6
  have HN2 := Lib.hid (fun w => rtnew_ok id m HM.out.1 HM.out.2 w)
  go_wp2_with (go_at_call 11; refine (HBR.out _).mono ?_; rintro e w' ⟨rfl, rfl⟩)
  refine (HNW.out _).mono ?_
  rintro e w3 ⟨g, gp, rfl, h3, b3, hg, hgp⟩
  go_wp2_with fail
  refine (HN2.out _).mono ?_
  rintro e w4 ⟨d, gd, go, cap, rfl, h4, b4⟩
  have hb3 := HP.out.2.2.trans (b3.mono HP.out.2.2.size)
  have hst : Duo w w4 g gp id m (fun _ => ptN) (fun _ => false) (-1) 0 w3.heap.size d gd go cap (fun _ => ptN) 0 :=
    ⟨TreeAt.below h3 b4, ptN_okm m, .inl rfl, fun i _ => rfl, ⟨_, _, _, h4, fun _ => Nat.le_refl _⟩, ptN_okm m, fun _ _ => rfl, b4.size, hb3.size, ⟨Nat.le_trans HP.out.2.2.size hg, Nat.le_trans HP.out.2.2.size hgp⟩, hb3.trans (b4.mono hb3.size), Int.le_refl _⟩
  have HST := Lib.hid hst
  obtain ⟨base, hbase⟩ : ∃ base, w3.heap.size = base := ⟨_, rfl⟩
  rw [hbase] at HST
  clear h3 b3 hg hgp h4 b4 hb3 hst hbase
  go_wp2_with fail
  go_loopw [9, 41] (fun nv iv wr => ∃ (j : Nat) (f : Nat → Pt) (fw : Nat → Bool) (ch T : Int) (f2 : Nat → Pt), j ≤ n ∧ iv = .int .i64 j ∧ nv = .int .i64 T ∧ Hid (Duo w wr g gp id m f fw ch T base d gd go cap f2 j ∧ T ≤ 1000 * j)) (fun _ iv _ => n - (intOf iv).toNat)
  case atStart => exact ⟨0, fun _ => ptN, fun _ => false, -1, 0, fun _ => ptN, Nat.zero_le _, rfl, rfl, Lib.hid ⟨HST.out, Int.le_refl _⟩⟩
  case round =>
    obtain ⟨j, f, fw, ch, T, f2, hj, rfl, rfl, hS⟩ := hrel
    by_cases hlt : j < n
    rotate_left
    · obtain rfl : n = j := by omega
      have HD := Lib.hid (And.intro hS.out.1 (And.intro hS.out.2 (show Lone m id T 0 (fun i => (f i).up) f from ⟨fun _ _ => rfl, fun i hi => (hS.out.1.ok i hi).at_.2, hS.out.1.role, fun i hi => by have := (hS.out.1.ok i hi).since.2; show _ ≤ T + ((0 : Nat) : Int); omega, fun h => by omega⟩)))
      obtain ⟨U, hU⟩ : ∃ U : Nat → Bool, (fun i => (f i).up) = U := ⟨_, rfl⟩
      rw [hU] at HD
      have HU := Lib.hid (fun i => congrFun hU i)
      clear hS hj hlt hU
      go_wp2_with fail
      go_loopw [9, 12] (fun nv kv wr => ∃ (K N : Int) (f : Nat → Pt) (fw : Nat → Bool) (ch : Int), 0 ≤ K ∧ K ≤ 24 ∧ kv = .int .i64 K ∧ nv = .int .i64 N ∧ Hid (N = T + K ∧ Duo w wr g gp id m f fw ch N base d gd go cap f2 n ∧ Lone m id T K.toNat U f)) (fun _ kv _ => 24 - (intOf kv).toNat)
      case atStart => exact ⟨0, T, f, fw, ch, Int.le_refl _, by decide, rfl, rfl, Lib.hid ⟨(Int.add_zero T).symm, HD.out.1, HD.out.2.2⟩⟩
      case round =>
        obtain ⟨K, N, F, fw', ch', hK0, hK1, rfl, rfl, hS⟩ := hrel
        have hT6 : 0 ≤ T ∧ T ≤ 100000 := ⟨HD.out.1.t0, by have := HD.out.2.1; have := HP.out.1; omega⟩
        by_cases hlt : K < 24
        · have hN := hS.out.1
          obtain ⟨N1, hN1⟩ : ∃ N1, wrap64 (N + 1) = N1 := ⟨_, rfl⟩
          have hN2 : N1 = N + 1 := by rw [← hN1]; exact IntWalk.wrap64_in _ (by omega)
          obtain ⟨K1, hK3⟩ : ∃ K1, wrap64 (K + 1) = K1 := ⟨_, rfl⟩
          have hK2 : K1 = K + 1 := by rw [← hK3]; exact IntWalk.wrap64_in _ (by omega)
          have HTK := Lib.hid (tick_any (now := N1) hS.out.2.1.t HM.out.2 hS.out.2.1.ok hS.out.2.1.t0 (by omega) (by omega) hS.out.2.1.chr)
          have hlo := hS.out.2.2.next
          have e1 : T + ((K.toNat + 1 : Nat) : Int) = N1 := by omega
          have e2 : K.toNat + 1 = K1.toNat := by omega
          rw [e1, e2] at hlo
          have HLO := Lib.hid (And.intro hlo (And.intro hN2 (And.intro hK2 (And.intro hK0 (And.intro hK1 (And.intro hlt hN))))))
          clear hlo hN hN2 hK2 e1 e2 hT6 hK0 hK1
          go_wp2_with fail
          refine HTK.out.mono ?_
          rintro e w5 ⟨A5, c5, rfl, ho5, hn5, h5, t5⟩
          have hNN : N ≤ N1 := by have := HLO.out.2.1; omega
          have HE := Lib.hid (hS.out.2.1.prog h5 t5 (hS.out.2.1.ok.tickP id hS.out.2.1.t0 hNN) (chN_range hS.out.2.1.chr hS.out.2.1.t0 hNN) (fun q hq => anew_role _ _ _ _ _ hq) (fun q _ => tickP_up _ _ _ _ _) hNN)
          clear ho5 hn5 h5 t5 hNN
          go_wp2_with fail
          go_roundw
          case rel =>
            rw [hK3]
            exact ⟨K1, N1, _, _, _, by have := HLO.out; omega, by have := HLO.out; omega, rfl, rfl, Lib.hid ⟨by have := HLO.out; omega, HE.out, HLO.out.1⟩⟩
          case measure =>
            rw [hK3]
            have := HLO.out
            show 24 - K1.toNat < 24 - K.toNat
            omega
        · obtain rfl : K = 24 := by omega
          have hend := hS.out.2.2.end_
          have hN := hS.out.1
          have HE := Lib.hid (And.intro hS.out.2.1 (And.intro hend (And.intro (show N = T + 24 from hN) hS.out.2.2)))
          have HT6 := Lib.hid hT6
          obtain ⟨TU, AA, CC, hd, hl⟩ := hS.out.2.1.doc
          have hd1 := hd.d1
          have hcm : (m : Int) ≤ cap := by have := hd.cap; omega
          have HDD := Lib.hid hd
          clear hend hN hS hK0 hK1 hlt hT6 hd hl
          go_wp2_with fail
          clear hd1
          go_loopw [100] (fun iv wq => ∃ i : Nat, i ≤ m ∧ iv = .int .i64 i ∧ Hid (Below wr.heap.size wr wq)) (fun iv _ => m - (intOf iv).toNat)
          case atStart => exact ⟨0, Nat.zero_le _, rfl, Lib.hid (Below.refl _ _)⟩
          case round =>
            obtain ⟨i, hi, rfl, hQ⟩ := hrel
            have hDu := HE.out.1.below hQ.out
            by_cases hlt : i < m
            · have i1 : (i : Int) < m := by omega
              have i0 : (0 : Int) ≤ i := by omega
              have HJQ := Lib.hid (show wrap64 ((i : Int) + 1) = (i : Int) + 1 from IntWalk.wrap64_in _ (by have := HM.out.2; omega))
              obtain ⟨q0, q1, q2, q3, q4, q5, q6, q7, q8, q9, q10o⟩ := (HDD.out.below hQ.out).ports.cells hlt
              have hro := (HE.out.2.1.2 i hlt).1
              have hso := (HE.out.2.1.2 i hlt).2
              have hN := HE.out.2.2.1
              rw [← hN] at hso
              have hup0 : (f2 i).up = U i := (HE.out.1.ups i hlt).trans (HE.out.2.2.2.up i hlt)
              have hsi := (HE.out.1.ok i hlt).since
              obtain ⟨ai, hai⟩ : ∃ ai, AA i = ai := ⟨_, rfl⟩
              obtain ⟨ti, hti⟩ : ∃ ti, (TU i).length = ti := ⟨_, rfl⟩
              obtain ⟨ci, hci⟩ : ∃ ci, CC i = ci := ⟨_, rfl⟩
              have q10 : wr.cell? ⟨gd, i * 11 + 10, none⟩ = some (.slice (AA i) (TU i).length (CC i)) := q10o
              clear q10o
              rw [hai, hti, hci] at q10
              obtain ⟨x, hx⟩ : ∃ x, f2 i = x := ⟨_, rfl⟩
              rw [hx] at q0 q1 q2 q3 q4 q5 q6 q8 q9 hup0
              obtain ⟨xu, xw, xn, ⟨xr, xc, xb, xp⟩, xa, xt, xro, xsi⟩ := x
              have hup : xu = U i := hup0
              rw [← hup] at hro hso
              have hwr : wrap64 (N - (F i).since) = N - (F i).since := wrap_sub (by have := HT6.out; omega) (by have := HT6.out; omega) hsi.1 (by have := HT6.out; omega)
              have HRO := Lib.hid (fun (w : World) (h : TreeW w g gp id m F fw' ch') => role_in h i hlt)
              have HSO := Lib.hid (fun (w : World) (h : TreeW w g gp id m F fw' ch') => tstate_in h i N hlt hwr)
              rw [hro] at HRO
              rw [hso] at HSO
              have HTA := Lib.hid (fun o => (show TreeW (wr.alloc o) g gp id m F fw' ch' from TreeAt.alloc hDu.t o))
              have HNX := Lib.hid (fun o => hQ.out.alloc hQ.out.size o)
              clear hro hso hN hup hup0 hsi hai hti hci hx hwr hDu hQ hi
              have hk := (Blk.new wr 79 #[.bool xu, .int .i64 xw, .int .i64 xr, .int .i64 xc, .int .i64 xb, .int .i64 xp, .int .i64 xa, .int .i64 0, .bool xn, .int .i64 xt, .slice ai ti ci]).cell 0
              have hT9 := HTA.out (.cells #[.bool xu, .int .i64 xw, .int .i64 xr, .int .i64 xc, .int .i64 xb, .int .i64 xp, .int .i64 xa, .int .i64 0, .bool xn, .int .i64 xt, .slice ai ti ci] 79)
              have hB9 := HNX.out (.cells #[.bool xu, .int .i64 xw, .int .i64 xr, .int .i64 xc, .int .i64 xb, .int .i64 xp, .int .i64 xa, .int .i64 0, .bool xn, .int .i64 xt, .slice ai ti ci] 79)
              have hk : (wr.alloc (.cells #[.bool xu, .int .i64 xw, .int .i64 xr, .int .i64 xc, .int .i64 xb, .int .i64 xp, .int .i64 xa, .int .i64 0, .bool xn, .int .i64 xt, .slice ai ti ci] 79)).cell? ⟨wr.heap.size, 0, none⟩ = some (.bool xu) := hk
              have HK9 := Lib.hid (And.intro hT9 (And.intro hB9 hk))
              clear hT9 hB9 hk
              cases xu
              · go_wp2_with fail
                obtain ⟨hT9, hB9, hk9⟩ := HK9.out
                obtain ⟨G9, hG9⟩ : ∃ G9, wr.heap.size = G9 := ⟨_, rfl⟩
                rw [hG9] at hk9
                generalize wr.alloc _ = W9 at hT9 hB9 hk9 ⊢
                have hT9d : TreeW W9.drew g gp id m F fw' ch' := TreeAt.drew hT9
                have hk9d : W9.drew.cell? ⟨G9, 0, none⟩ = _ := hk9
                go_region_held3 (fun w' => w'.cell? ⟨G9, 0, none⟩ = some (.bool false))
                  (exact hk9d)
                  (first
                    | (go_at_call 15; (with_reducible (refine (HRO.out _ hT9d).mono ?_)); rintro e w' ⟨rfl, rfl⟩)
                    | (go_at_call 16; (with_reducible (refine (HSO.out _ hT9d).mono ?_)); rintro e w' ⟨rfl, rfl⟩))
                go_wp2_with fail
                go_roundw
                case rel =>
                  rw [HJQ.out]
                  exact ⟨i + 1, hlt, by rw [Int.natCast_add]; rfl, Lib.hid (by first | exact hB9.drew | exact hB9)⟩
                case measure =>
                  rw [HJQ.out]
                  show m - ((i : Int) + 1).toNat < m - ((i : Int)).toNat
                  omega
              · go_wp2_with fail
                obtain ⟨hT9, hB9, hk9⟩ := HK9.out
                obtain ⟨G9, hG9⟩ : ∃ G9, wr.heap.size = G9 := ⟨_, rfl⟩
                rw [hG9] at hk9
                generalize wr.alloc _ = W9 at hT9 hB9 hk9 ⊢
                have hT9d : TreeW W9.drew g gp id m F fw' ch' := TreeAt.drew hT9
                have hk9d : W9.drew.cell? ⟨G9, 0, none⟩ = _ := hk9
                go_region_held3 (fun w' => w'.cell? ⟨G9, 0, none⟩ = some (.bool true))
                  (exact hk9d)
                  (first
                    | (go_at_call 15; (with_reducible (refine (HRO.out _ hT9d).mono ?_)); rintro e w' ⟨rfl, rfl⟩)
                    | (go_at_call 16; (with_reducible (refine (HSO.out _ hT9d).mono ?_)); rintro e w' ⟨rfl, rfl⟩))
                go_wp2_with fail
                go_roundw
                case rel =>
                  rw [HJQ.out]
                  exact ⟨i + 1, hlt, by rw [Int.natCast_add]; rfl, Lib.hid (by first | exact hB9.drew | exact hB9)⟩
                case measure =>
                  rw [HJQ.out]
                  show m - ((i : Int) + 1).toNat < m - ((i : Int)).toNat
                  omega
            · obtain rfl : m = i := by omega
              have hbp := HE.out.2.1.1
              have HBE := Lib.hid (tbest_any hDu.t)
              have HRT := Lib.hid (fun (w : World) (h : TreeW w g gp id m F fw' ch') => root_any h)
              rw [hbp] at HBE HRT
              have HDu := Lib.hid hDu
              simp only [Vec.v, Vec.arr, ownV] at HBE
              clear hDu hQ hi hbp hlt
              go_wp2_with fail
              refine HBE.out.mono ?_
              rintro e w7 ⟨rfl, b7⟩
              have h7 : TreeW w7 g gp id m F fw' ch' := TreeAt.below HDu.out.t b7
              have hb7 : Below w.heap.size w w7 := HDu.out.bel.trans (b7.mono HDu.out.bel.size)
              have H7 := Lib.hid (And.intro h7 hb7)
              clear b7 h7 hb7
              go_wp2_with (go_at_call 19; refine (HRT.out _ H7.out.1).mono ?_; rintro e w' ⟨rfl, rfl⟩)
              all_goals first
                | (go_ret; exact ⟨rfl, H7.out.2⟩)
                | (exfalso; simp at *; done)
    have j1 : (j : Int) < n := by omega
    have j0 : (0 : Int) ≤ j := by omega
    have HJ := Lib.hid (show wrap64 ((j : Int) + 1) = (j : Int) + 1 from IntWalk.wrap64_in _ (by have := HP.out.1; omega))
    have hj' : j < l.length := by rw [HN.out]; exact hlt
    obtain ⟨b, off, rfl, hbl, hc⟩ := HL.out.1 j hj'
    have hc := hc.below hS.out.1.bel hbl
    have hxo := HL.out.2.1 (l.getD j st0) (by rw [List.getD_eq_getElem?_getD, List.getElem?_eq_getElem hj']; exact List.getElem_mem hj')
    have hwt := HP.out.2.1 j hlt
    obtain ⟨x, hx⟩ : ∃ x, l.getD j st0 = x := ⟨_, rfl⟩
    rw [hx] at hc hxo hwt
    obtain ⟨k0, k1, k2, k3, ⟨m0', m1, m2, m3, m4, m5, m6⟩, k5⟩ := x
    obtain ⟨q0, q1, q2, q3, q4, q5, q6, q7, q8, q9, q10, q11⟩ := hc
    obtain ⟨W, hW⟩ : ∃ W, wr.alloc (.cells #[.int .i64 k0, .int .i64 k1, .bool k2, .int .i64 k3, .int .i64 m0', .int .i64 m1, .int .i64 m2, .int .i64 m3, .int .i64 m4, .int .i64 m5, .bool m6, .int .i64 k5] 44) = W := ⟨_, rfl⟩
    have hbk : Blk W wr.heap.size 44 #[.int .i64 k0, .int .i64 k1, .bool k2, .int .i64 k3, .int .i64 m0', .int .i64 m1, .int .i64 m2, .int .i64 m3, .int .i64 m4, .int .i64 m5, .bool m6, .int .i64 k5] := by rw [← hW]; exact Blk.new _ _ _
    have hbe : Below wr.heap.size wr W := by rw [← hW]; exact bel_alloc _ _
    have HX := Lib.hid hxo
    have HW := Lib.hid (And.intro (hS.out.1.below hbe) (And.intro hbk (And.intro hwt (And.intro hS.out.2 (And.intro hS.out.1.t.top.lt hS.out.1.t.ports.lt)))))
    have s0 : W.cell? ⟨wr.heap.size, 0, none⟩ = some (.int .i64 k0) := hbk.cell 0
    have s1 : W.cell? ⟨wr.heap.size, 1, none⟩ = some (.int .i64 k1) := hbk.cell 1
    have s2 : W.cell? ⟨wr.heap.size, 2, none⟩ = some (.bool k2) := hbk.cell 2
    have s3 : W.cell? ⟨wr.heap.size, 3, none⟩ = some (.int .i64 k3) := hbk.cell 3
    have s4 : W.cell? ⟨wr.heap.size, 4, none⟩ = some (.int .i64 m0') := hbk.cell 4
    have s5 : W.cell? ⟨wr.heap.size, 5, none⟩ = some (.int .i64 m1) := hbk.cell 5
    have s6 : W.cell? ⟨wr.heap.size, 6, none⟩ = some (.int .i64 m2) := hbk.cell 6
    have s7 : W.cell? ⟨wr.heap.size, 7, none⟩ = some (.int .i64 m3) := hbk.cell 7
    have s8 : W.cell? ⟨wr.heap.size, 8, none⟩ = some (.int .i64 m4) := hbk.cell 8
    have s9 : W.cell? ⟨wr.heap.size, 9, none⟩ = some (.int .i64 m5) := hbk.cell 9
    have s10 : W.cell? ⟨wr.heap.size, 10, none⟩ = some (.bool m6) := hbk.cell 10
    have s11 : W.cell? ⟨wr.heap.size, 11, none⟩ = some (.int .i64 k5) := hbk.cell 11
    clear hbl hx hxo hwt hj' hj hbk hbe
    by_cases e0 : k0 = 0
    · subst e0
      go_wp2_with fail
      refine (tset_f HW.out.1.t HM.out.2 HW.out.1.ok k1 k2 k3).mono ?_
      rintro e w5 ⟨f', r, rfl, h5, t5, hcase⟩
      have hbk5 := HW.out.2.1.touch t5 (fun h => by have := HW.out.2.2.2.2; omega)
      have y1 : w5.cell? ⟨wr.heap.size, 1, none⟩ = some (.int .i64 k1) := hbk5.cell 1
      have y2 : w5.cell? ⟨wr.heap.size, 2, none⟩ = some (.bool k2) := hbk5.cell 2
      have y3 : w5.cell? ⟨wr.heap.size, 3, none⟩ = some (.int .i64 k3) := hbk5.cell 3
      obtain ⟨TU, AA, CC, hd, hl⟩ := HW.out.1.doc
      have HRS := Lib.hid (rset_f (hd.touch t5 (tree_doc HW.out.1.t)) HM.out.2 HW.out.1.ok2 (fun i => by have := hl i; have := HP.out.1; omega) (Nat.le_trans HW.out.1.bs t5.size) k1 k2 k3)
      have H5 := Lib.hid (And.intro h5 (And.intro t5 (And.intro hcase hl)))
      clear h5 t5 hcase hl hd hbk5 s0 s1 s2 s3 s4 s5 s6 s7 s8 s9 s10 s11 q0 q1 q2 q3 q4 q5 q6 q7 q8 q9 q10 q11
      go_wp2_with fail
      refine HRS.out.mono ?_
      rintro e w6 ⟨f2', r2, rfl, h6, hcase2⟩
      have HE := Lib.hid (And.intro (Duo.both HW.out.1 H5.out.1 H5.out.2.1 H5.out.2.2.1 H5.out.2.2.2 h6 hcase2) (show T ≤ 1000 * ((j + 1 : Nat) : Int) from by have := HW.out.2.2.2.1; omega))
      clear h6 hcase2
      go_wp2_with fail
      go_roundw
      case rel =>
        rw [HJ.out]
        exact ⟨j + 1, f', fw, ch, T, f2', hlt, by rw [Int.natCast_add]; rfl, rfl, HE⟩
      case measure =>
        rw [HJ.out]
        show n - ((j : Int) + 1).toNat < n - ((j : Int)).toNat
        omega

    by_cases e1 : k0 = 1
    · subst e1
      go_wp2_with fail
      have hb1 := HX.out
      have hbo : Bp.ok ⟨m0', m1, m2, m3, m4, m5, m6⟩ := ⟨hb1.root, hb1.bcost, hb1.bridge, hb1.bport, hb1.age, hb1.role⟩
      refine (thear_f HW.out.1.t HM.out.2 HW.out.1.ok HW.out.1.t0 k1 ⟨m0', m1, m2, m3, m4, m5, m6⟩ ⟨hbo.root, hbo.cost, hbo.bridge, hbo.port, hbo.age, hbo.role⟩ hbo).mono ?_
      rintro e w5 ⟨f', r, rfl, h5, t5, hcase⟩
      have hk : POk T m f' ∧ (∀ i, i < m → (f' i).role = roleP id m f' i) ∧ (∀ i, i < m → (f' i).up = (f i).up) := by
        by_cases hcc : (0 ≤ k1 ∧ k1 < m) ∧ Bp.takes ⟨m0', m1, m2, m3, m4, m5, m6⟩
        · rw [if_pos hcc] at hcase
          by_cases hu : (f k1.toNat).up = true
          · rw [if_pos hu] at hcase
            obtain ⟨_, rfl⟩ := hcase
            exact ⟨HW.out.1.ok.hearP id HW.out.1.t0 (by omega) ⟨hbo.root, hbo.cost, hbo.bridge, hbo.port⟩ hbo.age hu, fun q hq => anew_role _ _ _ _ _ hq, fun q _ => hearP_up _ _ _ _ _ _ _ _⟩
          · rw [if_neg hu] at hcase
            obtain ⟨_, rfl⟩ := hcase
            exact ⟨HW.out.1.ok, HW.out.1.role, fun _ _ => rfl⟩
        · rw [if_neg hcc] at hcase
          obtain ⟨_, rfl⟩ := hcase
          exact ⟨HW.out.1.ok, HW.out.1.role, fun _ _ => rfl⟩
      have HE := Lib.hid (And.intro ((HW.out.1.prog h5 t5 hk.1 HW.out.1.chr hk.2.1 hk.2.2 (Int.le_refl _)).more (Nat.le_succ j)) (show T ≤ 1000 * ((j + 1 : Nat) : Int) from by have := HW.out.2.2.2.1; omega))
      clear h5 t5 hcase hk hb1 hbo s0 s1 s2 s3 s4 s5 s6 s7 s8 s9 s10 s11 q0 q1 q2 q3 q4 q5 q6 q7 q8 q9 q10 q11
      go_wp2_with fail
      go_roundw
      case rel =>
        rw [HJ.out]
        exact ⟨j + 1, f', fw, ch, T, f2, hlt, by rw [Int.natCast_add]; rfl, rfl, HE⟩
      case measure =>
        rw [HJ.out]
        show n - ((j : Int) + 1).toNat < n - ((j : Int)).toNat
        omega

    by_cases e2 : k0 = 2
    rotate_left
    · have d0 : (k0 == 0) = false := by simpa using e0
      have d1 : (k0 == 1) = false := by simpa using e1
      have d2 : (k0 == 2) = false := by simpa using e2
      have HE := Lib.hid (And.intro (HW.out.1.more (Nat.le_succ j)) (show T ≤ 1000 * ((j + 1 : Nat) : Int) from by have := HW.out.2.2.2.1; omega))
      clear e0 e1 e2
      go_wp2_with fail
      go_roundw
      case rel =>
        rw [HJ.out]
        exact ⟨j + 1, f, fw, ch, T, f2, hlt, by rw [Int.natCast_add]; rfl, rfl, HE⟩
      case measure =>
        rw [HJ.out]
        show n - ((j : Int) + 1).toNat < n - ((j : Int)).toNat
        omega

    subst e2
    have hwt : 0 ≤ k5 ∧ k5 ≤ 1000 := HW.out.2.2.1
    have hT1 := HW.out.2.2.2.1
    have hT0 := HW.out.1.t0
    have hT2' : wrap64 (T + k5) = T + k5 := IntWalk.wrap64_in _ (by have := HP.out.1; omega)
    obtain ⟨T2, hT2⟩ : ∃ T2, wrap64 (T + k5) = T2 := ⟨_, rfl⟩
    have hTT : T ≤ T2 ∧ T2 ≤ 1000 * ((j + 1 : Nat) : Int) ∧ T2 ≤ 1099511627776 := by rw [← hT2, hT2']; have := HP.out.1; omega
    have HTK := Lib.hid (tick_any HW.out.1.t HM.out.2 HW.out.1.ok hT0 hTT.1 hTT.2.2 HW.out.1.chr)
    have HTT := Lib.hid (And.intro hTT hT0)
    have d0 : ((2 : Int) == 0) = false := rfl
    clear hwt hT2' hTT e0 e1 hT1 hT0
    go_wp2_with fail
    refine HTK.out.mono ?_
    rintro e w5 ⟨A5, c5, rfl, ho5, hn5, h5, t5⟩
    have HE := Lib.hid (And.intro ((HW.out.1.prog h5 t5 (HW.out.1.ok.tickP id HTT.out.2 HTT.out.1.1) (chN_range HW.out.1.chr HTT.out.2 HTT.out.1.1) (fun q hq => anew_role _ _ _ _ _ hq) (fun q _ => tickP_up _ _ _ _ _) HTT.out.1.1).more (Nat.le_succ j)) HTT.out.1.2.1)
    clear ho5 hn5 h5 t5
    go_wp2_with fail
    go_roundw
    case rel =>
      rw [HJ.out]
      exact ⟨j + 1, _, _, _, T2, f2, hlt, by rw [Int.natCast_add]; rfl, rfl, HE⟩
    case measure =>
      rw [HJ.out]
      show n - ((j : Int) + 1).toNat < n - ((j : Int)).toNat
      omega

set_option maxRecDepth 100000 in
theorem liftedTreeForgets (os : Os) (started : os.Started) (H : Type) (enc : TypeId × Value → H) :
    ReturnsInHanded {} Try.checked os 7 .any (Rows.treeForgetsSpec.pre6 enc Try.prog Try.f7 Rows.treeForgetsRow.domain false) (Rows.treeForgetsSpec.post enc Try.prog Try.f7 false true false false) := by
  refine returnsInHanded_of_change (C := Try.checked) own started (by kernel_rfl) Try.func7
    (ChangeSpec.witness6 (enc := enc) (C := Try.checked) false ⟨#[], #[.int .i64 0, .int .i64 0, .slice none 0 0], []⟩ 8 (by kernel_rfl) (by kernel_rfl) (by kernel_rfl) (by kernel_rfl)) ?_
  intro W base args ds gs before hval0 hW hcnd _
  have hval : ∀ (j : Nat) t v, Try.f7.params[j]? = some t → args[j]? = some v → Value.okWide Try.prog W .any base t v := hval0
  have hW' := hW
  obtain ⟨p, q, hA0, hV, rfl, hfz, hnd⟩ := hW
  have hA : DataW.TrodAll enc Try.prog W 0 (fun _ => true) true Try.f7.params.toList args.toList ds p := hA0
  rw [Try.params7] at hA hval
  obtain ⟨v0, vs0, d0, ds0, p0, q0, hargs, rfl, rfl, h0, r0⟩ := trodAll_cons hA
  obtain ⟨v1, vs1, d1, ds1, p1, q1, rfl, rfl, rfl, h1, r1⟩ := trodAll_cons r0
  obtain ⟨v2, vs2, d2, ds2, p2, q2, rfl, rfl, rfl, h2, r2⟩ := trodAll_cons r1
  obtain ⟨rfl, rfl, rfl⟩ := trodAll_nil r2
  obtain rfl : args = #[v0, v1, v2] := by cases args; simp_all
  obtain ⟨rfl, rfl⟩ := trodVars_none hV
  obtain ⟨a0, rfl, rfl, rfl, w0⟩ := open_int Try.underlying3 (hval 0 3 v0 rfl rfl) h0
  obtain ⟨a1, rfl, rfl, rfl, w1⟩ := open_int Try.underlying3 (hval 1 3 v1 rfl rfl) h1
  obtain ⟨a2', len2', cap2', rfl⟩ := okWide_slice Try.underlying22 (hval 2 22 v2 rfl rfl)
  have k2 := h2
  have lt2 : ∀ x ∈ p2, x.block < W.heap.size := by obtain ⟨m, hm⟩ := k2; exact DataW.trod_lt m _ _ _ hm
  obtain ⟨a2, cap2, l2, w2, e1, e2, e3⟩ : ∃ a cap, ∃ l : List St, (StAt W W.heap.size a l ∧ (∀ x ∈ l, x.ok) ∧ l.length ≤ maxLen) ∧ a2' = a ∧ len2' = l.length ∧ cap2' = cap := by
    obtain ⟨fuel, hf⟩ := h2
    obtain ⟨a, cap, l, hcs, q⟩ := open_steps hf
    simp [Value.cells] at hcs
    obtain ⟨rfl, rfl, rfl⟩ := hcs
    exact ⟨_, _, l, q, rfl, rfl, rfl⟩
  subst e1 e2 e3
  clear hA0 hval0
  refine (walkTreeForgets a0 a1 a2' cap2' l2 W w0 w1 w2).mono fun e W' ⟨he, bel⟩ => ?_
  subst he
  exact ⟨_, rfl, _, _, _, [], _, [], hW', trodAll_mk1 (shut_bool Try.underlying4 _), (trodAll_cons_mk (shut_int Try.underlying3 w0) (trodAll_cons_mk (shut_int Try.underlying3 w1) (trodAll_cons_mk (Below.trod laidOut (by kernel_rfl) (of_decide_eq_true (by kernel_rfl)) k2 bel lt2) trodAll_mk0))), rfl, bel.frame _, fun h => by cases h⟩

theorem overTreeForgets : Rows.treeForgetsRow.holds Try.pinned (OpenSpec.ofChange Rows.treeForgetsSpec) :=
  OpenClaim.holds_of_wide 7 Try.f7 rfl rfl rfl rfl rfl rfl rfl ⟨rfl, rfl, rfl, rfl, rfl⟩ rfl rfl rfl rfl rfl (by kernel_rfl) Try.func7 (by kernel_rfl)
    (of_decide_eq_true (by kernel_rfl)) (by unfold Func.isWrapper; first | (rw [if_pos (by decide +kernel)]; kernel_rfl) | (rw [if_neg (by decide +kernel)]; exact ⟨rfl, rfl⟩))
    (fun os started H enc _ => liftedTreeForgets os started H enc)

/-- The statement. -/
theorem treeForgets_holds : Rows.TreeForgetsSaid := overTreeForgets


#print axioms treeForgets_holds
end Go.Proofs.Ytonkmbnnbpbhiaa
